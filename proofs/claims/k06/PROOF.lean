import PyProof.Rows.All
import Wide.All
import OpenK.AllK
import Wide.FinOn
import Lean
import PyProof.EqAt
import PyProof.EqKinds
import PyProof.TupleCall
import PyProof.DictCompW
import PyProof.EnumFor
import PyProof.EnumStmt
import PyProof.EnumMake
import PyProof.Rows.EnumRows
import PyProof.Rows.SetFrom
import PyProof.Rows.LoopUnroll
import PyProof.Draws
import PyProof.ExcClass3
import PyProof.ExcInit
import PyProof.InstStoreFacts
import PyProof.ExcArgs
import PyProof.ExcBaseAll.ValueError
import PyProof.NsDelKeeps
import PyProof.RulesAs
import KE.KTryMore
import KE.IntBitsLaws
import PyProof.FitsBits
import PyProof.Rows.FStr
import PyProof.Rows.StrNews2
import PyProof.Rows.StrNews
import PyProof.ReprBulk
import PyProof.NeKinds
import PySem.Challenge.RW_alwaysmeet_k06_refusals_apart
set_option Elab.async false
set_option linter.all false
set_option maxRecDepth 100000
namespace L2
open PySem PySem.Spec PyProof.Rows
abbrev Key := Sum Int Str
def keyIs : Key → Value → Bool
  | .inl k, v => Value.isInt k v
  | .inr x, v => Value.isStrOf x v
def keyH (w : World) : Key → Int
  | .inl k => hashInt k
  | .inr x => hashStr w x
theorem keyIs_shape : ∀ {k : Key} {v : Value}, keyIs k v = true → (∃ i t, k = Sum.inl i ∧ v = Value.int i t) ∨ (∃ x t, k = Sum.inr x ∧ v = Value.str x t)
  | .inl i, v, h => by
    obtain ⟨t, e⟩ := Value.isInt_shape (k := i) (v := v) h
    exact .inl ⟨i, t, rfl, e⟩
  | .inr x, v, h => by
    obtain ⟨t, e⟩ := Value.isStrOf_shape (x := x) (v := v) h
    exact .inr ⟨x, t, rfl, e⟩
theorem keyIs_int (i : Int) (t : Tok) : keyIs (.inl i) (.int i t) = true := by simp [keyIs, Value.isInt]
theorem keyIs_str (x : Str) (t : Tok) : keyIs (.inr x) (.str x t) = true := by simp [keyIs, Value.isStrOf]
theorem key_ll (a b : Int) : decide ((Sum.inl a : Key) = Sum.inl b) = (a == b) := by
  by_cases e : a = b
  · subst e; simp
  · have h : ¬ (Sum.inl a : Key) = Sum.inl b := fun q => e (Sum.inl.inj q)
    rw [decide_eq_false h]
    exact (beq_eq_false_iff_ne.mpr e).symm
theorem key_rr (a b : Str) : decide ((Sum.inr a : Key) = Sum.inr b) = decide (a = b) := by
  by_cases e : a = b
  · subst e; simp
  · have h : ¬ (Sum.inr a : Key) = Sum.inr b := fun q => e (Sum.inr.inj q)
    rw [decide_eq_false h, decide_eq_false e]
theorem key_lr (a : Int) (b : Str) : decide ((Sum.inl a : Key) = Sum.inr b) = false := decide_eq_false (fun q => nomatch q)
theorem key_rl (a : Str) (b : Int) : decide ((Sum.inr a : Key) = Sum.inl b) = false := decide_eq_false (fun q => nomatch q)
def mixKind (prog : Program) (w : World) : PySem.KeyKind prog w Key where
  is := keyIs
  hash := keyH w
  inj := fun v a b ha hb => by
    rcases keyIs_shape ha with ⟨i, t, rfl, rfl⟩ | ⟨x, t, rfl, rfl⟩
    · rcases keyIs_shape hb with ⟨j, u, rfl, e⟩ | ⟨y, u, rfl, e⟩
      · injection e with e1 _; rw [e1]
      · exact nomatch e
    · rcases keyIs_shape hb with ⟨j, u, rfl, e⟩ | ⟨y, u, rfl, e⟩
      · exact nomatch e
      · injection e with e1 _; rw [e1]
  byValue := fun k v h => by
    rcases keyIs_shape h with ⟨i, t, rfl, rfl⟩ | ⟨x, t, rfl, rfl⟩ <;> rfl
  pyHash := fun hv h => by
    rcases keyIs_shape hv with ⟨i, t, rfl, rfl⟩ | ⟨x, t, rfl, rfl⟩
    · exact wpAny_pyHash_int h
    · exact wpAny_pyHash_str h
  eqBool := fun hu hv h => by
    rcases keyIs_shape hu with ⟨i, t, rfl, rfl⟩ | ⟨x, t, rfl, rfl⟩
    · rcases keyIs_shape hv with ⟨j, u, rfl, rfl⟩ | ⟨y, u, rfl, rfl⟩
      · rw [key_ll] at h; exact wpAny_eqBool_int h
      · rw [key_lr] at h; exact SeqAt.EqAt.int_str i t y u _ _ _ _ h
    · rcases keyIs_shape hv with ⟨j, u, rfl, rfl⟩ | ⟨y, u, rfl, rfl⟩
      · rw [key_rl] at h; exact SeqAt.EqAt.str_int x t j u _ _ _ _ h
      · rw [key_rr] at h; exact wpAny_eqBool_str h
  «strs» := fun k x t v h => by
    rcases keyIs_shape h with ⟨i, u, rfl, e⟩ | ⟨y, u, rfl, e⟩
    · exact nomatch e
    · injection e with e1 _
      subst e1
      cases v <;> rfl
theorem mixKind_is (prog : Program) (w : World) (k : Key) (v : Value) : (mixKind prog w).is k v = keyIs k v := rfl
theorem mixKind_int (prog : Program) (w : World) (i : Int) (t : Tok) : (mixKind prog w).is (.inl i) (.int i t) = true := keyIs_int i t
theorem mixKind_str (prog : Program) (w : World) (x : Str) (t : Tok) : (mixKind prog w).is (.inr x) (.str x t) = true := keyIs_str x t
end L2
namespace L2
open PySem PySem.Spec PyProof.Rows
inductive V where
  | non | bl (b : Bool) | int (i : Int) | str (x : Str) | byt (b : Array UInt8) | flt (b : UInt64) | ref (a : Addr) | ty (n : String)
  deriving DecidableEq
def RelV : V → Value → Prop
  | .non, u => u = Value.none
  | .bl b, u => u = Value.bool b
  | .int i, u => ∃ t, u = Value.int i t
  | .str x, u => ∃ t, u = Value.str x t
  | .byt b, u => ∃ t, u = Value.bytes b t
  | .flt b, u => ∃ t, u = Value.float b t
  | .ref a, u => u = Value.ref a
  | .ty n, u => u = Value.type n
abbrev Vals : List V → List Value → Prop := Paired RelV
theorem Vals.length {xs : List V} {us : List Value} (r : Vals xs us) : xs.length = us.length := Paired.length r
theorem Vals.get : ∀ {xs : List V} {us : List Value} {i : Nat} {x : V}, Vals xs us → xs[i]? = some x → ∃ u, us[i]? = some u ∧ RelV x u
  | _, _, _, _, .nil, e => by simp at e
  | _, _, 0, _, .cons r _, e => by simp at e; subst e; exact ⟨_, rfl, r⟩
  | _, _, i + 1, x, .cons _ t, e => by
    obtain ⟨u, h1, h2⟩ := Vals.get (i := i) (x := x) t (by simpa using e)
    exact ⟨u, by simpa using h1, h2⟩
theorem Vals.set {x : V} {u : Value} (r : RelV x u) : ∀ {xs : List V} {us : List Value} (i : Nat), Vals xs us → Vals (xs.set i x) (us.set i u)
  | _, _, _, .nil => .nil
  | _, _, 0, .cons _ t => .cons r t
  | _, _, i + 1, .cons q t => .cons q (Vals.set r i t)
theorem Vals.append : ∀ {xs ys : List V} {us ws : List Value}, Vals xs us → Vals ys ws → Vals (xs ++ ys) (us ++ ws)
  | _, _, _, _, .nil, s => s
  | _, _, _, _, .cons r t, s => .cons r (Vals.append t s)
theorem Vals.take : ∀ {xs : List V} {us : List Value} (n : Nat), Vals xs us → Vals (xs.take n) (us.take n)
  | _, _, 0, _ => .nil
  | _, _, _ + 1, .nil => .nil
  | _, _, n + 1, .cons r t => .cons r (Vals.take n t)
theorem Vals.drop : ∀ {xs : List V} {us : List Value} (n : Nat), Vals xs us → Vals (xs.drop n) (us.drop n)
  | _, _, 0, r => r
  | _, _, _ + 1, .nil => .nil
  | _, _, n + 1, .cons _ t => Vals.drop n t
def RelO : Option V → Option Value → Prop
  | some v, some u => RelV v u
  | none, none => True
  | _, _ => False
def KV {κ : Type} : List (κ × V) → List (κ × Value) → Prop := Paired fun (p : κ × V) (q : κ × Value) => p.1 = q.1 ∧ RelV p.2 q.2
def kV : Key → V
  | .inl i => .int i
  | .inr x => .str x
inductive HO where
  | lst (xs : List V)
  | tup (xs : List V)
  | dK (kvs : List (Key × V)) | dT (kvs : List (List Key × V))
  | set (S : Int → Bool) (n : Nat)
  | ins (C dx : Addr) (fs : List (Str × V))
  | own (x : Addr)
  | xd (fs : List (Str × V))
  | met (f x : Addr)
  | rng (lo hi : Int)
  | frz (o : Obj) (u : HO)
  | tbl (ps : Array Value)
  | ext (φ : Heap → Prop)
abbrev Hp := Addr → Option HO
def upd (H : Hp) (a : Addr) (o : HO) : Hp := fun b => if b = a then some o else H b
theorem upd_same {H : Hp} {a : Addr} {o : HO} : upd H a o a = some o := by unfold upd; rw [if_pos rfl]
theorem upd_ne {H : Hp} {a b : Addr} {o : HO} (h : b ≠ a) : upd H a o b = H b := by unfold upd; rw [if_neg h]
theorem upd_upd {H : Hp} {a : Addr} {o u : HO} : upd (upd H a o) a u = upd H a u := by
  funext b; unfold upd; split <;> rfl
theorem ne_of_none {H : Hp} {a b : Addr} {o : HO} (h : H a = some o) (h' : H b = none) : a ≠ b := by
  intro e; subst e; rw [h] at h'; cases h'
section
variable (P : Program) (w : World)
def ObjOk (H : Hp) (h : Heap) (a : Addr) : HO → Prop
  | .lst xs => xs.length ≤ sizeLine ∧ ∃ (its : List Value) (n : Nat), Vals xs its ∧ h.get? a = some { cls := .type "list", data := .seq its.toArray n }
  | .tup xs => xs.length ≤ sizeLine ∧ ∃ its : List Value, Vals xs its ∧ IsTup h a its.toArray
  | .dK kvs => kvs.length ≤ sizeLine ∧ (a == sysModules) = false ∧ ∃ vs, KV kvs vs ∧ h.DictOf (mixKind P w) a vs
  | .dT kvs => kvs.length ≤ sizeLine ∧ (a == sysModules) = false ∧ ∃ xs : List (List Key × Addr × Value),
      Paired (fun (p : List Key × V) (q : List Key × Addr × Value) => p.1 = q.1 ∧ H q.2.1 = some (.tup (p.1.map kV)) ∧ RelV p.2 q.2.2) kvs xs ∧
      ∃ o es ep, h.get? a = some o ∧ o.ExactDict ∧ o.data = .dict es ep ∧ es.toList = xs.map (entryOfKey (tupleKind (mixKind P w))) ∧ (xs.map (·.1)).Nodup
  | .set S n => h.SetOf (intKind P w) a S n
  | .ins C dx fs => H dx = some (.own a) ∧ fs.length ≤ 1000 ∧ dx ≠ a ∧ h.get? a = some (PySem.W.instObj C dx) ∧
      ∃ mA, h.Ns1 dx mA ∧ (∀ f, RelO (fs.lookup f) (mA f)) ∧ PySem.Within mA (fs.map (·.1))
  | .own _ => ∃ o, h.get? a = some o
  | .xd fs => ∃ mA, h.Ns1 a mA ∧ ∀ f, RelO (fs.lookup f) (mA f)
  | .rng lo hi => ∃ t u v, h.get? a = some { cls := .type "range", data := .fields #[.int lo t, .int hi u, .int 1 v] }
  | .frz o u => h.get? a = some o ∧ ObjOk H h a u
  | .tbl ps => h.get? a = some { cls := .none, data := .fields ps }
  | .met f x => h.get? a = some (PySem.W.methodObj (.ref f) (.ref x))
  | .ext φ => φ h ∧ (∃ o, h.get? a = some o) ∧ ∀ h1 h2 : Heap, φ h1 → (∀ o, h1.get? a = some o → h2.get? a = some o) → φ h2
def HOk (H : Hp) (h : Heap) : Prop := ∀ a o, H a = some o → ObjOk P w H h a o
end
section
variable {P : Program} {w : World} {H H' : Hp} {h h' : Heap} {a : Addr} {o : HO}
theorem ObjOk.lt (x : ObjOk P w H h a o) : a < h.objs.size := by
  cases o with
  | lst xs => obtain ⟨_, _, _, _, e⟩ := x; exact Heap.lt_size e
  | tup xs => obtain ⟨_, _, _, p⟩ := x; exact p.lt
  | dK kvs => obtain ⟨_, _, _, _, o, _, _, e, _⟩ := x; exact Heap.lt_size e
  | dT kvs => obtain ⟨_, _, _, _, o, _, _, e, _⟩ := x; exact Heap.lt_size e
  | set S n => obtain ⟨o, _, _, _, e, _⟩ := x; exact Heap.lt_size e
  | ins C dx fs => obtain ⟨_, _, _, e, _⟩ := x; exact Heap.lt_size e
  | own y => obtain ⟨_, e⟩ := x; exact Heap.lt_size e
  | xd fs => obtain ⟨_, ⟨_, _, _, e, _⟩, _⟩ := x; exact Heap.lt_size e
  | rng lo hi => obtain ⟨_, _, _, e⟩ := x; exact Heap.lt_size e
  | frz ob u => obtain ⟨e, _⟩ := x; exact Heap.lt_size e
  | tbl ps => exact Heap.lt_size (show h.get? a = some _ from x)
  | met f y => exact Heap.lt_size (show h.get? a = some _ from x)
  | ext φ => obtain ⟨_, ⟨_, e⟩, _⟩ := x; exact Heap.lt_size e
theorem Paired.mapP {α β : Type} {F G : α → β → Prop} : ∀ {l₁ : List α} {l₂ : List β}, Paired F l₁ l₂ → (∀ a b, F a b → G a b) → Paired G l₁ l₂
  | _, _, .nil, _ => .nil
  | _, _, .cons r t, f => .cons (f _ _ r) (Paired.mapP t f)
theorem ObjOk.stay (x : ObjOk P w H h a o) (k : ∀ b u, (b = a ∨ H b = some (.own a)) → h.get? b = some u → h'.get? b = some u)
    (ho : ∀ b, H b = some (.own a) → H' b = some (.own a)) (ht : ∀ b xs, H b = some (.tup xs) → H' b = some (.tup xs)) : ObjOk P w H' h' a o := by
  induction o with
  | lst xs => obtain ⟨z, its, n, r, e⟩ := x; exact ⟨z, its, n, r, k _ _ (.inl rfl) e⟩
  | tup xs => obtain ⟨z, its, r, ob, e, c⟩ := x; exact ⟨z, its, r, ob, k _ _ (.inl rfl) e, c⟩
  | dK kvs => obtain ⟨z, y, vs, r, ob, es, ep, e, c⟩ := x; exact ⟨z, y, vs, r, ob, es, ep, k _ _ (.inl rfl) e, c⟩
  | dT kvs =>
    obtain ⟨z, y, xs, r, ob, es, ep, e, c⟩ := x
    exact ⟨z, y, xs, Paired.mapP r fun p q z => ⟨z.1, ht _ _ z.2.1, z.2.2⟩, ob, es, ep, k _ _ (.inl rfl) e, c⟩
  | set S n => obtain ⟨ob, es, ep, t, e, c⟩ := x; exact ⟨ob, es, ep, t, k _ _ (.inl rfl) e, c⟩
  | ins C dx fs =>
    obtain ⟨d, z, ne, e, mA, ⟨od, es, ep, e2, c⟩, r⟩ := x
    exact ⟨ho _ d, z, ne, k _ _ (.inl rfl) e, mA, ⟨od, es, ep, k _ _ (.inr d) e2, c⟩, r⟩
  | own y => obtain ⟨ob, e⟩ := x; exact ⟨ob, k _ _ (.inl rfl) e⟩
  | xd fs => obtain ⟨mA, ⟨od, es, ep, e, c⟩, r⟩ := x; exact ⟨mA, ⟨od, es, ep, k _ _ (.inl rfl) e, c⟩, r⟩
  | rng lo hi => obtain ⟨t, u, v, e⟩ := x; exact ⟨t, u, v, k _ _ (.inl rfl) e⟩
  | frz ob u ih => obtain ⟨e, q⟩ := x; exact ⟨k _ _ (.inl rfl) e, ih q⟩
  | tbl ps =>
    have e : h.get? a = some { cls := .none, data := .fields ps } := x
    show h'.get? a = some { cls := .none, data := .fields ps }
    exact k a _ (.inl rfl) e
  | met f y =>
    have e : h.get? a = some (PySem.W.methodObj (.ref f) (.ref y)) := x
    show h'.get? a = some (PySem.W.methodObj (.ref f) (.ref y))
    exact k a _ (.inl rfl) e
  | ext φ => obtain ⟨p, ⟨o, e⟩, st⟩ := x; exact ⟨st _ _ p fun o q => k _ _ (.inl rfl) q, ⟨o, k _ _ (.inl rfl) e⟩, st⟩
theorem HOk.lt (x : HOk P w H h) (e : H a = some o) : a < h.objs.size := (x a o e).lt
theorem HOk.fresh (x : HOk P w H h) (e : h.objs.size ≤ a) : H a = none := by
  cases q : H a with
  | none => rfl
  | some u => exact absurd (Nat.lt_of_lt_of_le (x.lt q) e) (Nat.lt_irrefl _)
theorem HOk.kept (x : HOk P w H h) (k : ∀ b u, h.get? b = some u → h'.get? b = some u) : HOk P w H h' := fun a o e =>
  (x a o e).stay (fun b u _ q => k b u q) (fun _ q => q) fun _ _ q => q
theorem HOk.laid (x : HOk P w H h) (k : ∀ b u, h.get? b = some u → h'.get? b = some u) (hp : h.objs.size ≤ a) (new : ObjOk P w (upd H a o) h' a o) : HOk P w (upd H a o) h' := fun b u e => by
  have hn := x.fresh hp
  by_cases hb : b = a
  · subst hb; rw [upd_same] at e; cases e; exact new
  · rw [upd_ne hb] at e
    exact (x b u e).stay (fun c v _ q => k c v q) (fun c q => by rw [upd_ne (ne_of_none q hn)]; exact q) fun c xs q => by rw [upd_ne (ne_of_none q hn)]; exact q
end
def Rd (H : Hp) (a : Addr) (u : HO) : Prop := H a = some u ∨ ∃ o, H a = some (.frz o u)
theorem Rd.ok {P : Program} {w : World} {H : Hp} {h : Heap} {a : Addr} {u : HO} (r : Rd H a u) (x : HOk P w H h) : ObjOk P w H h a u := by
  rcases r with r | ⟨o, r⟩
  · exact x a u r
  · obtain ⟨_, q⟩ := x a _ r
    exact q
def Mut : Option HO → Prop
  | some (.lst _) => True
  | some (.dK _) => True
  | some (.dT _) => True
  | some (.set _ _) => True
  | some (.ins _ _ _) => True
  | some (.ext _) => True
  | _ => False
section
variable {P : Program} {w : World} {H : Hp} {h h' : Heap} {x e : Addr} {o' : HO}
theorem HOk.write (ok : HOk P w H h) (mu : Mut (H x)) (he : e = x ∨ H e = some (.own x)) (k : ∀ b u, b ≠ e → h.get? b = some u → h'.get? b = some u) (heo : ∃ u, h'.get? e = some u)
    (new : ObjOk P w (upd H x o') h' x o') : HOk P w (upd H x o') h' := fun b u q => by
  have nown : ∀ c y, H c = some (.own y) → c ≠ x := fun c y r z => by subst z; rw [r] at mu; exact mu
  have ntup : ∀ c xs, H c = some (.tup xs) → c ≠ x := fun c xs r z => by subst z; rw [r] at mu; exact mu
  by_cases hb : b = x
  · subst hb; rw [upd_same] at q; cases q; exact new
  · rw [upd_ne hb] at q
    by_cases hbe : b = e
    · have q' : H b = some (.own x) := by
        rcases he with z | z
        · exact absurd (hbe.trans z) hb
        · rw [hbe]; exact z
      rw [q] at q'; cases q'
      obtain ⟨v, hv⟩ := heo
      exact ⟨v, by rw [hbe]; exact hv⟩
    · refine (ok b u q).stay (fun c v hc r => k c v ?_ r) (fun c r => by rw [upd_ne (nown c b r)]; exact r) fun c xs r => by rw [upd_ne (ntup c xs r)]; exact r
      rcases hc with rfl | hc
      · exact hbe
      · rintro rfl
        rcases he with z | z
        · exact nown c b hc z
        · rw [hc] at z; cases z; exact hb rfl
end
structure Un (fs ex : List Addr) (H H' : Hp) (h h' : Heap) : Prop where
  keep : ∀ b o, h.get? b = some o → H b = none → b ∉ fs → b ∉ ex → h'.get? b = some o
  slot : ∀ b o, h.get? b = some o → H b = none → b ∈ fs → b ∉ ex → ∃ sl, h'.get? b = some { o with slots := sl }
  free : ∀ b o, h.get? b = some o → H b = none → b ∉ ex → H' b = none
  there : ∀ b o, h.get? b = some o → b ∉ ex → ∃ o', h'.get? b = some o'
  tups : ∀ b xs, H b = some (.tup xs) → H' b = some (.tup xs)
  frzs : ∀ b o u, H b = some (.frz o u) → H' b = some (.frz o u)
  tbls : ∀ b ps, H b = some (.tbl ps) → ∃ more, H' b = some (.tbl (ps ++ more))
section
variable {fs fs' ex ex' : List Addr} {H H1 H2 : Hp} {h h1 h2 h' : Heap} {a x e : Addr} {o : HO}
theorem Un.any (u : Un fs ex H H1 h h1) {b : Addr} {ob : Obj} (q : h.get? b = some ob) (n : H b = none) (hx : b ∉ ex) : ∃ sl, h1.get? b = some { ob with slots := sl } := by
  by_cases hb : b ∈ fs
  · exact u.slot b ob q n hb hx
  · exact ⟨ob.slots, u.keep b ob q n hb hx⟩
theorem Un.kept (k : ∀ b u, h.get? b = some u → h'.get? b = some u) : Un fs ex H H h h' :=
  ⟨fun b ob q _ _ _ => k b ob q, fun b ob q _ _ _ => ⟨ob.slots, k b ob q⟩, fun _ _ _ n _ => n, fun b ob q _ => ⟨ob, k b ob q⟩, fun _ _ q => q, fun _ _ _ q => q, fun _ ps q => ⟨#[], by rw [q]; simp⟩⟩
theorem Un.refl : Un fs ex H H h h := Un.kept fun _ _ q => q
theorem Un.laid (k : ∀ b u, h.get? b = some u → h'.get? b = some u) (hp : h.objs.size ≤ a) (hn : H a = none) : Un fs ex H (upd H a o) h h' where
  keep := fun b u q _ _ _ => k b u q
  slot := fun b u q _ _ _ => ⟨u.slots, k b u q⟩
  free := fun b u q n _ => by rw [upd_ne (Nat.ne_of_lt (Nat.lt_of_lt_of_le (Heap.lt_size q) hp))]; exact n
  there := fun b u q _ => ⟨u, k b u q⟩
  tups := fun b xs q => by rw [upd_ne (ne_of_none q hn)]; exact q
  frzs := fun b u xs q => by rw [upd_ne (ne_of_none q hn)]; exact q
  tbls := fun b ps q => ⟨#[], by rw [upd_ne (ne_of_none q hn), q]; simp⟩
theorem Un.write (mu : Mut (H x)) (he : e = x ∨ H e = some (.own x)) (k : ∀ b u, b ≠ e → h.get? b = some u → h'.get? b = some u) (heo : ∃ u, h'.get? e = some u) : Un fs ex H (upd H x o) h h' := by
  have hx : ∀ b, H b = none → b ≠ x := fun b n z => by subst z; rw [n] at mu; exact mu
  have hb : ∀ b, H b = none → b ≠ e := fun b n z => by
    subst z
    rcases he with r | r
    · exact hx b n r
    · rw [n] at r; cases r
  have hm : ∀ b u, H b = some u → ¬ Mut (some u) → b ≠ x := fun b u q nm z => by subst z; rw [q] at mu; exact nm mu
  refine ⟨fun b u q n _ _ => k b u (hb b n) q, fun b u q n _ _ => ⟨u.slots, k b u (hb b n) q⟩, fun b u q n _ => by rw [upd_ne (hx b n)]; exact n, fun b u q _ => ?_,
    fun b xs q => by rw [upd_ne (hm b _ q fun z => z)]; exact q, fun b u xs q => by rw [upd_ne (hm b _ q fun z => z)]; exact q, fun b ps q => ⟨#[], by rw [upd_ne (hm b _ q fun z => z), q]; simp⟩⟩
  by_cases hbe : b = e
  · subst hbe; exact heo
  · exact ⟨u, k b u hbe q⟩
end
def trk (h : Heap) (H : Hp) : List Addr := (List.range h.objs.size).filter fun a => (H a).isSome
def hidT (h : Heap) (H : Hp) : Heap := PySem.W.hideAll h (trk h H)
theorem hidT_size (h : Heap) (H : Hp) : (hidT h H).objs.size = h.objs.size := PySem.W.hideAll_size _ _
theorem hidT_get {h : Heap} {H : Hp} {b : Addr} {o : Obj} (e : h.get? b = some o) (n : H b = none) : (hidT h H).get? b = some o :=
  PySem.W.hideAll_get _ e fun hm => by
    have q : (H b).isSome = true := (List.mem_filter.mp hm).2
    rw [n] at q; simp at q
theorem of_hidT {h : Heap} {H : Hp} {b : Addr} {o : Obj} (e : (hidT h H).get? b = some o) : h.get? b = some o ∧ H b = none := by
  have e' : h.get? b = some o := PySem.W.of_hideAll (trk h H) e
  refine ⟨e', ?_⟩
  cases q : H b with
  | none => rfl
  | some x =>
    have hm : b ∈ trk h H := List.mem_filter.mpr ⟨List.mem_range.mpr (Heap.lt_size e'), by simp [q]⟩
    have z : (hidT h H).get? b = none := PySem.W.hideAll_none (trk h H) hm
    rw [z] at e; cases e
def allNews (g h : Heap) (L : Addr) : List (Addr × Obj) := (List.range h.objs.size).filterMap fun a => if a = L ∨ (g.get? a).isSome = true then none else (h.get? a).map fun o => (a, o)
def rest (g h : Heap) (L d : Addr) : List (Addr × Obj) := (allNews g h L).filter fun p => decide (p.1 ≠ d)
end L2
namespace L2
open PySem PySem.Spec PyProof.Rows
structure Mod (K : PySem.W.Frag) (mg : Str → Option Value) (base : Heap) : Prop where
  kin : K.In base
  glob : base.Ns mainGlobals mg
  blt : ∃ mb, base.Ns builtinsNs mb ∧ ∀ x : Str, x ≠ "__name__" → mb x = bootBuiltins x
  nolimit : base.NoLimit
structure Cx where
  prog : Program
  w : World
  K : PySem.W.Frag
  mg : Str → Option Value
  base : Heap
  A : Around
  N : List Str
  s₀ : Shared
  H₀ : Hp
  env : Env
  outer : List Env
  stack : List Env
  ex : List Addr
  fn : Str → Bool
  calm : Bool
  pn : List (Addr × Obj)
  xe : Value → Shared → Prop
def frs (l : List Env) : List Addr := l.filterMap (·.frame)
abbrev Cx.fs (X : Cx) : List Addr := frs X.outer
def Vis (sc : Scope) (x : Str) : Prop := sc.names.lookup x = some .local ∨ sc.names.lookup x = some .cell ∨ sc.names.lookup x = some .free
def Loc (sc : Scope) (x : Str) : Prop := sc.names.lookup x = some .local ∨ sc.names.lookup x = some .cell
def Look (env : Env) (h : Heap) (m : Str → Option Value) (x : Str) (u : Value) : Prop :=
  (env.kindOf x = some .local ∧ m x = some u) ∨ ((env.kindOf x = some .cell ∨ env.kindOf x = some .free) ∧ ∃ c, env.cells.lookup x = some c ∧ h.IsCell c (some u))
structure Cx.Ok (X : Cx) : Prop where
  mod : Mod X.K X.mg X.base
  kind : X.env.scope.kind = .function
  glob : X.env.globals = mainGlobals
  blt : X.env.builtins = builtinsNs
  above : X.s₀.heap.objs.size ≤ X.env.locals
  inj : ∀ x y c, X.env.cells.lookup x = some c → X.env.cells.lookup y = some c → x = y
  has : ∀ x, (X.env.kindOf x = some .cell ∨ X.env.kindOf x = some .free) → ∃ c, X.env.cells.lookup x = some c
  cab : ∀ x c, X.fn x = true → X.env.cells.lookup x = some c → X.s₀.heap.objs.size ≤ c
  hd : X.calm = true → X.A.handled = none
  frames : X.A.frames = some X.stack
  stk : X.stack = X.outer ∨ (X.stack = X.env :: X.outer ∧ X.env.frame = some X.env.locals)
  exf : ∀ b ∈ X.ex, b ≠ X.env.locals ∧ ∀ x c, X.env.cells.lookup x = some c → c ≠ b
  bs : ∀ b o, X.base.get? b = some o → X.s₀.heap.get? b = some o ∧ X.H₀ b = none
  bsz : X.base.objs.size ≤ X.s₀.heap.objs.size
  noex : ∀ b o, X.base.get? b = some o → b ∉ X.ex
  exfs : ∀ b ∈ X.ex, b ∉ X.fs
  funs : X.s₀.heap.FunFrames X.base X.outer
  frf : ∀ b ∈ X.fs, X.H₀ b = none
structure Inv (X : Cx) (pins : List (Addr × Obj)) (σ : List (Option V)) (H : Hp) (s : Shared) : Prop where
  ok : X.Ok
  os : s.os = X.s₀.os
  bare : AllBare s.gens
  base : Un X.fs X.ex X.H₀ H X.s₀.heap s.heap
  loc : ∃ m, s.heap.Ns X.env.locals m ∧ ∀ (i : Nat) (x : Str) (v : V), X.N[i]? = some x → σ[i]? = some (some v) → Vis X.env.scope x → ∃ u, RelV v u ∧ Look X.env s.heap m x u
  cell : ∀ x c, X.env.cells.lookup x = some c → ∃ v, s.heap.IsCell c v
  free : H X.env.locals = none
  freeC : ∀ x c, X.env.cells.lookup x = some c → H c = none
  pin : ∀ p ∈ X.pn ++ pins, s.heap.get? p.1 = some p.2 ∧ H p.1 = none ∧ p.1 ≠ X.env.locals ∧ p.1 ∉ X.fs ∧ ∀ v, p.2.data ≠ .cell v
  hok : HOk X.prog X.w H s.heap
  len : σ.length = X.N.length
section
variable {X : Cx} {pins : List (Addr × Obj)} {σ : List (Option V)} {H H' : Hp} {s : Shared} {h' : Heap}
theorem Cx.Ok.nofr (ok : X.Ok) {b : Addr} {o : Obj} (e : X.base.get? b = some o) : b ∉ X.fs := fun hb => by
  have := (ok.funs.mem hb).1
  rw [e] at this; cases this
theorem Inv.bs (I : Inv X pins σ H s) : ∀ b o, X.base.get? b = some o → s.heap.get? b = some o ∧ H b = none := fun b o e =>
  ⟨I.base.keep b o (I.ok.bs b o e).1 (I.ok.bs b o e).2 (I.ok.nofr e) (I.ok.noex b o e), I.base.free b o (I.ok.bs b o e).1 (I.ok.bs b o e).2 (I.ok.noex b o e)⟩
theorem Inv.bk (I : Inv X pins σ H s) : ∀ b o, X.base.get? b = some o → s.heap.get? b = some o := fun b o e => (I.bs b o e).1
theorem Inv.mod (I : Inv X pins σ H s) : Mod X.K X.mg X.base := I.ok.mod
theorem Inv.kIn (I : Inv X pins σ H s) : X.K.In s.heap := I.ok.mod.kin.keeps I.bk
theorem Inv.fr (I : Inv X pins σ H s) : ∃ m, Fr X.base X.env.locals s.heap m :=
  let ⟨m, hn, _⟩ := I.loc
  ⟨m, hn, I.bk, Nat.le_trans I.ok.bsz I.ok.above⟩
theorem Inv.lt (I : Inv X pins σ H s) : X.env.locals < s.heap.objs.size := let ⟨_, hn, _⟩ := I.loc; hn.lt
theorem Inv.sz (I : Inv X pins σ H s) : X.s₀.heap.objs.size ≤ s.heap.objs.size := Nat.le_trans I.ok.above (Nat.le_of_lt I.lt)
theorem Inv.nofs (I : Inv X pins σ H s) {a : Addr} (h : s.heap.objs.size ≤ a) : a ∉ X.fs := fun hb => by
  obtain ⟨_, o, ho, _⟩ := I.ok.funs.mem hb
  exact absurd (Nat.lt_of_lt_of_le (Heap.lt_size ho) (Nat.le_trans I.sz h)) (Nat.lt_irrefl _)
theorem Inv.cne (I : Inv X pins σ H s) : ∀ x c, X.env.cells.lookup x = some c → c ≠ X.env.locals := fun x c e z => by
  obtain ⟨v, o, ho, hd⟩ := I.cell x c e
  obtain ⟨m, ⟨o', es, ep, ho', hd', _⟩, _⟩ := I.loc
  rw [z, ho'] at ho; cases ho; rw [hd'] at hd; cases hd
theorem Inv.funs (I : Inv X pins σ H s) : s.heap.FunFrames X.base X.outer := by
  have all : ∀ (l : List Env), (∀ b ∈ frs l, b ∈ X.fs) → X.s₀.heap.FunFrames X.base l → s.heap.FunFrames X.base l := by
    intro l
    induction l with
    | nil => intro _ _; trivial
    | cons env r ih =>
      intro hs hl
      obtain ⟨hk, ⟨L, o, hf, hn, ho, hd⟩, hr⟩ := hl
      have hL : L ∈ X.fs := hs L (by unfold frs; rw [List.filterMap_cons, hf]; exact List.mem_cons_self)
      obtain ⟨sl, e⟩ := I.base.slot L o ho (I.ok.frf L hL) hL fun z => I.ok.exfs L z hL
      exact ⟨hk, ⟨L, _, hf, hn, e, hd⟩, ih (fun b hb => hs b (by unfold frs; rw [List.filterMap_cons, hf]; exact List.mem_cons_of_mem _ hb)) hr⟩
  exact all X.outer (fun _ hb => hb) I.ok.funs
theorem Inv.stack (I : Inv X pins σ H s) : s.heap.FunFrames X.base X.stack := by
  rcases I.ok.stk with e | ⟨e, hf⟩
  · rw [e]; exact I.funs
  · rw [e]
    obtain ⟨m, hn, _⟩ := I.loc
    refine .cons (by rw [I.ok.kind]; decide) hf hn ?_ I.funs
    exact Heap.get?_none_of_le (Nat.le_trans I.ok.bsz I.ok.above)
theorem Inv.stkSub (I : Inv X pins σ H s) : ∀ b ∈ frs X.stack, b ∈ X.env.locals :: X.fs := fun b hb => by
  rcases I.ok.stk with e | ⟨e, hf⟩
  · rw [e] at hb; exact List.mem_cons_of_mem _ hb
  · rw [e] at hb
    unfold frs at hb
    rw [List.filterMap_cons, hf] at hb
    exact hb
theorem Inv.stkFree (I : Inv X pins σ H s) : ∀ b ∈ frs X.stack, H b = none := fun b hb => by
  rcases List.mem_cons.mp (I.stkSub b hb) with e | hb
  · rw [e]; exact I.free
  · obtain ⟨_, o, ho, _⟩ := I.ok.funs.mem hb
    exact I.base.free b o ho (I.ok.frf b hb) fun z => I.ok.exfs b z hb
theorem Inv.step {g' : Array GenState} {t' : Nat} {d' : Drawn} {ch : List Addr} (I : Inv X pins σ H s)
    (hch : ∀ b ∈ ch, (b ∈ X.ex ∨ X.s₀.heap.objs.size ≤ b) ∧ b ≠ X.env.locals ∧ (∀ x c, X.env.cells.lookup x = some c → c ≠ b) ∧ ∀ p ∈ X.pn ++ pins, p.1 ≠ b)
    (keep : ∀ b o, b ≠ X.env.locals → b ∉ X.fs → b ∉ ch → s.heap.get? b = some o → H b = none → h'.get? b = some o)
    (slot : ∀ b o, b ≠ X.env.locals → b ∈ X.fs → b ∉ ch → s.heap.get? b = some o → H b = none → ∃ sl, h'.get? b = some { o with slots := sl }) (free : ∀ b o, b ∉ ch → s.heap.get? b = some o → H b = none → H' b = none)
    (there : ∀ b o, b ∉ ch → s.heap.get? b = some o → ∃ o', h'.get? b = some o')
    (tups : ∀ b xs, H b = some (.tup xs) → H' b = some (.tup xs)) (frzs : ∀ b o u, H b = some (.frz o u) → H' b = some (.frz o u)) (tbls : ∀ b ps, H b = some (.tbl ps) → ∃ more, H' b = some (.tbl (ps ++ more)))
    (ns : ∀ m, s.heap.Ns X.env.locals m → h'.Ns X.env.locals m) (hok : HOk X.prog X.w H' h') (hg : AllBare g') :
    Inv X pins σ H' { s with heap := h', gens := g', drawn := d', toks := t' } := by
  have neL : ∀ b o, X.s₀.heap.get? b = some o → b ≠ X.env.locals := fun b o e => Nat.ne_of_lt (Nat.lt_of_lt_of_le (Heap.lt_size e) I.ok.above)
  have neC : ∀ b o, X.s₀.heap.get? b = some o → b ∉ X.ex → b ∉ ch := fun b o e hx hb => by
    rcases (hch b hb).1 with z | z
    · exact hx z
    · exact absurd (Nat.lt_of_lt_of_le (Heap.lt_size e) z) (Nat.lt_irrefl _)
  have cellK : ∀ x c, X.env.cells.lookup x = some c → ∀ v, s.heap.IsCell c v → h'.IsCell c v := fun x c e v ⟨o, ho, hd⟩ => by
    have nch : c ∉ ch := fun z => (hch c z).2.2.1 x c e rfl
    by_cases hc : c ∈ X.fs
    · obtain ⟨sl, q⟩ := slot c o (I.cne x c e) hc nch ho (I.freeC x c e)
      exact ⟨_, q, hd⟩
    · exact ⟨o, keep c o (I.cne x c e) hc nch ho (I.freeC x c e), hd⟩
  refine ⟨I.ok, I.os, hg, ⟨fun b o e n hb hx => ?_, fun b o e n hb hx => ?_, fun b o e n hx => ?_, fun b o e hx => ?_, fun b xs e => tups b xs (I.base.tups b xs e), fun b o xs e => frzs b o xs (I.base.frzs b o xs e), fun b ps e => ?_⟩, ?_, fun x c e => ?_, ?_, fun x c e => ?_, fun p hp => ?_, hok, I.len⟩
  · exact keep b o (neL b o e) hb (neC b o e hx) (I.base.keep b o e n hb hx) (I.base.free b o e n hx)
  · obtain ⟨sl, e1⟩ := I.base.slot b o e n hb hx
    obtain ⟨sl', e2⟩ := slot b _ (neL b o e) hb (neC b o e hx) e1 (I.base.free b o e n hx)
    exact ⟨sl', e2⟩
  · obtain ⟨o', e1⟩ := I.base.there b o e hx
    exact free b o' (neC b o e hx) e1 (I.base.free b o e n hx)
  · obtain ⟨o', e1⟩ := I.base.there b o e hx
    exact there b o' (neC b o e hx) e1
  · obtain ⟨m1, e1⟩ := I.base.tbls b ps e
    obtain ⟨m2, e2⟩ := tbls b _ e1
    exact ⟨m1 ++ m2, by rw [e2, Array.append_assoc]⟩
  · obtain ⟨m, hn, hl⟩ := I.loc
    refine ⟨m, ns m hn, fun i x v e1 e2 e3 => ?_⟩
    obtain ⟨u, r, l⟩ := hl i x v e1 e2 e3
    refine ⟨u, r, ?_⟩
    rcases l with l | ⟨k, c, e, z⟩
    · exact .inl l
    · exact .inr ⟨k, c, e, cellK x c e _ z⟩
  · obtain ⟨v, z⟩ := I.cell x c e
    exact ⟨v, cellK x c e v z⟩
  · obtain ⟨m, ⟨o, _, _, ho, _⟩, _⟩ := I.loc
    exact free _ o (fun z => (hch _ z).2.1 rfl) ho I.free
  · obtain ⟨v, o, ho, hd⟩ := I.cell x c e
    exact free c o (fun z => (hch c z).2.2.1 x c e rfl) ho (I.freeC x c e)
  · obtain ⟨e, n, ne, nf, d⟩ := I.pin p hp
    have nch : p.1 ∉ ch := fun z => (hch p.1 z).2.2.2 p hp rfl
    exact ⟨keep p.1 p.2 ne nf nch e n, free p.1 p.2 nch e n, ne, nf, d⟩
theorem Inv.un {t' : Nat} (I : Inv X pins σ H s) (u : Un X.fs [] H H' s.heap h') (hok : HOk X.prog X.w H' h') : Inv X pins σ H' { s with heap := h', toks := t' } := by
  obtain ⟨m, ⟨o, es, ep, ho, r⟩, _⟩ := id I.loc
  obtain ⟨sl, hL⟩ := u.any ho I.free (by simp)
  exact I.step (g' := s.gens) (d' := s.drawn) (ch := []) (fun _ z => nomatch z) (fun b o _ hb _ e n => u.keep b o e n hb (by simp)) (fun b o _ hb _ e n => u.slot b o e n hb (by simp)) (fun b o _ e n => u.free b o e n (by simp)) (fun b o _ e => u.there b o e (by simp)) u.tups u.frzs u.tbls (fun m' hm => by
    obtain ⟨o', es', ep', ho', r'⟩ := hm
    rw [ho] at ho'; cases ho'
    exact ⟨_, es', ep', hL, r'⟩) hok I.bare
theorem Inv.call {g' : Array GenState} {t' : Nat} {d' : Drawn} {ch : List Addr} (I : Inv X pins σ H s) (u : Un (frs X.stack) ch H H' s.heap h') (hok : HOk X.prog X.w H' h') (hg : AllBare g')
    (hch : ∀ b ∈ ch, (b ∈ X.ex ∨ X.s₀.heap.objs.size ≤ b) ∧ b ≠ X.env.locals ∧ (∀ x c, X.env.cells.lookup x = some c → c ≠ b) ∧ ∀ p ∈ X.pn ++ pins, p.1 ≠ b) :
    Inv X pins σ H' { s with heap := h', gens := g', drawn := d', toks := t' } := by
  obtain ⟨m, ⟨o, es, ep, ho, r⟩, _⟩ := id I.loc
  obtain ⟨sl, hL⟩ := u.any ho I.free fun z => (hch _ z).2.1 rfl
  exact I.step (ch := ch) hch (fun b o hL hb hc e n => u.keep b o e n (fun z => (List.mem_cons.mp (I.stkSub b z)).elim hL hb) hc) (fun b o _ _ hc e n => u.any e n hc) (fun b o hc e n => u.free b o e n hc) (fun b o hc e => u.there b o e hc) u.tups u.frzs u.tbls (fun m' hm => by
    obtain ⟨o', es', ep', ho', r'⟩ := hm
    rw [ho] at ho'; cases ho'
    exact ⟨_, es', ep', hL, r'⟩) hok hg
theorem Inv.turned {t' : Nat} {it : Addr} (I : Inv X pins σ H s) (k : ∀ b o, b ≠ it → s.heap.get? b = some o → h'.get? b = some o) (hn : H it = none) (hL : it ≠ X.env.locals)
    (h1 : it ∈ X.ex ∨ X.s₀.heap.objs.size ≤ it) (h2 : ∀ x c, X.env.cells.lookup x = some c → c ≠ it) (h3 : ∀ p ∈ X.pn ++ pins, p.1 ≠ it) : Inv X pins σ H { s with heap := h', toks := t' } := by
  have nit : ∀ b u, H b = some u → b ≠ it := fun b u e z => by rw [z, hn] at e; cases e
  refine I.step (g' := s.gens) (d' := s.drawn) (ch := [it]) (fun b hb => ?_) (fun b o _ _ hc e _ => k b o (fun z => hc (by simp [z])) e) (fun b o _ _ hc e _ => ⟨o.slots, k b o (fun z => hc (by simp [z])) e⟩) (fun _ _ _ _ n => n)
    (fun b o hc e => ⟨o, k b o (fun z => hc (by simp [z])) e⟩) (fun _ _ e => e) (fun _ _ _ e => e) (fun b ps e => ⟨#[], by rw [e]; simp⟩) (fun m hm => ?_) (fun b u e => ?_) I.bare
  · have e : b = it := by simpa using hb
    subst e
    exact ⟨h1, hL, h2, h3⟩
  · obtain ⟨o, es, ep, ho, r⟩ := hm
    exact ⟨o, es, ep, k _ o (Ne.symm hL) ho, r⟩
  · refine (I.hok b u e).stay (fun c v hc q => k c v ?_ q) (fun _ q => q) fun _ _ q => q
    rcases hc with z | z
    · rw [z]; exact nit b u e
    · exact nit c _ z
theorem Inv.tok (I : Inv X pins σ H s) (t : Nat) : Inv X pins σ H { s with toks := t } := I.un (h' := s.heap) (t' := t) Un.refl I.hok
theorem Inv.kept {t' : Nat} (I : Inv X pins σ H s) (k : ∀ b u, s.heap.get? b = some u → h'.get? b = some u) : Inv X pins σ H { s with heap := h', toks := t' } := I.un (Un.kept k) (I.hok.kept k)
theorem Inv.laid {a : Addr} {o : HO} {t' : Nat} (I : Inv X pins σ H s) (k : ∀ b u, s.heap.get? b = some u → h'.get? b = some u) (hp : s.heap.objs.size ≤ a) (new : ObjOk X.prog X.w (upd H a o) h' a o) :
    Inv X pins σ (upd H a o) { s with heap := h', toks := t' } := I.un (Un.laid k hp (I.hok.fresh hp)) (I.hok.laid k hp new)
theorem Inv.write {x e : Addr} {o : HO} {t' : Nat} (I : Inv X pins σ H s) (mu : Mut (H x)) (he : e = x ∨ H e = some (.own x)) (k : ∀ b u, b ≠ e → s.heap.get? b = some u → h'.get? b = some u) (heo : ∃ u, h'.get? e = some u)
    (new : ObjOk X.prog X.w (upd H x o) h' x o) : Inv X pins σ (upd H x o) { s with heap := h', toks := t' } := I.un (Un.write mu he k heo) (I.hok.write mu he k heo new)
theorem Inv.weak {σ' : List (Option V)} (I : Inv X pins σ H s) (hl : σ'.length = σ.length) (w : ∀ (i : Nat) v, σ'[i]? = some (some v) → σ[i]? = some (some v)) : Inv X pins σ' H s :=
  ⟨I.ok, I.os, I.bare, I.base, let ⟨m, hn, hl'⟩ := I.loc; ⟨m, hn, fun i x v e1 e2 e3 => hl' i x v e1 (w i v e2) e3⟩, I.cell, I.free, I.freeC, I.pin, I.hok, hl.trans I.len⟩
theorem Inv.pins_of {pins' : List (Addr × Obj)} (I : Inv X pins σ H s) (h : ∀ p ∈ pins', s.heap.get? p.1 = some p.2 ∧ H p.1 = none ∧ p.1 ≠ X.env.locals ∧ p.1 ∉ X.fs ∧ ∀ v, p.2.data ≠ .cell v) : Inv X pins' σ H s :=
  ⟨I.ok, I.os, I.bare, I.base, I.loc, I.cell, I.free, I.freeC, fun p hp => (List.mem_append.mp hp).elim (fun z => I.pin p (List.mem_append_left _ z)) (h p), I.hok, I.len⟩
theorem nodup_ix {N : List Str} (hN : N.Nodup) {i j : Nat} {x : Str} (a : N[i]? = some x) (b : N[j]? = some x) : i = j := by
  obtain ⟨h1, e1⟩ := List.getElem?_eq_some_iff.mp a
  obtain ⟨h2, e2⟩ := List.getElem?_eq_some_iff.mp b
  exact (List.getElem_inj hN).mp (e1.trans e2.symm)
theorem store_ok2 {M : Model} {A : Around} {E : Value → Shared → Prop} {i : Nat} {x : Str} {v : V} {u : Value} {Q : Unit → Shared → Prop} (I : Inv X pins σ H s) (hN : X.N.Nodup) (hi : X.N[i]? = some x) (hx : Loc X.env.scope x) (r : RelV v u)
    (h : ∀ s', Inv X pins (σ.set i (some v)) H s' → (∃ a, Heap.SameBut a s.heap s'.heap ∧ (a = X.env.locals ∨ X.env.cells.lookup x = some a)) → Q () s') (hf : X.fn x = true ∨ X.env.scope.names.lookup x = some .local := by first | exact .inl rfl | exact .inr rfl | assumption) : wpAny M A (storeName X.env x u) Q E s := by
  obtain ⟨m, hn, hl⟩ := id I.loc
  have hcls : (X.env.scope.kind == .class || (X.env.scope.kind == .module && X.env.locals != X.env.globals)) = false := by rw [I.ok.kind]; rfl
  have hiσ : i < σ.length := by rw [I.len]; exact (List.getElem?_eq_some_iff.mp hi).1
  have cne := I.cne
  have tracked : ∀ {a : Addr} {h' : Heap}, (∃ o, s.heap.get? a = some o ∧ H a = none) → Heap.SameBut a s.heap h' → HOk X.prog X.w H h' := fun {a h'} ha hs b ob e => by
    obtain ⟨_, _, hfree⟩ := ha
    refine (I.hok b ob e).stay (fun c w' hc q => (hs.2 c ?_).trans q) (fun _ q => q) fun _ _ q => q
    rintro rfl
    rcases hc with rfl | hc
    · rw [hfree] at e; cases e
    · rw [hfree] at hc; cases hc
  rcases hx with hk | hk
  · refine wpAny_storeName_local hk hn (fun h' hn' hs => ?_) hcls
    obtain ⟨oL, _, _, hoL, _⟩ := id hn
    refine h _ ⟨I.ok, I.os, I.bare, ⟨fun b o e n hb hx => ?_, fun b o e n hb hx => ?_, I.base.free, fun b o e hx => ?_, I.base.tups, I.base.frzs, I.base.tbls⟩, ⟨_, hn', fun j y v' e1 e2 e3 => ?_⟩, fun y c e => ?_, I.free, I.freeC, fun p hp => ?_, tracked ⟨oL, hoL, I.free⟩ hs, by simpa using I.len⟩ ⟨_, hs, .inl rfl⟩
    · exact (hs.2 b (Nat.ne_of_lt (Nat.lt_of_lt_of_le (Heap.lt_size e) I.ok.above))).trans (I.base.keep b o e n hb hx)
    · obtain ⟨sl, e1⟩ := I.base.slot b o e n hb hx
      exact ⟨sl, (hs.2 b (Nat.ne_of_lt (Nat.lt_of_lt_of_le (Heap.lt_size e) I.ok.above))).trans e1⟩
    · obtain ⟨o', e1⟩ := I.base.there b o e hx
      exact ⟨o', (hs.2 b (Nat.ne_of_lt (Nat.lt_of_lt_of_le (Heap.lt_size e) I.ok.above))).trans e1⟩
    · by_cases hj : j = i
      · subst hj
        rw [hi] at e1; cases e1
        rw [List.getElem?_set_self hiσ] at e2
        cases e2
        exact ⟨u, r, .inl ⟨hk, by simp⟩⟩
      · rw [List.getElem?_set_ne (Ne.symm hj)] at e2
        obtain ⟨u', r', q⟩ := hl j y v' e1 e2 e3
        refine ⟨u', r', ?_⟩
        rcases q with ⟨k, e⟩ | ⟨k, c, e, z⟩
        · refine .inl ⟨k, ?_⟩
          have : y ≠ x := fun e => hj (nodup_ix hN e1 (e ▸ hi))
          simp [this, e]
        · exact .inr ⟨k, c, e, z.sameBut hs (cne y c e)⟩
    · obtain ⟨w', z⟩ := I.cell y c e
      exact ⟨w', z.sameBut hs (cne y c e)⟩
    · obtain ⟨e, n, ne, nf, d⟩ := I.pin p hp
      exact ⟨(hs.2 p.1 ne).trans e, n, ne, nf, d⟩
  · have hfn : X.fn x = true := by
      rcases hf with z | z
      · exact z
      · rw [z] at hk; cases hk
    obtain ⟨c, hc⟩ := I.ok.has x (.inl hk)
    obtain ⟨w', z⟩ := I.cell x c hc
    refine wpAny_storeName_cell I.ok.kind hk hc z (fun h' hc' hs => ?_)
    obtain ⟨oc, hoc, hocd⟩ := id z
    refine h { s with heap := h' } ⟨I.ok, I.os, I.bare, ⟨fun b o e n hb hx => ?_, fun b o e n hb hx => ?_, I.base.free, fun b o e hx => ?_, I.base.tups, I.base.frzs, I.base.tbls⟩, ⟨m, hn.sameBut hs (Ne.symm (cne x c hc)), fun j y v' e1 e2 e3 => ?_⟩, fun y c' e => ?_, I.free, I.freeC, fun p hp => ?_, tracked ⟨oc, hoc, I.freeC x c hc⟩ hs, by simpa using I.len⟩ ⟨c, hs, .inr hc⟩
    · exact (hs.2 b (Nat.ne_of_lt (Nat.lt_of_lt_of_le (Heap.lt_size e) (I.ok.cab x c hfn hc)))).trans (I.base.keep b o e n hb hx)
    · obtain ⟨sl, e1⟩ := I.base.slot b o e n hb hx
      exact ⟨sl, (hs.2 b (Nat.ne_of_lt (Nat.lt_of_lt_of_le (Heap.lt_size e) (I.ok.cab x c hfn hc)))).trans e1⟩
    · obtain ⟨o', e1⟩ := I.base.there b o e hx
      exact ⟨o', (hs.2 b (Nat.ne_of_lt (Nat.lt_of_lt_of_le (Heap.lt_size e) (I.ok.cab x c hfn hc)))).trans e1⟩
    · by_cases hj : j = i
      · subst hj
        rw [hi] at e1; cases e1
        rw [List.getElem?_set_self hiσ] at e2
        cases e2
        exact ⟨u, r, .inr ⟨.inl hk, c, hc, hc'⟩⟩
      · rw [List.getElem?_set_ne (Ne.symm hj)] at e2
        obtain ⟨u', r', q⟩ := hl j y v' e1 e2 e3
        refine ⟨u', r', ?_⟩
        rcases q with q | ⟨k, c', e, z'⟩
        · exact .inl q
        · refine .inr ⟨k, c', e, z'.sameBut hs ?_⟩
          rintro rfl
          exact hj (nodup_ix hN e1 (I.ok.inj _ _ _ e hc ▸ hi))
    · by_cases hcc : c' = c
      · subst hcc; exact ⟨_, hc'⟩
      · obtain ⟨w2, z2⟩ := I.cell y c' e
        exact ⟨w2, z2.sameBut hs hcc⟩
    · obtain ⟨e, n, ne, nf, d⟩ := I.pin p hp
      refine ⟨(hs.2 p.1 ?_).trans e, n, ne, nf, d⟩
      intro q
      rw [q, hoc] at e
      have q' : oc = p.2 := Option.some.inj e
      exact d w' (by rw [← q']; exact hocd)
theorem store_ok {M : Model} {A : Around} {E : Value → Shared → Prop} {i : Nat} {x : Str} {v : V} {u : Value} {Q : Unit → Shared → Prop} (I : Inv X pins σ H s) (hN : X.N.Nodup) (hi : X.N[i]? = some x) (hx : Loc X.env.scope x) (r : RelV v u)
    (h : ∀ s', Inv X pins (σ.set i (some v)) H s' → Q () s') (hf : X.fn x = true ∨ X.env.scope.names.lookup x = some .local := by first | exact .inl rfl | exact .inr rfl | assumption) : wpAny M A (storeName X.env x u) Q E s :=
  store_ok2 I hN hi hx r (fun s' I' _ => h s' I') hf
theorem Inv.call' {s' : Shared} {ch : List Addr} (I : Inv X pins σ H s) (ho : s'.os = s.os) (u : Un (frs X.stack) ch H H' s.heap s'.heap) (hok : HOk X.prog X.w H' s'.heap) (hg : AllBare s'.gens)
    (hch : ∀ b ∈ ch, (b ∈ X.ex ∨ X.s₀.heap.objs.size ≤ b) ∧ b ≠ X.env.locals ∧ (∀ x c, X.env.cells.lookup x = some c → c ≠ b) ∧ ∀ p ∈ X.pn ++ pins, p.1 ≠ b) : Inv X pins σ H' s' := by
  obtain ⟨h', g', d', t', o'⟩ := s'
  have e : o' = s.os := ho
  subst e
  exact I.call (g' := g') (t' := t') (d' := d') u hok hg hch
end
abbrev XK := Value → Option Addr → Hp → Prop
abbrev St := List (Option V)
abbrev VK := V → Hp → Prop
abbrev TE := St → Hp → VK → Prop
abbrev TT := St → Hp → (Bool → Hp → Prop) → Prop
abbrev TA := St → Hp → (List V → Hp → Prop) → Prop
structure Ends where
  nx : St → Hp → Prop
  rt : VK
  bk : St → Hp → Prop := fun _ _ => False
  ct : St → Hp → Prop := fun _ _ => False
abbrev TS := Ends → St → Hp → Prop
def EP (X : Cx) (pins : List (Addr × Obj)) (σ : St) (Q : VK) (u : Value) (s' : Shared) : Prop := ∃ v H', Inv X pins σ H' s' ∧ RelV v u ∧ Q v H'
def TP (X : Cx) (pins : List (Addr × Obj)) (σ : St) (Q : Bool → Hp → Prop) (b : Bool) (s' : Shared) : Prop := ∃ H', Inv X pins σ H' s' ∧ Q b H'
def AP (X : Cx) (pins : List (Addr × Obj)) (σ : St) (Q : List V → Hp → Prop) (us : List Value) (s' : Shared) : Prop := ∃ vs H', Inv X pins σ H' s' ∧ Vals vs us ∧ Q vs H'
def SP (X : Cx) (pins : List (Addr × Obj)) (D : Ends) (f : Flow) (s' : Shared) : Prop :=
  match f with
  | .next => ∃ σ' H', Inv X pins σ' H' s' ∧ D.nx σ' H'
  | .brk => ∃ σ' H', Inv X pins σ' H' s' ∧ D.bk σ' H'
  | .cont => ∃ σ' H', Inv X pins σ' H' s' ∧ D.ct σ' H'
  | .ret u => ∃ v σ' H', Inv X pins σ' H' s' ∧ RelV v u ∧ D.rt v H'
def PE (X : Cx) (e : Expr) (t : TE) : Prop :=
  ∀ (pins : List (Addr × Obj)) (s : Shared) (σ : St) (H : Hp) (Q : VK), Inv X pins σ H s → t σ H Q → wpAny (model X.prog X.w) X.A (eval e X.env) (EP X pins σ Q) X.xe s
def PT (X : Cx) (e : Expr) (t : TT) : Prop :=
  ∀ (pins : List (Addr × Obj)) (s : Shared) (σ : St) (H : Hp) (Q : Bool → Hp → Prop), Inv X pins σ H s → t σ H Q → wpAny (model X.prog X.w) X.A (isTrue e X.env (eval e X.env)) (TP X pins σ Q) X.xe s
def PW (X : Cx) (e : Expr) (t : TT) : Prop :=
  ∀ (whole : Sem Value) (pins : List (Addr × Obj)) (s : Shared) (σ : St) (H : Hp) (Q : Bool → Hp → Prop), Inv X pins σ H s → t σ H Q → wpAny (model X.prog X.w) X.A (isTrue e X.env whole) (TP X pins σ Q) X.xe s
theorem PW.pt {X : Cx} {e : Expr} {t : TT} (h : PW X e t) : PT X e t := h _
def PA (X : Cx) (es : List Expr) (t : TA) : Prop :=
  ∀ (pos : Pos) (pins : List (Addr × Obj)) (s : Shared) (σ : St) (H : Hp) (Q : List V → Hp → Prop), Inv X pins σ H s → t σ H Q → wpAny (model X.prog X.w) X.A (spliced (backTo pos (starEach es X.env))) (AP X pins σ Q) X.xe s
def PS (X : Cx) (st : Stmt) (t : TS) : Prop :=
  ∀ (pins : List (Addr × Obj)) (s : Shared) (σ : St) (H : Hp) (D : Ends), Inv X pins σ H s → t D σ H → wpAny (model X.prog X.w) X.A (exec st X.env) (SP X pins D) X.xe s
def PSs (X : Cx) (st : List Stmt) (t : TS) : Prop :=
  ∀ (pins : List (Addr × Obj)) (s : Shared) (σ : St) (H : Hp) (D : Ends), Inv X pins σ H s → t D σ H → wpAny (model X.prog X.w) X.A (execs st X.env) (SP X pins D) X.xe s
theorem thn {α : Type} {t : Sem α} {Q Q' : α → Shared → Prop} {M : Model} {A : Around} {E : Value → Shared → Prop} {s : Shared} (h : wpAny M A t Q E s) (hQ : ∀ a s, Q a s → Q' a s) : wpAny M A t Q' E s := wpAny_mono h hQ fun _ _ x => x
end L2
namespace L2
open PySem PySem.Spec PyProof.Rows
section
variable {X : Cx}
def tVar (i : Nat) : TE := fun σ H Q => ∃ v, σ[i]? = some (some v) ∧ Q v H
def tC (v : V) : TE := fun _ H Q => Q v H
theorem pe_var {i : Nat} {x : Str} {pos : Pos} (hN : X.N[i]? = some x) (hv : Vis X.env.scope x) (hd : (x == ("__debug__" : Str)) = false := by decide) (hcd : (x == ("__classdict__" : Str)) = false := by decide) : PE X (.Name x pos) (tVar i) := by
  intro pins s σ H Q I h
  obtain ⟨v, e, h⟩ := h
  obtain ⟨m, hn, hl⟩ := I.loc
  obtain ⟨u, r, l⟩ := hl i x v hN e hv
  have fin : EP X pins σ Q u s := ⟨v, H, I, r, h⟩
  rcases l with ⟨hk, hm⟩ | ⟨hk, c, hc, hcell⟩
  · exact wpAny_Name (wpAny_loadName_local I.ok.kind hk hn hm fin) hd
  · rcases hk with hk | hk
    · exact wpAny_Name (wpAny_loadName_cell I.ok.kind hk hc hcell fin) hd
    · exact wpAny_Name (wpAny_loadName_free I.ok.kind hk hc hcell fin hcd) hd
theorem pe_int {i j pos} : PE X (.Constant (.int i) j pos) (tC (.int i)) := fun _ _ _ H _ I h => wpAny_Constant_int ⟨.int i, H, I.tok _, ⟨_, rfl⟩, h⟩
theorem pe_bl {b j pos} : PE X (.Constant (.bool b) j pos) (tC (.bl b)) := fun _ _ _ H _ I h => Constant_bool ⟨.bl b, H, I, rfl, h⟩
theorem pe_non {j pos} : PE X (.Constant .none j pos) (tC .non) := fun _ _ _ H _ I h => Constant_none ⟨.non, H, I, rfl, h⟩
theorem pe_str {x j pos} : PE X (.Constant (.str x) j pos) (tC (.str x)) := fun _ _ _ H _ I h => Calls.Constant_str ⟨.str x, H, I.tok _, ⟨_, rfl⟩, h⟩
def Gl (X : Cx) (x : Str) : Prop := X.env.kindOf x = some .globalImplicit
theorem ld_glob {E : Value → Shared → Prop} {pins : List (Addr × Obj)} {s : Shared} {σ : St} {H : Hp} {x : Str} {u : Value} {pos : Pos} {Q : Value → Shared → Prop} (I : Inv X pins σ H s) (hg : Gl X x) (hm : X.mg x = some u) (h : Q u s)
    (hd : (x == ("__debug__" : Str)) = false := by decide) : wpAny (model X.prog X.w) X.A (eval (.Name x pos) X.env) Q E s :=
  Calls.Name_function_global I.ok.kind hg (Calls.loadGlobal_global (by rw [I.ok.glob]; exact I.mod.glob.keeps I.bk) hm h) hd
theorem ld_blt {E : Value → Shared → Prop} {pins : List (Addr × Obj)} {s : Shared} {σ : St} {H : Hp} {x : Str} {u : Value} {pos : Pos} {Q : Value → Shared → Prop} (I : Inv X pins σ H s) (hg : Gl X x) (hm : X.mg x = none) (hv : bootBuiltins x = some u) (h : Q u s)
    (hn : x ≠ "__name__" := by decide) (hd : (x == ("__debug__" : Str)) = false := by decide) : wpAny (model X.prog X.w) X.A (eval (.Name x pos) X.env) Q E s := by
  obtain ⟨mb, h1, h2⟩ := I.mod.blt
  exact Calls.Name_function_global I.ok.kind hg (Calls.loadGlobal_builtin (by rw [I.ok.glob]; exact I.mod.glob.keeps I.bk) hm (by rw [I.ok.blt]; exact h1.keeps I.bk) ((h2 x hn).trans hv) h) hd
theorem pe_glob {x : Str} {v : V} {u : Value} {pos : Pos} (hg : Gl X x) (hm : X.mg x = some u) (r : RelV v u) (hd : (x == ("__debug__" : Str)) = false := by decide) : PE X (.Name x pos) (tC v) :=
  fun _ _ _ H _ I h => ld_glob I hg hm ⟨v, H, I, r, h⟩ hd
theorem pe_bltn {x : Str} {v : V} {u : Value} {pos : Pos} (hg : Gl X x) (hm : X.mg x = none) (hv : bootBuiltins x = some u) (r : RelV v u) (hn : x ≠ "__name__" := by decide) (hd : (x == ("__debug__" : Str)) = false := by decide) : PE X (.Name x pos) (tC v) :=
  fun _ _ _ H _ I h => ld_blt I hg hm hv ⟨v, H, I, r, h⟩ hn hd
variable {a b : Expr} {ta tb : TE} {pos : Pos}
def tB (t : TE) : TT := fun σ H Q => t σ H fun x H1 => ∃ c, x = .bl c ∧ Q c H1
theorem pt_val {e : Expr} {t : TE} (h : PE X e t) (he : ∀ whole, isTrue e X.env whole = (do let v ← whole; standAt e.pos; holding [v] (truthy v)) := by intro _; rfl) : PT X e (tB t) := by
  intro pins s σ H Q I hw
  refine isTrue_plain (thn (h pins s σ H _ I hw) fun v s1 ⟨x, H1, I1, r1, q1⟩ => ?_) (he _)
  obtain ⟨d, rfl, q⟩ := q1
  cases r1
  exact wpAny_truthy_bool ⟨H1, I1, q⟩
variable {tA tB' : TT} {rest : List Expr}
def tOr (t u : TT) : TT := fun σ H Q => t σ H fun c H1 => if c = true then Q true H1 else u σ H1 Q
def tNot (t : TT) : TT := fun σ H Q => t σ H fun c H1 => Q (!c) H1
theorem pw_or1 (ha : PT X a tA) : PW X (.BoolOp .Or [a] pos) tA := by
  intro wh pins s σ H Q I h
  refine isTrue_or (thn (ha pins s σ H Q I h) fun c s1 e => ?_)
  cases c with
  | false => exact isTrue_or_nil e
  | true => exact e
theorem pw_or (ha : PT X a tA) (hb : PW X (.BoolOp .Or (b :: rest) pos) tB') : PW X (.BoolOp .Or (a :: b :: rest) pos) (tOr tA tB') := by
  intro wh pins s σ H Q I h
  refine isTrue_or (thn (ha pins s σ H _ I h) fun c s1 ⟨H1, I1, q1⟩ => ?_)
  cases c with
  | true => exact ⟨H1, I1, q1⟩
  | false => exact hb wh pins s1 σ H1 Q I1 q1
theorem pt_not (ha : PT X a tA) : PT X (.UnaryOp .Not a pos) (tNot tA) := by
  intro pins s σ H Q I h
  exact isTrue_not (ha pins s σ H (fun c H1 => Q (!c) H1) I h)
def tAndV (ta tb : TE) : TE := fun σ H Q => ta σ H fun x H1 => ∃ c, x = .bl c ∧ if c = true then tb σ H1 Q else Q (.bl false) H1
def tNotV (ta : TE) : TE := fun σ H Q => ta σ H fun x H1 => ∃ c, x = .bl c ∧ Q (.bl (!c)) H1
theorem pe_one {op} {t : TE} (h : PE X a t) : PE X (.BoolOp op [a] pos) t := fun pins s σ H Q I hw => BoolOp_one (h pins s σ H Q I hw)
theorem pe_and (ha : PE X a ta) (hb : PE X (.BoolOp .And (b :: rest) pos) tb) : PE X (.BoolOp .And (a :: b :: rest) pos) (tAndV ta tb) := by
  intro pins s σ H Q I h
  refine BoolOp_and (thn (ha pins s σ H _ I h) fun v s1 ⟨x, H1, I1, r1, q1⟩ => ?_)
  obtain ⟨c, rfl, q1⟩ := q1
  cases r1
  refine wpAny_truthy_bool ?_
  cases c with
  | true => exact hb pins s1 σ H1 Q I1 q1
  | false => exact ⟨.bl false, H1, I1, rfl, q1⟩
theorem pe_not (ha : PE X a ta) : PE X (.UnaryOp .Not a pos) (tNotV ta) := by
  intro pins s σ H Q I h
  refine UnaryOp_ (thn (ha pins s σ H _ I h) fun v s1 ⟨x, H1, I1, r1, q1⟩ => ?_)
  obtain ⟨c, rfl, q1⟩ := q1
  cases r1
  exact not_of (wpAny_truthy_bool ⟨.bl (!c), H1, I1, rfl, q1⟩)
end
end L2
namespace L2
open PySem PySem.Spec PyProof.Rows
def SqL (K : PySem.W.Frag) (H : Hp) (a : Addr) (xs : List V) : Prop :=
  Rd H a (.lst xs) ∨
    ∃ (o : Obj) (its : Array Value) (n : Nat), K.lookup a = some o ∧ o.cls = .type "list" ∧ o.dict = none ∧ o.data = .seq its n ∧ its.size ≤ sizeLine ∧ Vals xs its.toList
def SqT (K : PySem.W.Frag) (H : Hp) (a : Addr) (xs : List V) : Prop :=
  Rd H a (.tup xs) ∨
    ∃ (o : Obj) (its : Array Value) (n : Nat), K.lookup a = some o ∧ o.cls = .type "tuple" ∧ o.data = .seq its n ∧ its.size ≤ sizeLine ∧ Vals xs its.toList
def absV : Value → Option V
  | .none => some .non
  | .bool b => some (.bl b)
  | .int i _ => some (.int i)
  | .str x _ => some (.str x)
  | .bytes b _ => some (.byt b)
  | .float b _ => some (.flt b)
  | .ref a => some (.ref a)
  | .type n => some (.ty n)
  | _ => none
theorem RelV.abs {x : V} {u : Value} (r : RelV x u) : absV u = some x := by
  cases x with
  | non => cases r; rfl
  | bl _ => cases r; rfl
  | int _ => obtain ⟨t, rfl⟩ := r; rfl
  | str _ => obtain ⟨t, rfl⟩ := r; rfl
  | byt _ => obtain ⟨t, rfl⟩ := r; rfl
  | flt _ => obtain ⟨t, rfl⟩ := r; rfl
  | ref _ => cases r; rfl
  | ty _ => cases r; rfl
theorem RelV.inj {x y : V} {u : Value} (r : RelV x u) (q : RelV y u) : x = y := Option.some.inj (r.abs.symm.trans q.abs)
theorem Vals.inj : ∀ {xs ys : List V} {us : List Value}, Vals xs us → Vals ys us → xs = ys
  | _, _, _, .nil, .nil => rfl
  | _, _, _, .cons r t, .cons r' t' => by rw [r.inj r', Vals.inj t t']
section
variable {X : Cx} {pins : List (Addr × Obj)} {σ : St} {H : Hp} {s : Shared} {a : Addr} {xs ys : List V}
theorem SqL.of {K : PySem.W.Frag} (h : H a = some (.lst xs)) : SqL K H a xs := .inl (.inl h)
theorem SqT.of {K : PySem.W.Frag} (h : H a = some (.tup xs)) : SqT K H a xs := .inl (.inl h)
theorem Inv.list (I : Inv X pins σ H s) (h : SqL X.K H a xs) : ∃ its : List Value, Vals xs its ∧ PlainL s.heap a its.toArray ∧ xs.length ≤ sizeLine := by
  rcases h with h | ⟨o, its, n, hk, hc, hd, hs, hz, r⟩
  · obtain ⟨z, its, n, r, e⟩ := h.ok I.hok
    exact ⟨its, r, ⟨_, n, e, rfl, rfl, rfl⟩, z⟩
  · refine ⟨its.toList, r, ⟨o, n, I.kIn a o hk, hc, hd, by simpa using hs⟩, ?_⟩
    have e := r.length
    simp only [Array.length_toList] at e
    omega
theorem Inv.tuple (I : Inv X pins σ H s) (h : SqT X.K H a xs) : ∃ its : List Value, Vals xs its ∧ IsTup s.heap a its.toArray ∧ xs.length ≤ sizeLine := by
  rcases h with h | ⟨o, its, n, hk, hc, hs, hz, r⟩
  · obtain ⟨z, its, r, p⟩ := h.ok I.hok
    exact ⟨its, r, p, z⟩
  · refine ⟨its.toList, r, ⟨o, I.kIn a o hk, hc, n, by simpa using hs⟩, ?_⟩
    have e := r.length
    simp only [Array.length_toList] at e
    omega
theorem Inv.list_inj (I : Inv X pins σ H s) (h : SqL X.K H a xs) (h' : SqL X.K H a ys) : xs = ys := by
  obtain ⟨its, r, ⟨o, n, e, _, _, d⟩, _⟩ := I.list h
  obtain ⟨its', r', ⟨o', n', e', _, _, d'⟩, _⟩ := I.list h'
  rw [e] at e'; cases e'
  rw [d] at d'
  injection d' with d1 _
  have : its = its' := by simpa using congrArg Array.toList d1
  subst this
  exact r.inj r'
theorem Inv.tuple_inj (I : Inv X pins σ H s) (h : SqT X.K H a xs) (h' : SqT X.K H a ys) : xs = ys := by
  obtain ⟨its, r, ⟨o, e, _, n, d⟩, _⟩ := I.tuple h
  obtain ⟨its', r', ⟨o', e', _, n', d'⟩, _⟩ := I.tuple h'
  rw [e] at e'; cases e'
  rw [d] at d'
  injection d' with d1 _
  have : its = its' := by simpa using congrArg Array.toList d1
  subst this
  exact r.inj r'
end
abbrev Cx.wish (X : Cx) (E : Value → Shared → Prop) : Cx := { X with xe := E }
abbrev Cx.nox (X : Cx) : Cx := X.wish fun _ _ => False
theorem Cx.Ok.wish {X : Cx} (ok : X.Ok) (E : Value → Shared → Prop) : (X.wish E).Ok :=
  ⟨ok.mod, ok.kind, ok.glob, ok.blt, ok.above, ok.inj, ok.has, ok.cab, ok.hd, ok.frames, ok.stk, ok.exf, ok.bs, ok.bsz, ok.noex, ok.exfs, ok.funs, ok.frf⟩
theorem Cx.Ok.unwish {X : Cx} {E : Value → Shared → Prop} (ok : (X.wish E).Ok) : X.Ok :=
  ⟨ok.mod, ok.kind, ok.glob, ok.blt, ok.above, ok.inj, ok.has, ok.cab, ok.hd, ok.frames, ok.stk, ok.exf, ok.bs, ok.bsz, ok.noex, ok.exfs, ok.funs, ok.frf⟩
section
variable {X : Cx} {pins : List (Addr × Obj)} {σ : St} {H : Hp} {s : Shared} {E : Value → Shared → Prop}
theorem Inv.wish (I : Inv X pins σ H s) (E : Value → Shared → Prop) : Inv (X.wish E) pins σ H s := ⟨I.ok.wish E, I.os, I.bare, I.base, I.loc, I.cell, I.free, I.freeC, I.pin, I.hok, I.len⟩
theorem Inv.unwish (I : Inv (X.wish E) pins σ H s) : Inv X pins σ H s := ⟨I.ok.unwish, I.os, I.bare, I.base, I.loc, I.cell, I.free, I.freeC, I.pin, I.hok, I.len⟩
theorem SP.unwish {D : Ends} {f : Flow} {s' : Shared} (h : SP (X.wish E) pins D f s') : SP X pins D f s' := by
  cases f with
  | next => obtain ⟨σ', H', I, q⟩ := h; exact ⟨σ', H', I.unwish, q⟩
  | brk => obtain ⟨σ', H', I, q⟩ := h; exact ⟨σ', H', I.unwish, q⟩
  | cont => obtain ⟨σ', H', I, q⟩ := h; exact ⟨σ', H', I.unwish, q⟩
  | ret u => obtain ⟨v, σ', H', I, r, q⟩ := h; exact ⟨v, σ', H', I.unwish, r, q⟩
theorem PSs.nox {st : List Stmt} {t : TS} (h : PSs X.nox st t) : PSs X st t := fun pins s σ H D I hw =>
  wpAny_mono (h pins s σ H D (I.wish _) hw) (fun _ _ q => q.unwish) fun _ _ z => False.elim z
end
section
variable {X : Cx} {st : Stmt} {rest : List Stmt} {t u : TS} {e : Expr} {te : TE} {pos : Pos}
def tNext : TS := fun D σ H => D.nx σ H
def tSeq (t u : TS) : TS := fun D σ H => t { D with nx := u D } σ H
theorem pss_nil : PSs X [] tNext := fun _ _ σ H _ I h => wpAny_execs_nil ⟨σ, H, I, h⟩
theorem pss_cons (h1 : PS X st t) (h2 : PSs X rest u) : PSs X (st :: rest) (tSeq t u) := by
  intro pins s σ H D I h
  refine wpAny_execs_cons (thn (h1 pins s σ H { D with nx := u D } I h) fun f s1 q => ?_)
  cases f with
  | next =>
    obtain ⟨σ', H', I', q⟩ := q
    exact h2 pins s1 σ' H' D I' q
  | ret v => exact q
  | brk => exact q
  | cont => exact q
theorem pss_one (h1 : PS X st t) : PSs X [st] t := by
  intro pins s σ H D I h
  refine wpAny_execs_cons (thn (h1 pins s σ H D I h) fun f s1 q => ?_)
  cases f with
  | next => exact wpAny_execs_nil q
  | ret v => exact q
  | brk => exact q
  | cont => exact q
theorem Inv.quiet {pins : List (Addr × Obj)} {σ : St} {H : Hp} {s : Shared} (I : Inv X pins σ H s) : interactive X.env = false := by simp [interactive, I.ok.kind]
def tDrop (te : TE) : TS := fun D σ H => te σ H fun _ H1 => D.nx σ H1
theorem ps_expr (he : PE X e te) (hs : swapsWith e none pos.line X.env = pure false := by rfl) : PS X (.Expr e pos) (tDrop te) := by
  intro pins s σ H D I h
  exact wpAny_Expr_any (thn (he pins s σ H _ I h) fun v s1 ⟨x, H1, I1, r1, q1⟩ => ⟨σ, H1, I1, q1⟩) I.quiet hs
def tRet (te : TE) : TS := fun D σ H => te σ H D.rt
theorem ps_ret (he : PE X e te) : PS X (.Return (some e) pos) (tRet te) := by
  intro pins s σ H D I h
  exact wpAny_Return_some (thn (he pins s σ H _ I h) fun v s1 ⟨x, H1, I1, r1, q1⟩ => ⟨x, σ, H1, I1, r1, q1⟩)
def tIfS (c : TT) (t u : TS) : TS := fun D σ H => c σ H fun b H1 => if b = true then t D σ H1 else u D σ H1
theorem ps_if {c : Expr} {a b : List Stmt} {tc : TT} (hc : PT X c tc) (ha : PSs X a t) (hb : PSs X b u) : PS X (.If c a b pos) (tIfS tc t u) := by
  intro pins s σ H D I h
  refine wpAny_If (thn (hc pins s σ H _ I h) fun d s1 ⟨H1, I1, q1⟩ => ?_)
  cases d with
  | true => exact ha pins s1 σ H1 D I1 q1
  | false => exact hb pins s1 σ H1 D I1 q1
def tNever : TS := fun _ _ _ => False
theorem pss_never {sts : List Stmt} : PSs X sts tNever := fun _ _ _ _ _ _ h => h.elim
end
abbrev TG := V → St → Hp → (St → Hp → Prop) → Prop
abbrev TGs := List V → St → Hp → (St → Hp → Prop) → Prop
def PG (X : Cx) (target : Expr) (t : TG) : Prop :=
  ∀ (pins : List (Addr × Obj)) (s : Shared) (σ : St) (H : Hp) (v : V) (u : Value) (Q : St → Hp → Prop), Inv X pins σ H s → RelV v u → t v σ H Q →
    wpAny (model X.prog X.w) X.A (assign target X.env u) (fun _ s' => ∃ σ' H', Inv X pins σ' H' s' ∧ Q σ' H') X.xe s
def PGs (X : Cx) (ts : List Expr) (t : TGs) : Prop :=
  ∀ (pins : List (Addr × Obj)) (s : Shared) (σ : St) (H : Hp) (vs : List V) (us : List Value) (Q : St → Hp → Prop), Inv X pins σ H s → Vals vs us → t vs σ H Q →
    wpAny (model X.prog X.w) X.A (assignInOrder ((assignEach ts X.env).map (·.2)) us) (fun _ s' => ∃ σ' H', Inv X pins σ' H' s' ∧ Q σ' H') X.xe s
abbrev TSet := V → V → V → Hp → (Hp → Prop) → Prop
def PSet (X : Cx) (t : TSet) : Prop :=
  ∀ (pins : List (Addr × Obj)) (s : Shared) (σ : St) (H : Hp) (o i v : V) (ov iv u : Value) (Q : Hp → Prop), Inv X pins σ H s → RelV o ov → RelV i iv → RelV v u → t o i v H Q →
    wpAny (model X.prog X.w) X.A (setItem ov iv u) (fun _ s' => ∃ H', Inv X pins σ H' s' ∧ Q H') X.xe s
section
variable {X : Cx} {pos : Pos}
def gName (i : Nat) : TG := fun v σ H Q => Q (σ.set i (some v)) H
theorem pg_name {i : Nat} {x : Str} (hN : X.N.Nodup) (hi : X.N[i]? = some x) (hx : Loc X.env.scope x) (hf : X.fn x = true ∨ X.env.scope.names.lookup x = some .local := by first | exact .inl rfl | exact .inr rfl | assumption) : PG X (.Name x pos) (gName i) := by
  intro pins s σ H v u Q I r h
  exact wpAny_assign_Name (store_ok I hN hi hx r (fun s' I' => ⟨_, H, I', h⟩) hf)
def gNil : TGs := fun vs σ H Q => vs = [] ∧ Q σ H
def gCons (t : TG) (u : TGs) : TGs := fun vs σ H Q => ∃ v r, vs = v :: r ∧ t v σ H fun σ' H' => u r σ' H' Q
theorem pgs_nil : PGs X [] gNil := by
  intro pins s σ H vs us Q I r h
  obtain ⟨e, h⟩ := h
  subst e
  cases r
  exact assignInOrder_nil ⟨σ, H, I, h⟩
theorem pgs_cons {e : Expr} {es : List Expr} {t : TG} {u : TGs} (h1 : PG X e t) (h2 : PGs X es u)
    (hs : (assignEach (e :: es) X.env).map (·.2) = assign e X.env :: (assignEach es X.env).map (·.2) := by rfl) : PGs X (e :: es) (gCons t u) := by
  intro pins s σ H vs us Q I r h
  obtain ⟨v, vr, e1, h⟩ := h
  subst e1
  cases r with
  | cons r rr =>
    rw [hs]
    refine assignInOrder_cons (thn (h1 pins s σ H _ _ _ I r h) fun _ s1 ⟨σ1, H1, I1, q1⟩ => ?_)
    exact h2 pins s1 σ1 H1 _ _ Q I1 rr q1
def gTup (K : PySem.W.Frag) (n : Nat) (t : TGs) : TG := fun v σ H Q => ∃ a xs, v = .ref a ∧ SqT K H a xs ∧ xs.length = n ∧ t xs σ H Q
theorem pg_tup {es : List Expr} {k : Nat} {t : TGs} {n : Nat} (hc : X.calm = true) (h : PGs X es t)
    (hn : (assignEach es X.env).length = n := by rfl) (hst : (assignEach es X.env).findIdx? (·.1) = none := by rfl) : PG X (.Tuple es k pos) (gTup X.K n t) := by
  intro pins s σ H v u Q I r hw
  obtain ⟨a, xs, e1, hq, hl, hw⟩ := hw
  subst e1
  cases r
  obtain ⟨its, rv, ht, hz⟩ := I.tuple hq
  refine assign_Tuple_tuple (I.ok.hd hc) ht (by simp [hn, ← hl, rv.length]) hst fun h' hx => ?_
  have I1 : Inv X pins σ H { s with heap := h' } := I.kept (t' := s.toks) fun b o e => hx b o (Nat.ne_of_lt (Heap.lt_size e)) e
  exact h pins _ σ H xs _ Q I1 (by simpa using rv) hw
def gSub (to ti : TE) (t : TSet) : TG := fun v σ H Q => to σ H fun o H1 => ti σ H1 fun i H2 => t o i v H2 fun H3 => Q σ H3
theorem pg_sub {o i : Expr} {to ti : TE} {t : TSet} (ho : PE X o to) (hi : PE X i ti) (hs : PSet X t)
    (ha : ∀ v, assign (.Subscript o i pos) X.env v = (do
      let ov ← holding [v] (eval o X.env)
      let iv ← holding [v, ov] (eval i X.env)
      standAt pos
      holding [v, ov, iv] (setItem ov iv v)
      release [v, ov, iv] []) := by intro _; rfl) : PG X (.Subscript o i pos) (gSub to ti t) := by
  intro pins s σ H v u Q I r h
  rw [ha]
  refine wpAny_bind (wpAny_holding (thn (ho pins s σ H _ I h) fun ov s1 ⟨x, H1, I1, r1, q1⟩ => ?_))
  refine wpAny_bind (wpAny_holding (thn (hi pins s1 σ H1 _ I1 q1) fun iv s2 ⟨y, H2, I2, r2, q2⟩ => ?_))
  refine wpAny_bind (wpAny_standAt (wpAny_bind (wpAny_holding (thn (hs pins s2 σ H2 x y v ov iv u _ I2 r1 r2 r q2) fun _ s3 ⟨H3, I3, q3⟩ => ?_))))
  exact wpAny_release ⟨σ, H3, I3, q3⟩
def tAsg (te : TE) (g : TG) : TS := fun D σ H => te σ H fun x H1 => g x σ H1 D.nx
theorem ps_asg {tg e : Expr} {te : TE} {g : TG} (he : PE X e te) (hg : PG X tg g) (hs : swapsWithSole [tg] e pos.line X.env = pure false := by rfl) (hw : swappedStores [tg] e X.env = pure none := by rfl)
    (h1 : (assignEach [tg] X.env).map (·.2) = [assign tg X.env] := by rfl) : PS X (.Assign [tg] e pos) (tAsg te g) := by
  intro pins s σ H D I h
  refine wpAny_Assign_stores (thn (he pins s σ H _ I h) fun v s1 ⟨x, H1, I1, r1, q1⟩ => ?_) hs hw
  rw [h1]
  exact thn (hg pins s1 σ H1 x v _ I1 r1 q1) fun _ s2 q => q
theorem ps_set {i : Nat} {x : Str} {e : Expr} {te : TE} {pos' : Pos} (hN : X.N.Nodup) (hi : X.N[i]? = some x) (hx : Loc X.env.scope x) (he : PE X e te) (hs : swapsWith e (some (.Name x pos')) pos.line X.env = pure false := by rfl) (hf : X.fn x = true ∨ X.env.scope.names.lookup x = some .local := by first | exact .inl rfl | exact .inr rfl | assumption) :
    PS X (.Assign [.Name x pos'] e pos) (tAsg te (gName i)) := by
  intro pins s σ H D I h
  refine wpAny_Assign_Name (thn (he pins s σ H _ I h) fun v s1 ⟨y, H1, I1, r1, q1⟩ => ?_) hs
  exact store_ok I1 hN hi hx r1 (fun s2 I2 => ⟨_, H1, I2, q1⟩) hf
def tPar (i j : Nat) (ta : TA) : TS := fun D σ H => ta σ H fun vs H1 => ∃ v w, vs = [v, w] ∧ D.nx ((σ.set i (some v)).set j (some w)) H1
theorem ps_par {i j : Nat} {x y : Str} {a b : Expr} {ta : TA} {px py pt : Pos} {kt k2 pt2} (hc : X.calm = true) (hN : X.N.Nodup) (hi : X.N[i]? = some x) (hj : X.N[j]? = some y) (hij : i ≠ j)
    (hx : X.env.scope.names.lookup x = some .local) (hy : X.env.scope.names.lookup y = some .local) (ha : PA X [a, b] ta)
    (hw : swappedStores [.Tuple [.Name x px, .Name y py] kt pt] (.Tuple [a, b] k2 pt2) X.env = pure (some [x, y]))
    (hs : swapsWithSole [.Tuple [.Name x px, .Name y py] kt pt] (.Tuple [a, b] k2 pt2) pos.line X.env = pure false := by rfl) :
    PS X (.Assign [.Tuple [.Name x px, .Name y py] kt pt] (.Tuple [a, b] k2 pt2) pos) (tPar i j ta) := by
  intro pins s σ H D I h
  rw [exec_Assign_arm]
  refine wpAny_bind (wpAny_standAt ?_)
  rw [hs]
  refine wpAny_bind (wpAny_pure ?_)
  rw [if_neg (by decide)]
  refine wpAny_bind (Tuple_ (thn (ha _ pins s σ H _ I h) fun us s1 ⟨vs, H1, I1, r1, q1⟩ => ?_))
  obtain ⟨v, w, e1, q1⟩ := q1
  subst e1
  obtain ⟨u1, u2, rfl, rv, rw'⟩ : ∃ u1 u2, us = [u1, u2] ∧ RelV v u1 ∧ RelV w u2 := by
    cases r1 with
    | cons p q =>
      cases q with
      | cons p' q' =>
        cases q'
        exact ⟨_, _, rfl, p, p'⟩
  refine wpAny_newObj_type ?_ (by show 2 ≤ sizeLine; decide)
  have I2 : Inv X pins σ H1 { s1 with heap := s1.heap.push { cls := .type "tuple", data := .seq [u1, u2].toArray } } := I1.kept (t' := s1.toks) fun b o e => Heap.get?_push_of_some _ e
  rw [hw]
  refine wpAny_bind (wpAny_pure ?_)
  show wpAny (model X.prog X.w) X.A (do rule "assign.swapped-stores"; let items ← unpackItems (.ref s1.heap.objs.size) 2 none; assignInOrder [fun v => bindName X.env y v, fun v => bindName X.env x v] items.reverse; pure Flow.next) _ _ _
  refine wpAny_bind (wpAny_rule (wpAny_bind (unpackItems_tuple (items := #[u1, u2]) (I.ok.hd hc) (IsTup.new s1.heap _) fun h' hx' => ?_)))
  have I3 := I2.kept (h' := h') (t' := s1.toks) fun b o e => hx' b o (Nat.ne_of_lt (Heap.lt_size e)) e
  show wpAny _ _ (assignInOrder [fun v => bindName X.env y v, fun v => bindName X.env x v] [u2, u1] >>= fun _ => pure Flow.next) _ _ _
  refine wpAny_bind (assignInOrder_cons (wpAny_bindName (store_ok I3 hN hj (.inl hy) rw' (fun s2 I4 => ?_) (.inr hy))))
  refine assignInOrder_cons (wpAny_bindName (store_ok I4 hN hi (.inl hx) rv (fun s3 I5 => assignInOrder_nil (wpAny_pure ?_)) (.inr hx)))
  rw [List.set_comm _ _ (Ne.symm hij)] at I5
  exact ⟨_, H1, I5, q1⟩
end
section
variable {X : Cx} {pos : Pos}
def tWhile (c : TT) (tb : TS) : TS := fun D σ H => ∃ W : Nat → St → Hp → Prop, (∃ m, W m σ H) ∧ ∀ m σ H, W m σ H →
  c σ H fun b H1 => if b = true then ∃ N : St → Hp → Prop, (∀ σ' H', N σ' H' → ∃ m', m' < m ∧ W m' σ' H') ∧ tb { D with nx := N, ct := N, bk := D.nx } σ H1 else D.nx σ H1
theorem ps_while {c : Expr} {body : List Stmt} {tc : TT} {tb : TS} (hp : PassesOwn (model X.prog X.w) X.A X.env X.xe) (hc : PT X c tc) (hb : PSs X body tb) : PS X (.While c body [] pos) (tWhile tc tb) := by
  intro pins s σ H D I h
  obtain ⟨W, ⟨m0, w0⟩, turn⟩ := h
  refine wpAny_While (codeAny_whileLoop (fun n s' => ∃ σ' H', Inv X pins σ' H' s' ∧ W n σ' H') ?_ m0 ⟨σ, H, I, w0⟩)
  rintro n s1 ⟨σ1, H1, I1, w1⟩
  refine wpAny_passesOwn hp (thn (hc pins s1 σ1 H1 _ I1 (turn n σ1 H1 w1)) fun b s2 ⟨H2, I2, q2⟩ => ?_)
  cases b with
  | true =>
    obtain ⟨N, hN, q2⟩ := q2
    rw [if_pos rfl]
    refine wpAny_passesOwn hp (thn (hb pins s2 σ1 H2 _ I2 q2) fun f s3 q3 => ?_)
    cases f with
    | next =>
      obtain ⟨σ3, H3, I3, n3⟩ := q3
      obtain ⟨m', hm, w3⟩ := hN σ3 H3 n3
      exact ⟨m', hm, σ3, H3, I3, w3⟩
    | cont =>
      obtain ⟨σ3, H3, I3, n3⟩ := q3
      obtain ⟨m', hm, w3⟩ := hN σ3 H3 n3
      exact ⟨m', hm, σ3, H3, I3, w3⟩
    | brk => exact q3
    | ret v => exact q3
  | false =>
    rw [if_neg Bool.false_ne_true]
    exact wpAny_execs_nil ⟨σ1, H2, I2, q2⟩
end
structure It where
  go : Nat → Hp → Prop
  yld : Nat → Hp → V → Hp → Prop
  stop : Nat → Hp → Prop
def FpOk (X : Cx) (pins : List (Addr × Obj)) (H : Hp) (b : Addr) : Prop :=
  H b = none ∧ b ≠ X.env.locals ∧ b ∉ X.fs ∧ (b ∈ X.ex ∨ X.s₀.heap.objs.size ≤ b) ∧ (∀ x c, X.env.cells.lookup x = some c → c ≠ b) ∧ ∀ p ∈ X.pn ++ pins, p.1 ≠ b
theorem Inv.fpOk {X : Cx} {pins : List (Addr × Obj)} {σ : St} {H H' : Hp} {s : Shared} {b : Addr} (I : Inv X pins σ H s) (hb : s.heap.objs.size ≤ b) (hn : H' b = none) : FpOk X pins H' b := by
  refine ⟨hn, Nat.ne_of_gt (Nat.lt_of_lt_of_le I.lt hb), I.nofs hb, .inr (Nat.le_trans I.sz hb), fun x c e z => ?_, fun p hp z => ?_⟩
  · obtain ⟨v, q⟩ := I.cell x c e
    exact absurd (Nat.lt_of_lt_of_le q.lt (by rw [z]; exact hb)) (Nat.lt_irrefl _)
  · exact absurd (Nat.lt_of_lt_of_le (Heap.lt_size (I.pin p hp).1) (by rw [z]; exact hb)) (Nat.lt_irrefl _)
structure Turn (P : Program) (w : World) (K : PySem.W.Frag) (tg : Expr) (J : It) (fp : List Addr) (it : Addr) (tn : Nat → Heap → Prop) : Prop where
  mem : it ∈ fp
  obj : ∀ i h, tn i h → ∀ b ∈ fp, ∃ o, h.get? b = some o ∧ ∀ v, o.data ≠ .cell v
  keep : ∀ i h h', tn i h → (∀ b ∈ fp, ∀ o, h.get? b = some o → h'.get? b = some o) → tn i h'
  item : ∀ (X : Cx), X.prog = P → X.w = w → X.K = K → X.calm = true → ∀ (i : Nat) (pins : List (Addr × Obj)) (s : Shared) (σ : St) (H : Hp) (E : Value → Shared → Prop), Inv X pins σ H s → (∀ b ∈ fp, FpOk X pins H b) → tn i s.heap → J.go i H →
    wpAny (model P w) X.A (pyNext (.ref it)) (fun r s1 => ∃ u, r = some u ∧
      wpAny (model P w) X.A (letOwnedTupleGo tg (.ref it) u) (fun _ s2 => ∃ x H', Inv X pins σ H' s2 ∧ RelV x u ∧ J.yld i H x H' ∧ tn (i + 1) s2.heap ∧ ∀ b ∈ fp, H' b = none) E s1) E s
  done : ∀ (X : Cx), X.prog = P → X.w = w → X.K = K → X.calm = true → ∀ (i : Nat) (pins : List (Addr × Obj)) (s : Shared) (σ : St) (H : Hp) (E : Value → Shared → Prop), Inv X pins σ H s → (∀ b ∈ fp, FpOk X pins H b) → tn i s.heap → J.stop i H →
    wpAny (model P w) X.A (pyNext (.ref it)) (fun r s1 => r = none ∧ Inv X pins σ H s1) E s
  self : ∀ (A : Around) (i : Nat) (s : Shared) (Q : Value → Shared → Prop) (E : Value → Shared → Prop), tn i s.heap → Q (.ref it) s → wpAny (model P w) A (pyIter (.ref it)) Q E s
abbrev TI := St → Hp → (It → Hp → Prop) → Prop
def PIE (X : Cx) (pins : List (Addr × Obj)) (σ : St) (tg : Expr) (R : It → Hp → Prop) (itv : Value) (s2 : Shared) : Prop :=
  ∃ (it : Addr) (fp : List Addr) (tn : Nat → Heap → Prop) (J : It) (H' : Hp), itv = .ref it ∧ Inv X pins σ H' s2 ∧ Turn X.prog X.w X.K tg J fp it tn ∧ tn 0 s2.heap ∧ (∀ b ∈ fp, FpOk X pins H' b) ∧ R J H'
def PI (X : Cx) (tg iter : Expr) (wi : TI) : Prop :=
  ∀ (pins : List (Addr × Obj)) (s : Shared) (σ : St) (H : Hp) (R : It → Hp → Prop), Inv X pins σ H s → wi σ H R →
    wpAny (model X.prog X.w) X.A (eval iter X.env) (fun v s1 => wpAny (model X.prog X.w) X.A (pyIter v) (PIE X pins σ tg R) X.xe s1) X.xe s
theorem go_of {M : Model} {A : Around} {E : Value → Shared → Prop} {s : Shared} {tg : Expr} {it : Addr} {u : Value} {o : Obj} {n : String} {vs : Array Value} {Q : Unit → Shared → Prop} (ho : s.heap.get? it = some o) (hc : o.cls = .type n) (hd : o.data = .fields vs)
    (hn : ["enumerate", "zip", "dict_itemiterator", "dict_reverseitemiterator", "odict_iterator", "itertools.zip_longest", "itertools.pairwise"].contains n = false) (hQ : Q () s) : wpAny M A (letOwnedTupleGo tg (.ref it) u) Q E s := by
  unfold letOwnedTupleGo
  cases tg <;> first
    | exact wpAny_pure hQ
    | (cases u <;> first
        | exact wpAny_pure hQ
        | (refine wpAny_bind (wpAny_load ho ?_)
           rw [hc, hd]
           show wpAny M A (if (["enumerate", "zip", "dict_itemiterator", "dict_reverseitemiterator", "odict_iterator", "itertools.zip_longest", "itertools.pairwise"].contains n && vs[0]? == some (rawInt _)) = true then _ else _) Q E s
           rw [if_neg (by intro h; rw [hn, Bool.false_and] at h; cases h)]
           exact wpAny_pure hQ))
def Itl (K : PySem.W.Frag) (a : Addr) : It :=
  ⟨fun i H => ∃ xs x, SqL K H a xs ∧ xs[i]? = some x, fun i H x H' => H' = H ∧ ∀ xs, SqL K H a xs → xs[i]? = some x, fun i H => ∃ xs, SqL K H a xs ∧ xs.length ≤ i⟩
def Itt (K : PySem.W.Frag) (a : Addr) : It :=
  ⟨fun i H => ∃ xs x, SqT K H a xs ∧ xs[i]? = some x, fun i H x H' => H' = H ∧ ∀ xs, SqT K H a xs → xs[i]? = some x, fun i H => ∃ xs, SqT K H a xs ∧ xs.length ≤ i⟩
def Itr (lo : Int) (n : Nat) : It := ⟨fun i _ => i < n, fun i H x H' => H' = H ∧ x = .int (lo + i), fun i _ => n ≤ i⟩
theorem turn_list {P : Program} {w : World} {K : PySem.W.Frag} {tg : Expr} (a it : Addr) : Turn P w K tg (Itl K a) [it] it (fun i h => h.IsListIter it a i) where
  mem := by simp
  obj := fun i h st b hb => by
    have e : b = it := by simpa using hb
    subst e
    obtain ⟨o, e, c, d⟩ := st
    exact ⟨o, e, fun v z => by rw [d] at z; cases z⟩
  keep := fun i h h' st k => st.at fun o e => k it (by simp) o e
  item := by
    intro X hP hw hK hc i pins s σ H E I hf st hg
    subst hP hw hK
    obtain ⟨xs, x, hq, hx⟩ := hg
    obtain ⟨its, rv, p, hz⟩ := I.list hq
    obtain ⟨u, hu, ru⟩ := rv.get hx
    obtain ⟨f0, f1, f2, f3, f4, f5⟩ := hf it (by simp)
    refine wpAny_pyNext_list_item st p.isList (x := u) (by simpa using hu) fun h' st' sb => ?_
    have I1 : Inv X pins σ H { s with heap := h' } := I.turned (t' := s.toks) (fun b o hb e => (sb.2 b hb).trans e) f0 f1 f3 f4 f5
    obtain ⟨o, e, c, d⟩ := id st'
    exact ⟨u, rfl, go_of (s := { s with heap := h' }) e c d (by decide) ⟨x, H, I1, ru, ⟨rfl, fun ys hy => by rw [I.list_inj hy hq]; exact hx⟩, st', fun b hb => (hf b hb).1⟩⟩
  done := by
    intro X hP hw hK hc i pins s σ H E I hf st hg
    subst hP hw hK
    obtain ⟨xs, hq, hx⟩ := hg
    obtain ⟨its, rv, p, hz⟩ := I.list hq
    obtain ⟨f0, f1, f2, f3, f4, f5⟩ := hf it (by simp)
    have hl := rv.length
    exact wpAny_pyNext_list_end (I.ok.hd hc) st p.isList (by simp; omega) fun h' eb => ⟨rfl, I.turned (t' := s.toks) (fun b o hb e => eb b o hb e) f0 f1 f3 f4 f5⟩
  self := fun _ _ _ _ _ st h => wpAny_pyIter_listiter st h
theorem turn_tuple {P : Program} {w : World} {K : PySem.W.Frag} {tg : Expr} (a it : Addr) : Turn P w K tg (Itt K a) [it] it (fun i h => h.IsTupleIter it a i) where
  mem := by simp
  obj := fun i h st b hb => by
    have e : b = it := by simpa using hb
    subst e
    obtain ⟨o, e, c, d⟩ := st
    exact ⟨o, e, fun v z => by rw [d] at z; cases z⟩
  keep := fun i h h' st k => st.at fun o e => k it (by simp) o e
  item := by
    intro X hP hw hK hc i pins s σ H E I hf st hg
    subst hP hw hK
    obtain ⟨xs, x, hq, hx⟩ := hg
    obtain ⟨its, rv, p, hz⟩ := I.tuple hq
    obtain ⟨u, hu, ru⟩ := rv.get hx
    obtain ⟨f0, f1, f2, f3, f4, f5⟩ := hf it (by simp)
    refine wpAny_pyNext_tuple_item st (show s.heap.IsTuple a its.toArray from p) (x := u) (by simpa using hu) fun h' st' sb => ?_
    have I1 : Inv X pins σ H { s with heap := h' } := I.turned (t' := s.toks) (fun b o hb e => (sb.2 b hb).trans e) f0 f1 f3 f4 f5
    obtain ⟨o, e, c, d⟩ := id st'
    exact ⟨u, rfl, go_of (s := { s with heap := h' }) e c d (by decide) ⟨x, H, I1, ru, ⟨rfl, fun ys hy => by rw [I.tuple_inj hy hq]; exact hx⟩, st', fun b hb => (hf b hb).1⟩⟩
  done := by
    intro X hP hw hK hc i pins s σ H E I hf st hg
    subst hP hw hK
    obtain ⟨xs, hq, hx⟩ := hg
    obtain ⟨its, rv, p, hz⟩ := I.tuple hq
    obtain ⟨f0, f1, f2, f3, f4, f5⟩ := hf it (by simp)
    have hl := rv.length
    exact wpAny_pyNext_tuple_end (I.ok.hd hc) st (show s.heap.IsTuple a its.toArray from p) (by simp; omega) fun h' eb => ⟨rfl, I.turned (t' := s.toks) (fun b o hb e => eb b o hb e) f0 f1 f3 f4 f5⟩
  self := fun _ _ _ _ _ st h => wpAny_pyIter_tupleiter st h
theorem turn_range {P : Program} {w : World} {K : PySem.W.Frag} {tg : Expr} (it : Addr) (lo : Int) (n : Nat) : Turn P w K tg (Itr lo n) [it] it (fun i h => IsRangeIter h it (lo + (i : Nat) * 1) ((n : Int) - (i : Nat)) 1) where
  mem := by simp
  obj := fun i h st b hb => by
    have e : b = it := by simpa using hb
    subst e
    exact ⟨_, st, fun v z => by
      have z' : Data.fields _ = Data.cell v := z
      cases z'⟩
  keep := fun i h h' st k => k it (by simp) _ st
  item := by
    intro X hP hw hK hc i pins s σ H E I hf st hg
    subst hP hw hK
    obtain ⟨f0, f1, f2, f3, f4, f5⟩ := hf it (by simp)
    have W := Walks.range (prog := X.prog) (w := X.w) (I.ok.hd hc) it lo 1 n
    refine W.item i s _ _ hg st fun v h' tk hv st' kk => ?_
    obtain ⟨t, rfl⟩ := hv
    have I1 : Inv X pins σ H { s with heap := h', toks := tk } := I.turned (fun b o hb e => kk b o (by simpa using hb) e) f0 f1 f3 f4 f5
    refine ⟨_, rfl, go_of (s := { s with heap := h', toks := tk }) (n := "range_iterator") st' rfl rfl (by decide) ⟨.int (lo + i), H, I1, ⟨t, ?_⟩, ⟨rfl, rfl⟩, st', fun b hb => (hf b hb).1⟩⟩
    rw [Int.mul_one]
  done := by
    intro X hP hw hK hc i pins s σ H E I hf st hg
    subst hP hw hK
    obtain ⟨f0, f1, f2, f3, f4, f5⟩ := hf it (by simp)
    exact wpAny_pyNext_range_end (I.ok.hd hc) st (by have : n ≤ i := hg; omega) fun h' eb => ⟨rfl, I.turned (t' := s.toks) (fun b o hb e => eb b o hb e) f0 f1 f3 f4 f5⟩
  self := fun _ _ _ _ _ st h => wpAny_pyIter_rangeiter st h
end L2
namespace L2
open PySem PySem.Spec PyProof.Rows
section
variable {X : Cx} {tg : Expr}
theorem range_it {pins : List (Addr × Obj)} {σ : St} {H : Hp} {s : Shared} {R : It → Hp → Prop} {E : Value → Shared → Prop} {lo hi : Int} {t u v : Tok} {tk : Nat} (I : Inv X pins σ H s) (h1 : -(2 ^ 62) ≤ lo) (h2 : lo < 2 ^ 62) (h3 : -(2 ^ 62) ≤ hi) (h4 : hi < 2 ^ 62)
    (q : R (Itr lo (hi - lo).toNat) H) : wpAny (model X.prog X.w) X.A (pyIter (.ref s.heap.objs.size)) (PIE X pins σ tg R) E { s with heap := s.heap.push { cls := .type "range", data := .fields #[.int lo t, .int hi u, .int 1 v] }, toks := tk } := by
  refine wpAny_pyIter_range (IsRange.new ..) (small_one h1 h2 h3 h4) ?_
  have I1 : Inv X pins σ H { s with heap := s.heap.push { cls := .type "range", data := .fields #[.int lo t, .int hi u, .int 1 v] }, toks := tk } := I.kept fun b o e => Heap.get?_push_of_some _ e
  refine ⟨(s.heap.push { cls := .type "range", data := .fields #[.int lo t, .int hi u, .int 1 v] }).objs.size, [(s.heap.push { cls := .type "range", data := .fields #[.int lo t, .int hi u, .int 1 v] }).objs.size], _, _, H, rfl,
    I1.kept (t' := tk) fun b o e => Heap.get?_push_of_some _ e, turn_range _ lo (hi - lo).toNat, ?_, fun b hb => ?_, q⟩
  · have e1 : lo + ((0 : Nat) : Int) * 1 = lo := by simp
    have e2 : (((hi - lo).toNat : Nat) : Int) - ((0 : Nat) : Int) = Builtin.Range.rangeSize lo hi 1 := by rw [rangeSize_one]; split <;> omega
    show IsRangeIter _ _ (lo + ((0 : Nat) : Int) * 1) ((((hi - lo).toNat : Nat) : Int) - ((0 : Nat) : Int)) 1
    rw [e1, e2]
    exact Heap.get?_push_size _ rfl
  · have e : b = (s.heap.push { cls := .type "range", data := .fields #[.int lo t, .int hi u, .int 1 v] }).objs.size := by simpa using hb
    subst e
    exact I1.fpOk (Nat.le_refl _) (I1.hok.fresh (Nat.le_refl _))
def iRng1 (ta : TA) : TI := fun σ H R => ta σ H fun vs H1 => ∃ j : Int, vs = [.int j] ∧ -(2 ^ 62) ≤ j ∧ j < 2 ^ 62 ∧ R (Itr 0 j.toNat) H1
theorem pi_range1 {a : Expr} {ta : TA} {p pos : Pos} (hg : Gl X "range") (hm : X.mg "range" = none) (ha : PA X [a] ta) (hs : starEach [a] X.env = [(false, eval a X.env)] := by rfl) : PI X tg (.Call (.Name "range" p) [a] [] pos) (iRng1 ta) := by
  intro pins s σ H R I h
  refine Call_ (ld_blt I hg hm boot_range (PyProof.Rows.callWith_type1 (thn (ha pos pins s σ H _ I h) fun us s1 ⟨vs, H1, I1, r1, q1⟩ => ?_) hs rfl))
  obtain ⟨j, e, q1, q2, q⟩ := q1
  subst e
  cases r1 with
  | cons r rr =>
    cases rr
    obtain ⟨t, rfl⟩ := r
    exact call_range_1 (range_it I1 (by omega) (by omega) q1 q2 (by simpa using q))
def tFor (wi : TI) (g : TG) (tb : TS) : TS := fun D σ H => wi σ H fun J H1 => ∃ W : Nat → Nat → St → Hp → Prop, (∃ m, W 0 m σ H1) ∧ ∀ i m σ H, W i m σ H →
  (J.stop i H ∧ D.nx σ H) ∨ (J.go i H ∧ ∃ N : St → Hp → Prop, (∀ σ' H', N σ' H' → ∃ m', m' < m ∧ W (i + 1) m' σ' H') ∧ ∀ x H', J.yld i H x H' → g x σ H' fun σ2 H2 => tb { D with nx := N, ct := N, bk := D.nx } σ2 H2)
def pinsAt (fp : List Addr) (h : Heap) : List (Addr × Obj) := fp.filterMap fun b => (h.get? b).map fun o => (b, o)
theorem mem_pinsAt {fp : List Addr} {h : Heap} {b : Addr} {o : Obj} (hb : b ∈ fp) (e : h.get? b = some o) : (b, o) ∈ pinsAt fp h := List.mem_filterMap.mpr ⟨b, hb, by rw [e]; rfl⟩
theorem of_pinsAt {fp : List Addr} {h : Heap} {p : Addr × Obj} (hp : p ∈ pinsAt fp h) : p.1 ∈ fp ∧ h.get? p.1 = some p.2 := by
  obtain ⟨b, hb, e⟩ := List.mem_filterMap.mp hp
  cases q : h.get? b with
  | none => rw [q] at e; cases e
  | some o =>
    rw [q] at e
    have e' : (b, o) = p := Option.some.inj e
    subst e'
    exact ⟨hb, q⟩
theorem Inv.pinned {pins : List (Addr × Obj)} {σ : St} {H : Hp} {s : Shared} {fp : List Addr} (I : Inv X pins σ H s) (hf : ∀ b ∈ fp, FpOk X pins H b) (ho : ∀ b ∈ fp, ∃ o, s.heap.get? b = some o ∧ ∀ v, o.data ≠ .cell v) : Inv X (pins ++ pinsAt fp s.heap) σ H s :=
  I.pins_of fun p hp => (List.mem_append.mp hp).elim (fun z => I.pin p (List.mem_append_right _ z)) fun z => by
    obtain ⟨hb, e⟩ := of_pinsAt z
    obtain ⟨f0, f1, f2, _⟩ := hf p.1 hb
    obtain ⟨o, e', d⟩ := ho p.1 hb
    rw [e] at e'; cases e'
    exact ⟨e, f0, f1, f2, d⟩
theorem Inv.unpinned {pins pl : List (Addr × Obj)} {σ : St} {H : Hp} {s : Shared} (I : Inv X (pins ++ pl) σ H s) : Inv X pins σ H s := I.pins_of fun p hp => I.pin p (List.mem_append_right _ (List.mem_append_left _ hp))
theorem ps_for {iter : Expr} {body : List Stmt} {wi : TI} {g : TG} {tb : TS} {pos : Pos} (hp : PassesOwn (model X.prog X.w) X.A X.env X.xe) (hc : X.calm = true) (hi : PI X tg iter wi) (hg : PG X tg g) (hb : PSs X body tb)
    (hs : ∀ x, foldedSetIterable iter X.env x = pure x := by intro _; rfl) : PS X (.For tg iter body [] pos) (tFor wi g tb) := by
  intro pins s σ H D I h
  refine wpAny_For (thn (hi pins s σ H _ I h) fun v s1 h1 => thn h1 fun itv s2 h2 => ?_) hs
  obtain ⟨it, fp, tn, J, H2, e, I2, T, st2, f2, W, ⟨m0, w0⟩, turn⟩ := h2
  subst e
  have stat : ∀ {H' : Hp}, (∀ b ∈ fp, H' b = none) → ∀ b ∈ fp, FpOk X pins H' b := fun hn b hb => ⟨hn b hb, (f2 b hb).2⟩
  refine codeAny_forLoop_any (fun n s' => ∃ i σ' H', Inv X pins σ' H' s' ∧ tn i s'.heap ∧ (∀ b ∈ fp, H' b = none) ∧ W i n σ' H') ?_ m0 ⟨0, σ, H2, I2, st2, fun b hb => (f2 b hb).1, w0⟩
  rintro n s3 ⟨i, σ3, H3, I3, st3, fr3, w3⟩
  rcases turn i n σ3 H3 w3 with ⟨stop, qn⟩ | ⟨go, N, hN, step⟩
  · refine wpAny_passesOwn hp (thn (T.done X rfl rfl rfl hc i pins s3 σ3 H3 X.xe I3 (stat fr3) st3 stop) fun r s4 ⟨hr, I4⟩ => ?_)
    subst hr
    exact wpAny_execs_nil ⟨σ3, H3, I4, qn⟩
  · refine wpAny_passesOwn hp (thn (T.item X rfl rfl rfl hc i pins s3 σ3 H3 X.xe I3 (stat fr3) st3 go) fun r s4 ⟨u, hr, h4⟩ => ?_)
    subst hr
    refine wpAny_passesOwn hp (thn h4 fun _ s5 ⟨x, H5, I5, r5, y5, st5, fr5⟩ => ?_)
    have I5' := I5.pinned (stat fr5) (T.obj _ _ st5)
    refine wpAny_passesOwn hp (thn (hg _ s5 σ3 H5 x u _ I5' r5 (step x H5 y5)) fun _ s6 ⟨σ6, H6, I6, q6⟩ => ?_)
    refine wpAny_passesOwn hp (thn (hb _ s6 σ6 H6 _ I6 q6) fun f s7 q7 => ?_)
    have again : ∀ {σ7 : St} {H7 : Hp}, Inv X (pins ++ pinsAt fp s5.heap) σ7 H7 s7 → N σ7 H7 → ∃ m, m < n ∧ ∃ i σ' H', Inv X pins σ' H' s7 ∧ tn i s7.heap ∧ (∀ b ∈ fp, H' b = none) ∧ W i m σ' H' := fun {σ7 H7} I7 n7 => by
      obtain ⟨m', hm, w7⟩ := hN σ7 H7 n7
      refine ⟨m', hm, i + 1, σ7, H7, I7.unpinned, T.keep _ _ _ st5 fun b hb o e => (I7.pin (b, o) (List.mem_append_right _ (List.mem_append_right _ (mem_pinsAt hb e)))).1, fun b hb => ?_, w7⟩
      obtain ⟨o, e, d⟩ := T.obj _ _ st5 b hb
      exact (I7.pin (b, o) (List.mem_append_right _ (List.mem_append_right _ (mem_pinsAt hb e)))).2.1
    cases f with
    | next => obtain ⟨σ7, H7, I7, n7⟩ := q7; exact again I7 n7
    | cont => obtain ⟨σ7, H7, I7, n7⟩ := q7; exact again I7 n7
    | brk => obtain ⟨σ7, H7, I7, q7⟩ := q7; exact ⟨σ7, H7, I7.unpinned, q7⟩
    | ret v => obtain ⟨x7, σ7, H7, I7, r7, q7⟩ := q7; exact ⟨x7, σ7, H7, I7.unpinned, r7, q7⟩
end
theorem for_range {lo : Int} {n : Nat} {g : TG} {tb : TS} {D : Ends} {σ : St} {H : Hp} (Pv : Nat → St → Hp → Prop) (h0 : Pv 0 σ H)
    (hs : ∀ i σ H, i < n → Pv i σ H → g (.int (lo + i)) σ H fun σ2 H2 => tb { D with nx := Pv (i + 1), ct := Pv (i + 1), bk := D.nx } σ2 H2) (hd : ∀ σ H, Pv n σ H → D.nx σ H) :
    ∃ W : Nat → Nat → St → Hp → Prop, (∃ m, W 0 m σ H) ∧ ∀ i m σ H, W i m σ H →
      ((Itr lo n).stop i H ∧ D.nx σ H) ∨ ((Itr lo n).go i H ∧ ∃ N : St → Hp → Prop, (∀ σ' H', N σ' H' → ∃ m', m' < m ∧ W (i + 1) m' σ' H') ∧ ∀ x H', (Itr lo n).yld i H x H' → g x σ H' fun σ2 H2 => tb { D with nx := N, ct := N, bk := D.nx } σ2 H2) := by
  refine ⟨fun i m σ H => m = n - i ∧ i ≤ n ∧ Pv i σ H, ⟨n, by simp, Nat.zero_le _, h0⟩, ?_⟩
  rintro i m σ H ⟨rfl, hi, p⟩
  by_cases hlt : i < n
  · refine .inr ⟨hlt, Pv (i + 1), fun σ' H' p' => ⟨n - (i + 1), by omega, rfl, hlt, p'⟩, fun x H' y => ?_⟩
    obtain ⟨e, y⟩ := y
    subst e y
    exact hs i σ _ hlt p
  · have e : i = n := by omega
    subst e
    exact .inl ⟨Nat.le_refl _, hd σ H p⟩
end L2
namespace L2
open PySem PySem.Spec PyProof.Rows
abbrev R2 := V → V → Hp → VK → Prop
def OpR (X : Cx) (f : Value → Value → Sem Value) (r : R2) : Prop :=
  ∀ (pins : List (Addr × Obj)) (s : Shared) (σ : St) (H : Hp) (x y : V) (v u : Value) (Q : VK), Inv X pins σ H s → RelV x v → RelV y u → r x y H Q →
    wpAny (model X.prog X.w) X.A (f v u) (EP X pins σ Q) X.xe s
def CallR (X : Cx) (f : Value) (r : List V → Hp → VK → Prop) : Prop :=
  ∀ (pins : List (Addr × Obj)) (s : Shared) (σ : St) (H : Hp) (xs : List V) (us : List Value) (Q : VK), Inv X pins σ H s → Vals xs us → r xs H Q →
    wpAny (model X.prog X.w) X.A (call f us) (EP X pins σ Q) X.xe s
def tOp (r : R2) (ta tb : TE) : TE := fun σ H Q => ta σ H fun x H1 => tb σ H1 fun y H2 => r x y H2 Q
def rI (C : Int → Int → Prop) (g : Int → Int → V) : R2 := fun x y H Q => ∃ i j, x = .int i ∧ y = .int j ∧ C i j ∧ Q (g i j) H
def rI0 (g : Int → Int → V) : R2 := fun x y H Q => ∃ i j, x = .int i ∧ y = .int j ∧ Q (g i j) H
section
variable {X : Cx} {a b c : Expr} {ta tb tc : TE} {pos : Pos}
theorem binT (ha : PE X a ta) (hb : PE X b tb) {pins : List (Addr × Obj)} {s : Shared} {σ : St} {H : Hp} {R : V → V → Hp → Prop} (I : Inv X pins σ H s)
    (h : ta σ H fun x H1 => tb σ H1 fun y H2 => R x y H2) {Q : Value → Shared → Prop} {f : Value → Value → Sem Value}
    (hf : ∀ v u s2 x y H2, Inv X pins σ H2 s2 → RelV x v → RelV y u → R x y H2 → wpAny (model X.prog X.w) X.A (f v u) Q X.xe s2) :
    wpAny (model X.prog X.w) X.A (eval a X.env) (fun v s₁ => wpAny (model X.prog X.w) X.A (eval b X.env) (fun u s₂ => wpAny (model X.prog X.w) X.A (f v u) Q X.xe s₂) X.xe s₁) X.xe s := by
  refine thn (ha pins s σ H _ I h) fun v s1 ⟨x, H1, I1, r1, q1⟩ => ?_
  refine thn (hb pins s1 σ H1 _ I1 q1) fun u s2 ⟨y, H2, I2, r2, q2⟩ => ?_
  exact hf v u s2 x y H2 I2 r1 r2 q2
theorem pe_op {op : Operator} {r : R2} (ho : OpR X (binaryOp op) r) (ha : PE X a ta) (hb : PE X b tb) : PE X (.BinOp a op b pos) (tOp r ta tb) := by
  intro pins s σ H Q I h
  exact wpAny_BinOp (binT ha hb I h fun v u s2 x y H2 I2 rx ry q => ho pins s2 σ H2 x y v u Q I2 rx ry q)
theorem opI {f : Value → Value → Sem Value} {C : Int → Int → Prop} {g : Int → Int → Int}
    (rule : ∀ (i j : Int) (t u : Tok) (s : Shared) (Q : Value → Shared → Prop) (E : Value → Shared → Prop), C i j → Q (.int (g i j) s.toks) { s with toks := s.toks + 1 } → wpAny (model X.prog X.w) X.A (f (.int i t) (.int j u)) Q E s) :
    OpR X f (rI C fun i j => .int (g i j)) := by
  intro pins s σ H x y v u Q I rx ry h
  obtain ⟨i, j, rfl, rfl, hc, q⟩ := h
  obtain ⟨t, rfl⟩ := rx
  obtain ⟨t', rfl⟩ := ry
  exact rule i j t t' s _ _ hc ⟨.int (g i j), H, I.tok _, ⟨_, rfl⟩, q⟩
theorem opI0 {f : Value → Value → Sem Value} {g : Int → Int → Int}
    (rule : ∀ (i j : Int) (t u : Tok) (s : Shared) (Q : Value → Shared → Prop) (E : Value → Shared → Prop), Q (.int (g i j) s.toks) { s with toks := s.toks + 1 } → wpAny (model X.prog X.w) X.A (f (.int i t) (.int j u)) Q E s) :
    OpR X f (rI0 fun i j => .int (g i j)) := by
  intro pins s σ H x y v u Q I rx ry h
  obtain ⟨i, j, rfl, rfl, q⟩ := h
  obtain ⟨t, rfl⟩ := rx
  obtain ⟨t', rfl⟩ := ry
  exact rule i j t t' s _ _ ⟨.int (g i j), H, I.tok _, ⟨_, rfl⟩, q⟩
theorem opB0 {f : Value → Value → Sem Value} {g : Int → Int → Bool}
    (rule : ∀ (i j : Int) (t u : Tok) (s : Shared) (Q : Value → Shared → Prop) (E : Value → Shared → Prop), Q (.bool (g i j)) s → wpAny (model X.prog X.w) X.A (f (.int i t) (.int j u)) Q E s) :
    OpR X f (rI0 fun i j => .bl (g i j)) := by
  intro pins s σ H x y v u Q I rx ry h
  obtain ⟨i, j, rfl, rfl, q⟩ := h
  obtain ⟨t, rfl⟩ := rx
  obtain ⟨t', rfl⟩ := ry
  exact rule i j t t' s _ _ ⟨.bl (g i j), H, I, rfl, q⟩
def CDiv (i j : Int) : Prop := 0 < j ∧ j < 1073741824
def CPow (i j : Int) : Prop := 0 ≤ j ∧ j ≤ 1000000 ∧ i.natAbs < 2 ^ 64
def CMul (i j : Int) : Prop := (-(2 ^ 64) < i ∧ i < 2 ^ 64) ∨ (-(2 ^ 64) < j ∧ j < 2 ^ 64)
theorem CMul.ok {i j : Int} (h : CMul i j) : IntMulOk i j := by
  rcases h with ⟨h1, h2⟩ | ⟨h1, h2⟩
  · exact .of_left (intBits_le_64 h1 h2)
  · exact .of_right (intBits_le_64 h1 h2)
theorem op_add : OpR X (binaryOp .Add) (rI0 fun i j => .int (i + j)) := opI0 fun _ _ _ _ _ _ _ q => add_int q
theorem op_sub : OpR X (binaryOp .Sub) (rI0 fun i j => .int (i - j)) := opI0 fun _ _ _ _ _ _ _ q => sub_int q
theorem op_mul : OpR X (binaryOp .Mult) (rI CMul fun i j => .int (i * j)) := opI fun _ _ _ _ _ _ _ hc q => mul_int q hc.ok
theorem op_fdiv : OpR X (binaryOp .FloorDiv) (rI CDiv fun i j => .int (i / j)) := opI fun i j _ _ _ _ _ hc q => by
  have h1 : (0 : Int) < j := hc.1
  have h2 : j < 1073741824 := hc.2
  exact floordiv_int (by omega) (by rw [Int.fdiv_eq_ediv_of_nonneg i (by omega)]; exact q) (.inl (PyProof.noPylong_small (by omega)))
theorem op_mod : OpR X (binaryOp .Mod) (rI (fun _ j => 0 < j) fun i j => .int (i % j)) := opI fun i j _ _ _ _ _ hc q => by
  have h1 : (0 : Int) < j := hc
  exact mod_int' (by omega) (by rw [Int.fmod_eq_emod_of_nonneg i (by omega)]; exact q)
theorem op_pow : OpR X (binaryOp .Pow) (rI CPow fun i j => .int (i ^ j.toNat)) := opI fun _ _ _ _ _ _ _ hc q => pow_int_small hc.1 hc.2.1 hc.2.2 q
end
def scal : V → V → Bool
  | .non, .non => true | .non, .int _ => true | .int _, .non => true | .non, .bl _ => true | .bl _, .non => true | .non, .str _ => true | .str _, .non => true
  | .int _, .int _ => true | .bl _, .bl _ => true | .str _, .str _ => true | .byt _, .byt _ => true
  | .int _, .str _ => true | .str _, .int _ => true | .bl _, .str _ => true | .str _, .bl _ => true
  | _, _ => false
def rEq : R2 := fun x y H Q => scal x y = true ∧ Q (.bl (decide (x = y))) H
def rNe : R2 := fun x y H Q => scal x y = true ∧ Q (.bl (!decide (x = y))) H
theorem dec_int {i j : Int} : decide (V.int i = V.int j) = (i == j) := by
  rw [Bool.eq_iff_iff]
  simp
theorem dec_bl {i j : Bool} : decide (V.bl i = V.bl j) = (i == j) := by
  rw [Bool.eq_iff_iff]
  simp
theorem dec_str {i j : Str} : decide (V.str i = V.str j) = (i == j) := by
  rw [Bool.eq_iff_iff]
  simp
theorem dec_byt {i j : Array UInt8} : decide (V.byt i = V.byt j) = (i.toList == j.toList) := by
  rw [Bool.eq_iff_iff]
  cases i
  cases j
  simp
section
variable {X : Cx} {a b c : Expr} {ta tb tc : TE} {pos : Pos}
theorem fin_bl {pins : List (Addr × Obj)} {σ : St} {H : Hp} {s : Shared} {Q : VK} {k k' : Bool} (I : Inv X pins σ H s) (q : Q (.bl k) H) (e : k = k') : EP X pins σ Q (.bool k') s := by
  subst e
  exact ⟨.bl k, H, I, rfl, q⟩
theorem op_eq : OpR X (compareOp .Eq) rEq := by
  intro pins s σ H x y v u Q I rx ry h
  obtain ⟨hs, q⟩ := h
  cases x with
  | non =>
    cases rx
    cases y with
    | non => cases ry; exact PySem.EqNone.eq_none_none (fin_bl I q (by simp))
    | bl j => cases ry; exact PySem.EqNone.eq_none_bool (fin_bl I q (by simp))
    | int j => obtain ⟨t', rfl⟩ := ry; exact PySem.EqNone.eq_none_int (fin_bl I q (by simp))
    | str j => obtain ⟨t', rfl⟩ := ry; exact PySem.EqNone.eq_none_str (fin_bl I q (by simp))
    | _ => exact absurd (show false = true from hs) Bool.false_ne_true
  | bl i =>
    cases rx
    cases y with
    | non => cases ry; exact PySem.EqNone.eq_bool_none (fin_bl I q (by simp))
    | bl j => cases ry; exact eq_bool (fin_bl I q dec_bl)
    | str j => obtain ⟨t', rfl⟩ := ry; exact PySem.EqMixed.eq_bool_str (fin_bl I q (by simp))
    | _ => exact absurd (show false = true from hs) Bool.false_ne_true
  | int i =>
    obtain ⟨t, rfl⟩ := rx
    cases y with
    | non => cases ry; exact PySem.EqNone.eq_int_none (fin_bl I q (by simp))
    | int j => obtain ⟨t', rfl⟩ := ry; exact eq_int (fin_bl I q dec_int)
    | str j => obtain ⟨t', rfl⟩ := ry; exact PySem.EqMixed.eq_int_str (fin_bl I q (by simp))
    | _ => exact absurd (show false = true from hs) Bool.false_ne_true
  | str i =>
    obtain ⟨t, rfl⟩ := rx
    cases y with
    | non => cases ry; exact PySem.EqNone.eq_str_none (fin_bl I q (by simp))
    | bl j => cases ry; exact PySem.EqMixed.eq_str_bool (fin_bl I q (by simp))
    | int j => obtain ⟨t', rfl⟩ := ry; exact PySem.EqMixed.eq_str_int (fin_bl I q (by simp))
    | str j => obtain ⟨t', rfl⟩ := ry; exact eq_str (fin_bl I q dec_str)
    | _ => exact absurd (show false = true from hs) Bool.false_ne_true
  | byt i =>
    obtain ⟨t, rfl⟩ := rx
    cases y with
    | byt j => obtain ⟨t', rfl⟩ := ry; exact PySem.W.eq_bytes (fin_bl I q dec_byt)
    | _ => exact absurd (show false = true from hs) Bool.false_ne_true
  | _ => cases y <;> exact absurd (show false = true from hs) Bool.false_ne_true
theorem op_ne : OpR X (compareOp .NotEq) rNe := by
  intro pins s σ H x y v u Q I rx ry h
  obtain ⟨hs, q⟩ := h
  cases x with
  | non =>
    cases rx
    cases y with
    | non => cases ry; exact PySem.EqNone.ne_none_none (fin_bl I q (by simp))
    | bl j => cases ry; exact PySem.EqNone.ne_none_bool (fin_bl I q (by simp))
    | int j => obtain ⟨t', rfl⟩ := ry; exact PySem.EqNone.ne_none_int (fin_bl I q (by simp))
    | str j => obtain ⟨t', rfl⟩ := ry; exact PySem.EqNone.ne_none_str (fin_bl I q (by simp))
    | _ => exact absurd (show false = true from hs) Bool.false_ne_true
  | bl i =>
    cases rx
    cases y with
    | non => cases ry; exact PySem.EqNone.ne_bool_none (fin_bl I q (by simp))
    | bl j => cases ry; exact ne_bool (fin_bl I q (congrArg not dec_bl))
    | str j => obtain ⟨t', rfl⟩ := ry; exact PySem.EqMixed.ne_bool_str (fin_bl I q (by simp))
    | _ => exact absurd (show false = true from hs) Bool.false_ne_true
  | int i =>
    obtain ⟨t, rfl⟩ := rx
    cases y with
    | non => cases ry; exact PySem.EqNone.ne_int_none (fin_bl I q (by simp))
    | int j => obtain ⟨t', rfl⟩ := ry; exact ne_int (fin_bl I q (congrArg not dec_int))
    | str j => obtain ⟨t', rfl⟩ := ry; exact PySem.EqMixed.ne_int_str (fin_bl I q (by simp))
    | _ => exact absurd (show false = true from hs) Bool.false_ne_true
  | str i =>
    obtain ⟨t, rfl⟩ := rx
    cases y with
    | non => cases ry; exact PySem.EqNone.ne_str_none (fin_bl I q (by simp))
    | bl j => cases ry; exact PySem.EqMixed.ne_str_bool (fin_bl I q (by simp))
    | int j => obtain ⟨t', rfl⟩ := ry; exact PySem.EqMixed.ne_str_int (fin_bl I q (by simp))
    | str j => obtain ⟨t', rfl⟩ := ry; exact ne_str (fin_bl I q (congrArg not dec_str))
    | _ => exact absurd (show false = true from hs) Bool.false_ne_true
  | byt i =>
    obtain ⟨t, rfl⟩ := rx
    cases y with
    | byt j => obtain ⟨t', rfl⟩ := ry; exact PySem.W.ne_bytes (fin_bl I q (congrArg not dec_byt))
    | _ => exact absurd (show false = true from hs) Bool.false_ne_true
  | _ => cases y <;> exact absurd (show false = true from hs) Bool.false_ne_true
theorem op_lt : OpR X (compareOp .Lt) (rI0 fun i j => .bl (decide (i < j))) := opB0 fun _ _ _ _ _ _ _ q => lt_int q
theorem op_gt : OpR X (compareOp .Gt) (rI0 fun i j => .bl (decide (j < i))) := opB0 fun _ _ _ _ _ _ _ q => gt_int q
theorem op_ge : OpR X (compareOp .GtE) (rI0 fun i j => .bl (decide (j ≤ i))) := opB0 fun _ _ _ _ _ _ _ q => ge_int q
theorem nomark (b : Expr) {op : CmpOp} (h : op ≠ .In := by decide) (h2 : op ≠ .NotIn := by decide) : behindInMarks op b = false := by
  have e1 : (op == CmpOp.In) = false := by cases op <;> first | rfl | exact absurd rfl h
  have e2 : (op == CmpOp.NotIn) = false := by cases op <;> first | rfl | exact absurd rfl h2
  cases b <;> simp [behindInMarks, e1, e2]
theorem pe_cmpR {op : CmpOp} {r : R2} (ho : OpR X (compareOp op) r) (ha : PE X a ta) (hb : PE X b tb) (hm : behindInMarks op b = false) : PE X (.Compare a [op] [b] pos) (tOp r ta tb) := by
  intro pins s σ H Q I h
  exact wpAny_Compare1 (binT ha hb I h fun v u s2 x y H2 I2 rx ry q => ho pins s2 σ H2 x y v u Q I2 rx ry q) hm
def tTest (t : TE) : TT := fun σ H Q => t σ H fun x H' => ∃ k, x = .bl k ∧ Q k H'
theorem pt_cmpR {op : CmpOp} {r : R2} (ho : OpR X (compareOp op) r) (ha : PE X a ta) (hb : PE X b tb) (hm : behindInMarks op b = false) : PT X (.Compare a [op] [b] pos) (tTest (tOp r ta tb)) := by
  intro pins s σ H Q I h
  refine wpAny_isTrue_Compare1 (thn (ha pins s σ H _ I h) fun v s1 ⟨x, H1, I1, r1, q1⟩ => thn (hb pins s1 σ H1 _ I1 q1) fun u s2 ⟨y, H2, I2, r2, q2⟩ =>
    thn (ho pins s2 σ H2 x y v u _ I2 r1 r2 q2) fun c s3 ⟨z, H3, I3, r3, k, e, q3⟩ => ?_) hm
  subst e
  cases r3
  exact wpAny_truthy_bool ⟨H3, I3, q3⟩
theorem line63 : (sizeLine : Nat) < 2 ^ 63 := by rw [sizeLine_eq]; decide
theorem vals1 {x : V} {us : List Value} (r : Vals [x] us) : ∃ u, us = [u] ∧ RelV x u := by
  cases r with
  | cons r1 r2 => cases r2; exact ⟨_, rfl, r1⟩
theorem vals2 {x y : V} {us : List Value} (r : Vals [x, y] us) : ∃ u w', us = [u, w'] ∧ RelV x u ∧ RelV y w' := by
  cases r with
  | cons r1 r2 =>
    cases r2 with
    | cons r3 r4 => cases r4; exact ⟨_, _, rfl, r1, r3⟩
theorem call_max2 (hc : X.calm = true) : CallR X (.builtin "max") (fun xs H Q => ∃ i j, xs = [.int i, .int j] ∧ Q (.int (if j > i then j else i)) H) := by
  intro pins s σ H xs us Q I r h
  obtain ⟨i, j, rfl, q⟩ := h
  obtain ⟨u, w', rfl, ⟨t, rfl⟩, ⟨t', rfl⟩⟩ := vals2 r
  refine max_two_ints (I.ok.hd hc) fun h' tk k => ⟨_, H, I.kept k, ?_, q⟩
  by_cases hj : j > i
  · rw [if_pos hj, if_pos hj]; exact ⟨_, rfl⟩
  · rw [if_neg hj, if_neg hj]; exact ⟨_, rfl⟩
theorem call_min2 (hc : X.calm = true) : CallR X (.builtin "min") (fun xs H Q => ∃ i j, xs = [.int i, .int j] ∧ Q (.int (if j < i then j else i)) H) := by
  intro pins s σ H xs us Q I r h
  obtain ⟨i, j, rfl, q⟩ := h
  obtain ⟨u, w', rfl, ⟨t, rfl⟩, ⟨t', rfl⟩⟩ := vals2 r
  refine min_two_ints (I.ok.hd hc) fun h' tk k => ⟨_, H, I.kept k, ?_, q⟩
  by_cases hj : j < i
  · rw [if_pos hj, if_pos hj]; exact ⟨_, rfl⟩
  · rw [if_neg hj, if_neg hj]; exact ⟨_, rfl⟩
theorem call_int1 : CallR X (.type "int") (fun xs H Q => (∃ i, xs = [.int i] ∧ Q (.int i) H) ∨ ∃ k, xs = [.bl k] ∧ Q (.int (if k then 1 else 0)) H) := by
  intro pins s σ H xs us Q I r h
  rcases h with ⟨i, rfl, q⟩ | ⟨k, rfl, q⟩
  · obtain ⟨u, rfl, t, rfl⟩ := vals1 r
    exact call_int_int ⟨.int i, H, I, ⟨_, rfl⟩, q⟩
  · obtain ⟨u, rfl, r1⟩ := vals1 r
    cases r1
    exact call_int_bool ⟨.int (if k then 1 else 0), H, I.tok _, ⟨_, rfl⟩, q⟩
end
end L2
namespace L2
open PySem PySem.Spec PyProof.Rows
structure ObjM (h : Heap) (x dx C : Addr) (mA : Str → Option Value) : Prop where
  obj : h.get? x = some (PySem.W.instObj C dx)
  ns : h.Ns1 dx mA
  ne : dx ≠ x
theorem lookIn_ns {h : Heap} {dx : Addr} {mA : Str → Option Value} (n : h.Ns1 dx mA) : ∃ od, h.get? dx = some od ∧ ∀ name, PySem.W.lookIn name od = some (mA name) := by
  obtain ⟨o, es, ep, ho, hd, hk, _, hm⟩ := n
  refine ⟨o, ho, fun name => ?_⟩
  have e := hm name
  unfold nsFind findBy at e
  rw [← Array.find?_toList] at e
  unfold PySem.W.lookIn
  rw [hd]
  dsimp only
  split
  · rename_i y q
    rw [q] at e
    exact congrArg some e
  · rename_i q
    rw [q] at e
    have a : es.toList.any (·.refKey) = false := by
      rw [List.any_eq_false]
      intro y hy
      obtain ⟨z, t, hkey⟩ := hk y (Array.mem_toList_iff.mp hy)
      simp [DictEntry.refKey, hkey]
    have a' : ¬ es.toList.any (·.refKey) = true := by rw [a]; exact Bool.false_ne_true
    rw [if_neg a']
    exact congrArg some e
theorem ObjM.look {h : Heap} {x dx C : Addr} {mA : Str → Option Value} (I : ObjM h x dx C mA) : ∃ od, PySem.W.InstAt h x (PySem.W.instObj C dx) C (some od) ∧ ∀ name, PySem.W.lookIn name od = some (mA name) :=
  let ⟨od, ho, hl⟩ := lookIn_ns I.ns
  ⟨od, ⟨I.obj, rfl, rfl, ho⟩, hl⟩
section
variable {prog : Program} {w : World} {A : Around} {E : Value → Shared → Prop} {s : Shared} {K : PySem.W.Frag} {x dx C f : Addr} {mA : Str → Option Value} {name : Str} {v : Value}
end
theorem handed_of {v : V} {u : Value} (r : RelV v u) : PySem.W.handedIn u = true := by
  cases v with
  | non => cases (show u = Value.none from r); rfl
  | bl b => cases (show u = Value.bool b from r); rfl
  | int i => obtain ⟨t, e⟩ := (show ∃ t, u = Value.int i t from r); cases e; rfl
  | str x => obtain ⟨t, e⟩ := (show ∃ t, u = Value.str x t from r); cases e; rfl
  | byt b => obtain ⟨t, e⟩ := (show ∃ t, u = Value.bytes b t from r); cases e; rfl
  | flt b => obtain ⟨t, e⟩ := (show ∃ t, u = Value.float b t from r); cases e; rfl
  | ref a => cases (show u = Value.ref a from r); rfl
  | ty n => cases (show u = Value.type n from r); rfl
section
variable {P : Program} {w : World} {H H' : Hp} {h h' : Heap} {a C dx : Addr} {fs fs' : List (Str × V)}
theorem ins_get (hok : HOk P w H h) (e : H a = some (.ins C dx fs)) : ∃ mA, ObjM h a dx C mA ∧ (∀ f, RelO (fs.lookup f) (mA f)) ∧ PySem.Within mA (fs.map (·.1)) ∧ fs.length ≤ 1000 ∧ H dx = some (.own a) := by
  obtain ⟨d, z, ne, ob, mA, n, r, q⟩ := (show ObjOk P w H h a (.ins C dx fs) from hok a _ e)
  exact ⟨mA, ⟨ob, n, ne⟩, r, q, z, d⟩
end
structure Cls (K : PySem.W.Frag) (C : Addr) : Prop where
  pg : PySem.W.plainGet K C Str.empty = true
  hd : PySem.W.hasDictIn K C = true
  po : PySem.W.plainOver K C = true
  sa : PySem.W.findIn K (.ref C) "__setattr__" = some (some (.builtin "object.__setattr__"))
theorem Cls.get {K : PySem.W.Frag} {C : Addr} (c : Cls K C) (f : Str) : PySem.W.plainGet K C f = true := c.pg
structure Con (K : PySem.W.Frag) (C : Addr) (f : Str) (v : V) (u : Value) : Prop where
  at_ : PySem.W.findIn K (.ref C) f = some (some u)
  rel : RelV v u
  get : PySem.W.specialIn K u "__get__" = some none
  cp : PySem.W.copiedNames.contains f = false
structure Meth (K : PySem.W.Frag) (C : Addr) (m : Str) (f : Addr) : Prop where
  at_ : PySem.W.findIn K (.ref C) m = some (some (.ref f))
  fn : PySem.W.isFn K (.ref f) = true
  kp : PySem.W.keepIn K (.ref f) = true
section
variable {X : Cx} {pins : List (Addr × Obj)} {σ : St} {H : Hp} {s : Shared} {a C dx : Addr} {fs : List (Str × V)} {f : Str} {v : V} {A : Around} {E : Value → Shared → Prop}
theorem attr_of {prog : Program} {w : World} {env : Env} {e : Expr} {f : Str} {pos : Pos} {s : Shared} {Q : Value → Shared → Prop} (hb : attributeBase e f env (eval e env) = eval e env)
    (h : wpAny (model prog w) A (eval e env) (fun o s₁ => wpAny (model prog w) A (getAttr o f true) Q E s₁) E s) : wpAny (model prog w) A (eval (.Attribute e f pos) env) Q E s :=
  Attribute_any_ h (by rw [arm_eval_Attribute, hb])
end
section
variable {X : Cx} {o e value : Expr} {f : Str} {pos pos' tpos : Pos} {ta tv : TE}
end
section
variable {X : Cx} {pins : List (Addr × Obj)} {σ : St} {H : Hp} {s : Shared} {A : Around} {E : Value → Shared → Prop} {Q : Value → Shared → Prop} {c : Value} {b : Bool}
inductive TyOf (K : PySem.W.Frag) (H : Hp) : V → Value → Prop where
  | non : TyOf K H .non (.type "NoneType")
  | bl (x : Bool) : TyOf K H (.bl x) (.type "bool")
  | int (i : Int) : TyOf K H (.int i) (.type "int")
  | str (x : Str) : TyOf K H (.str x) (.type "str")
  | flt (x : UInt64) : TyOf K H (.flt x) (.type "float")
  | lst {a : Addr} {xs : List V} (e : H a = some (.lst xs)) : TyOf K H (.ref a) (.type "list")
  | frz {a : Addr} {o : Obj} {xs : List V} (e : H a = some (.frz o (.lst xs))) : TyOf K H (.ref a) (.type "list")
  | tup {a : Addr} {xs : List V} (e : H a = some (.tup xs)) : TyOf K H (.ref a) (.type "tuple")
  | dK {a : Addr} {kvs : List (Key × V)} (e : H a = some (.dK kvs)) : TyOf K H (.ref a) (.type "dict")
  | dT {a : Addr} {kvs : List (List Key × V)} (e : H a = some (.dT kvs)) : TyOf K H (.ref a) (.type "dict")
  | ins {a C dx : Addr} {fs : List (Str × V)} (e : H a = some (.ins C dx fs)) (cl : Cls K C) (ha : PySem.W.findIn K (.ref C) "__class__" = some (some (.builtin "object.__class__")))
      (hn : PySem.W.specialIn K (.builtin "object.__class__") "__get__" = some (some (.builtin "getset_descriptor.__get__"))) (htk : PySem.W.takesIn K (.builtin "object.__class__") = some true)
      (hm : PySem.W.mroIn K C (.type "object") = some true) : TyOf K H (.ref a) (.ref C)
theorem isinst_ok {x : V} {u t : Value} (I : Inv X pins σ H s) (rx : RelV x u) (ty : TyOf X.K H x t) (e : PySem.W.kitOne X.K t c = some b) (h : ∀ tk, Q (.bool b) { s with toks := tk }) :
    wpAny (model X.prog X.w) A (call (.builtin "isinstance") [u, c]) Q E s := by
  cases ty with
  | non => cases (show u = Value.none from rx); exact PySem.W.kia_one PySem.W.kitx_none I.kIn True.intro e (fun z => nomatch z) h
  | bl y => cases (show u = Value.bool y from rx); exact PySem.W.kia_one PySem.W.kitx_bool I.kIn True.intro e (fun z => nomatch z) h
  | int i => obtain ⟨t, q⟩ := (show ∃ t, u = Value.int i t from rx); cases q; exact PySem.W.kia_one PySem.W.kitx_int I.kIn True.intro e (fun z => nomatch z) h
  | str y => obtain ⟨t, q⟩ := (show ∃ t, u = Value.str y t from rx); cases q; exact PySem.W.kia_one PySem.W.kitx_str I.kIn True.intro e (fun z => nomatch z) h
  | flt y => obtain ⟨t, q⟩ := (show ∃ t, u = Value.float y t from rx); cases q; exact PySem.W.kia_one PySem.W.kitx_float I.kIn True.intro e (fun z => nomatch z) h
  | @lst a xs ea =>
    cases (show u = Value.ref a from rx)
    obtain ⟨_, _, n, _, h1⟩ := (show ObjOk X.prog X.w H s.heap a (.lst xs) from I.hok a _ ea)
    exact PySem.W.kia_one PySem.W.kitx_list I.kIn ⟨_, h1, rfl⟩ e (fun z => nomatch z) h
  | @frz a ob xs ea =>
    cases (show u = Value.ref a from rx)
    obtain ⟨_, _, _, n, _, h1⟩ := (show ObjOk X.prog X.w H s.heap a (.frz ob (.lst xs)) from I.hok a _ ea)
    exact PySem.W.kia_one PySem.W.kitx_list I.kIn ⟨_, h1, rfl⟩ e (fun z => nomatch z) h
  | @tup a xs ea =>
    cases (show u = Value.ref a from rx)
    obtain ⟨_, _, _, p⟩ := (show ObjOk X.prog X.w H s.heap a (.tup xs) from I.hok a _ ea)
    obtain ⟨o, h1, h2, _⟩ := p
    exact PySem.W.kia_one PySem.W.kitx_tuple I.kIn ⟨o, h1, h2⟩ e (fun z => nomatch z) h
  | @dK a kvs ea =>
    cases (show u = Value.ref a from rx)
    obtain ⟨_, _, vs, _, p⟩ := (show ObjOk X.prog X.w H s.heap a (.dK kvs) from I.hok a _ ea)
    obtain ⟨o, es, ep, h1, h2, _⟩ := p
    exact PySem.W.kia_one PySem.W.kitx_dict I.kIn ⟨o, h1, h2.1⟩ e (fun z => nomatch z) h
  | @dT a kvs ea =>
    cases (show u = Value.ref a from rx)
    obtain ⟨_, _, xs, _, o, es, ep, h1, h2, _⟩ := (show ObjOk X.prog X.w H s.heap a (.dT kvs) from I.hok a _ ea)
    exact PySem.W.kia_one PySem.W.kitx_dict I.kIn ⟨o, h1, h2.1⟩ e (fun z => nomatch z) h
  | @ins a C dx fs ea cl ha hn htk hm =>
    cases (show u = Value.ref a from rx)
    obtain ⟨mA, O, _⟩ := ins_get I.hok ea
    obtain ⟨od, J, _⟩ := O.look
    exact PySem.W.kia_one (PySem.W.kitx_own (cl.get _) cl.hd ha hn htk hm) I.kIn J e (fun z => nomatch z) h
end
end L2
namespace L2
open PySem PySem.Spec PyProof.Rows
structure Room (k : Nat) (A : Around) : Prop where
  hd : A.handled = none
  dp : A.depth + 3 * k + 5 < recursionLimit
  un : A.units + 16 * k + 200 < cLine
  gd : A.guards = some []
theorem Room.mono {j k : Nat} {A : Around} (r : Room k A) (h : j ≤ k) : Room j A := ⟨r.hd, by have := r.dp; omega, by have := r.un; omega, r.gd⟩
theorem Room.deeper {k : Nat} {A : Around} (r : Room (k + 1) A) (env : Env) : Room k (A.deeper env) :=
  ⟨r.hd, by have := r.dp; show A.depth + 1 + 3 * k + 5 < _; omega, by have := r.un; show A.units + 3 + 16 * k + 200 < _; omega, r.gd⟩
theorem make_depth {A : Around} {C : Addr} {us : List Value} {kw : List (Str × Value)} : (A.under (.builtin "type.__call__" ⟨.ref C :: us, kw⟩)).depth = A.depth + 1 := by
  first | rfl | simp [Around.under, Code.weight, Code.isCreation, Code.isGuard, Code.isCaller, Code.frames, Code.isFrame, guardIds]
theorem make_units {A : Around} {C : Addr} {us : List Value} {kw : List (Str × Value)} : (A.under (.builtin "type.__call__" ⟨.ref C :: us, kw⟩)).units = A.units + 1 := by
  first | rfl | simp [Around.under, Code.cUnits, Code.frames, Code.isFrame]
theorem make_guards {A : Around} {C : Addr} {us : List Value} {kw : List (Str × Value)} : (A.under (.builtin "type.__call__" ⟨.ref C :: us, kw⟩)).guards = A.guards := by
  first | rfl | simp [Around.under, Code.guards, Code.isGuard, guardIds, pushGuards]
theorem Room.make {k : Nat} {A : Around} (r : Room (k + 1) A) (C : Addr) (us : List Value) (kw : List (Str × Value)) : Room k (A.under (.builtin "type.__call__" ⟨.ref C :: us, kw⟩)) :=
  ⟨r.hd, by have := r.dp; rw [make_depth]; omega, by have := r.un; rw [make_units]; omega, make_guards.trans r.gd⟩
theorem Room.depth {k : Nat} {A : Around} (r : Room k A) : A.depth < recursionLimit := by have := r.dp; omega
theorem Room.units0 {k : Nat} {A : Around} (r : Room k A) : A.units < cLine := by have := r.un; omega
def tNil : TA := fun _ H Q => Q [] H
def tCons (ta : TE) (tr : TA) : TA := fun σ H Q => ta σ H fun x H1 => tr σ H1 fun xs H2 => Q (x :: xs) H2
section
variable {X : Cx} {e : Expr} {es : List Expr} {te : TE} {t : TA} {pos : Pos}
theorem pa_nil : PA X [] tNil := fun _ _ _ _ H Q I h => Calls.spliced_nil ⟨[], H, I, .nil, h⟩
theorem pa_cons (ha : PE X e te) (hr : PA X es t) (hs : starEach (e :: es) X.env = (false, eval e X.env) :: starEach es X.env := by rfl) : PA X (e :: es) (tCons te t) := by
  intro pos pins s σ H Q I h
  rw [hs]
  show wpAny _ _ (spliced ((false, eval e X.env) :: backTo pos (starEach es X.env))) _ _ s
  refine Calls.spliced_cons (thn (ha pins s σ H _ I h) fun u s1 ⟨x, H1, I1, r1, q1⟩ => ?_)
  exact thn (hr pos pins s1 σ H1 _ I1 q1) fun us s2 ⟨xs, H2, I2, r2, q2⟩ => ⟨x :: xs, H2, I2, .cons r1 r2, q2⟩
def tTup (t : TA) : TE := fun σ H Q => t σ H fun xs H1 => xs.length ≤ sizeLine ∧ ∀ p, H1 p = none → Q (.ref p) (upd H1 p (.tup xs))
def tLst (t : TA) : TE := fun σ H Q => t σ H fun xs H1 => xs.length ≤ sizeLine ∧ ∀ p, H1 p = none → Q (.ref p) (upd H1 p (.lst xs))
theorem pe_tup {x1} (h : PA X es t) : PE X (.Tuple es x1 pos) (tTup t) := by
  intro pins s σ H Q I hq
  refine wpAny_Tuple_spliced (thn (h pos pins s σ H _ I hq) fun us s1 ⟨xs, H1, I1, r, z, q⟩ => ⟨by rw [← r.length]; exact z, ?_⟩)
  have hf : H1 s1.heap.objs.size = none := I1.hok.fresh (Nat.le_refl _)
  refine ⟨.ref s1.heap.objs.size, upd H1 s1.heap.objs.size (.tup xs), I1.laid (t' := s1.toks) (fun b u e => Heap.get?_push_of_some _ e) (Nat.le_refl _) ?_, rfl, q _ hf⟩
  exact ⟨z, us, r, ⟨_, Heap.get?_push_size _ rfl, rfl, _, rfl⟩⟩
theorem pe_lst (h : PA X es t) : PE X (.List es pos) (tLst t) := by
  intro pins s σ H Q I hq
  refine wpAny_List_spliced (thn (h pos pins s σ H _ I hq) fun us s1 ⟨xs, H1, I1, r, z, q⟩ => ⟨by rw [← r.length]; exact z, ?_⟩)
  have hf : H1 s1.heap.objs.size = none := I1.hok.fresh (Nat.le_refl _)
  refine ⟨.ref s1.heap.objs.size, upd H1 s1.heap.objs.size (.lst xs), I1.laid (t' := s1.toks) (fun b u e => Heap.get?_push_of_some _ e) (Nat.le_refl _) ?_, rfl, q _ hf⟩
  exact ⟨z, us, 0, r, Heap.get?_push_size _ rfl⟩
end
abbrev Sp := List V → Hp → VK → XK → Prop
abbrev CXT := List Env → Hp → Shared → XK → Value → Shared → Prop
structure Env0 (P : Program) (w : World) (K : PySem.W.Frag) (mg : Str → Option Value) (base : Heap) (A : Around) (outer : List Env) (s : Shared) (H : Hp) : Prop where
  frames : A.frames = some outer
  mod : Mod K mg base
  bs : ∀ b o, base.get? b = some o → s.heap.get? b = some o ∧ H b = none
  bsz : base.objs.size ≤ s.heap.objs.size
  funs : s.heap.FunFrames base outer
  frf : ∀ b ∈ frs outer, H b = none
  hok : HOk P w H s.heap
  bare : AllBare s.gens
def CE (outer : List Env) (P : Program) (w : World) (H : Hp) (s : Shared) (Q : VK) (u : Value) (s' : Shared) : Prop :=
  ∃ v H', s'.os = s.os ∧ AllBare s'.gens ∧ Un (frs outer) [] H H' s.heap s'.heap ∧ HOk P w H' s'.heap ∧ RelV v u ∧ Q v H'
def CR (CX : CXT) (outer : List Env) (P : Program) (w : World) (H : Hp) (s : Shared) (Q : VK) (E : XK) (r : Result) (s' : Shared) : Prop :=
  match r with
  | .ok (.ret u) => CE outer P w H s Q u s'
  | .ok _ => False
  | .error e => CX outer H s E e s'
structure FnOk (P : Program) (w : World) (K : PySem.W.Frag) (mg : Str → Option Value) (base : Heap) (CX : CXT) (k : Nat) (f : Addr) (fd : FuncData) (ps : List Str) (sp : Sp) : Prop where
  len : ∀ vs H Q E, sp vs H Q E → vs.length = ps.length
  run : ∀ (A : Around) (outer : List Env) (s : Shared) (H : Hp) (args : Args) (us : List Value) (vs : List V) (Q : VK) (E : XK), Room k A → Env0 P w K mg base A outer s H → BindsTo s fd args (ps.zip us) → Vals vs us → sp vs H Q E →
    codeAny (model P w) A (.call (.ref f) args) (CR CX outer P w H s Q E) s
theorem Env0.make {P : Program} {w : World} {K : PySem.W.Frag} {mg : Str → Option Value} {base : Heap} {A : Around} {outer : List Env} {s : Shared} {H : Hp} (e : Env0 P w K mg base A outer s H) (C : Addr) (us : List Value) (kw : List (Str × Value)) :
    Env0 P w K mg base (A.under (.builtin "type.__call__" ⟨.ref C :: us, kw⟩)) outer s H := ⟨by first | exact e.frames | (simpa [Around.under, Code.envs, Code.isFrame, pushEnvs] using e.frames), e.mod, e.bs, e.bsz, e.funs, e.frf, e.hok, e.bare⟩
section
variable {X : Cx} {pins : List (Addr × Obj)} {σ : St} {H : Hp} {s s' : Shared}
theorem Inv.env0 (I : Inv X pins σ H s) : Env0 X.prog X.w X.K X.mg X.base X.A X.stack s H :=
  ⟨I.ok.frames, I.ok.mod, I.bs, Nat.le_trans I.ok.bsz I.sz, I.stack, I.stkFree, I.hok, I.bare⟩
theorem Inv.after {Q : VK} {u : Value} (I : Inv X pins σ H s) (h : CE X.stack X.prog X.w H s Q u s') : EP X pins σ Q u s' := by
  obtain ⟨v, H', os, bare, un, hok, r, q⟩ := h
  obtain ⟨hh, g, d, t, os'⟩ := s'
  obtain rfl : os' = s.os := os
  exact ⟨v, H', I.call (h' := hh) (g' := g) (d' := d) (t' := t) (ch := []) un hok bare (fun b z => absurd z (by simp)), r, q⟩
end
def tCall (sp : Sp) (dvs : List V) (E : XK) (t : TA) : TE := fun σ H Q => t σ H fun vs H1 => sp (vs ++ dvs) H1 Q E
def Binds (K : PySem.W.Frag) (fd : FuncData) (ps : List Str) (ds : List Value) : Prop :=
  ∀ (s : Shared) (us : List Value), K.In s.heap → (us ++ ds).length = ps.length → BindsTo s fd ⟨us, []⟩ (ps.zip (us ++ ds))
theorem Binds.all {K : PySem.W.Frag} {fd : FuncData} {ps : List Str} (h : ∀ us : List Value, us.length = ps.length → bindArgs fd ⟨us, []⟩ = pure (ps.zip us)) : Binds K fd ps [] := fun s us _ hl => by
  rw [List.append_nil] at hl ⊢
  exact .of_eq (h us hl)
def Passes (CX : CXT) (X : Cx) (E : XK) : Prop := ∀ (pins : List (Addr × Obj)) (σ : St) (H : Hp) (s : Shared) (e : Value) (s' : Shared), Inv X pins σ H s → CX X.stack H s E e s' → X.xe e s'
section
variable {X : Cx} {CX : CXT} {k : Nat} {f C : Addr} {fd : FuncData} {ps : List Str} {sp : Sp} {dvs : List V} {ds : List Value} {E : XK} {x m : Str} {p pos apos : Pos} {e o : Expr} {es : List Expr} {ta : TE} {t : TA}
theorem run_fn {pins : List (Addr × Obj)} {σ : St} {H : Hp} {s : Shared} {Q : VK} {us : List Value} {vs : List V} (F : FnOk X.prog X.w X.K X.mg X.base CX k f fd ps sp) (hr : Room k X.A) (hb : Binds X.K fd ps ds) (hd : Vals dvs ds) (hx : Passes CX X E)
    (I : Inv X pins σ H s) (r : Vals vs us) (h : sp (vs ++ dvs) H Q E) : wpAny (model X.prog X.w) X.A (call (.ref f) us) (EP X pins σ Q) X.xe s := by
  have r2 : Vals (vs ++ dvs) (us ++ ds) := r.append hd
  have hl : (us ++ ds).length = ps.length := by rw [← r2.length]; exact F.len _ _ _ _ h
  refine wpAny_call (codeAny_mono (F.run X.A X.stack s H ⟨us, []⟩ (us ++ ds) (vs ++ dvs) Q E hr I.env0 (hb s us I.kIn hl) r2 h) fun r s' hq => ?_)
  cases r with
  | error e => exact hx pins σ H s e s' I hq
  | ok fl =>
    cases fl with
    | ret u => exact I.after hq
    | next => exact False.elim hq
    | brk => exact False.elim hq
    | cont => exact False.elim hq
theorem pe_call (F : FnOk X.prog X.w X.K X.mg X.base CX k f fd ps sp) (hr : Room k X.A) (hg : Gl X x) (hm : X.mg x = some (.ref f)) (hk : PySem.W.keepIn X.K (.ref f) = true) (hb : Binds X.K fd ps ds) (hd : Vals dvs ds) (hx : Passes CX X E)
    (ha : PA X (e :: es) t) (hdb : (x == ("__debug__" : Str)) = false := by decide) (he : starEach (e :: es) X.env = (false, eval e X.env) :: starEach es X.env := by rfl) (hpl : (backTo pos (starEach es X.env)).any (·.1) = false := by rfl) :
    PE X (.Call (.Name x p) (e :: es) [] pos) (tCall sp dvs E t) := by
  intro pins s σ H Q I h
  refine wpAny_Call_Name_kw (ld_glob I hg hm ?_ hdb)
  refine PySem.W.callWith_K (h₀ := X.base) I.ok.mod.kin hk (thn (ha pos pins s σ H _ I h) fun us s1 ⟨vs, H1, I1, r, q⟩ => ⟨I1.kIn, ?_⟩) he hpl
  exact run_fn F hr hb hd hx I1 r q
structure Mk (K : PySem.W.Frag) (C f : Addr) : Prop where
  makes : PySem.W.makesIn K C = true
  init : PySem.W.findIn K (.ref C) "__init__" = some (some (.ref f))
  fn : PySem.W.isFn K (.ref f) = true
  kp : PySem.W.keepIn K (.ref C) = true
end
section
variable {X : Cx} {CX : CXT} {k : Nat} {f C : Addr} {fd : FuncData} {ps ks : List Str} {sp : Sp} {E : XK} {x m : Str} {p pos apos kpos : Pos} {e o : Expr} {es : List Expr} {kws : List Keyword} {te ta : TE} {t tk : TA} {nm : Option Str}
structure KBinds (K : PySem.W.Frag) (fd : FuncData) (ps ks : List Str) (g : List Value → List Value → List Value) (gV : List V → List V → List V) : Prop where
  to : ∀ (s : Shared) (us ws : List Value), K.In s.heap → (g us ws).length = ps.length → BindsTo s fd ⟨us, ks.zip ws⟩ (ps.zip (g us ws))
  rel : ∀ {vs : List V} {us : List Value} {zs : List V} {ws : List Value}, Vals vs us → Vals zs ws → Vals (gV vs zs) (g us ws)
variable {g : List Value → List Value → List Value} {gV : List V → List V → List V}
end
structure FnScope (N P : List Str) (sc : Scope) : Prop where
  kind : sc.kind = .function
  co : sc.isCoroutine = false
  gen : sc.isGenerator = false
  nd : N.Nodup
  pre : N.take P.length = P
  par : ∀ x ∈ P, sc.names.lookup x = some .local ∨ sc.names.lookup x = some .cell
  nofree : ∀ y ∈ sc.names, y.2 ≠ .free
theorem bindL_out {kindOf : Str → Option NameKind} {x : Str} : ∀ {binds : List (Str × Value)} {m : Str → Option Value}, (∀ v, (x, v) ∉ binds) → bindL kindOf binds m x = m x
  | [], _, _ => rfl
  | (n, v) :: r, m, h => by
    unfold bindL
    rw [bindL_out fun w hw => h w (List.mem_cons_of_mem _ hw)]
    split
    · have : x ≠ n := by rintro rfl; exact h v List.mem_cons_self
      simp [this]
    · rfl
theorem bindC_out {kindOf : Str → Option NameKind} {x : Str} : ∀ {binds : List (Str × Value)} {m : Str → Option Value}, (∀ v, (x, v) ∉ binds) → bindC kindOf binds m x = m x
  | [], _, _ => rfl
  | (n, v) :: r, m, h => by
    unfold bindC
    rw [bindC_out fun w hw => h w (List.mem_cons_of_mem _ hw)]
    split
    · rfl
    · have : x ≠ n := by rintro rfl; exact h v List.mem_cons_self
      simp [this]
theorem bindL_get {kindOf : Str → Option NameKind} {x : Str} {v : Value} : ∀ {P : List Str} {vs : List Value} {i : Nat} {m : Str → Option Value}, P.Nodup → P[i]? = some x → vs[i]? = some v → kindOf x = some .local →
    bindL kindOf (P.zip vs) m x = some v
  | [], _, _, _, _, h, _, _ => by simp at h
  | _ :: _, [], _, _, _, _, h, _ => by simp at h
  | p :: P, w :: vs, 0, m, nd, h1, h2, hk => by
    simp at h1 h2; subst h1; subst h2
    show bindL kindOf ((p, w) :: P.zip vs) m p = _
    unfold bindL
    rw [bindL_out fun v hv => (List.nodup_cons.mp nd).1 (List.of_mem_zip hv).1, if_pos hk]
    simp
  | p :: P, w :: vs, i + 1, m, nd, h1, h2, hk => by
    show bindL kindOf ((p, w) :: P.zip vs) m x = _
    unfold bindL
    exact bindL_get (i := i) (List.nodup_cons.mp nd).2 (by simpa using h1) (by simpa using h2) hk
theorem bindC_get {kindOf : Str → Option NameKind} {x : Str} {v : Value} : ∀ {P : List Str} {vs : List Value} {i : Nat} {m : Str → Option Value}, P.Nodup → P[i]? = some x → vs[i]? = some v → kindOf x ≠ some .local →
    bindC kindOf (P.zip vs) m x = some v
  | [], _, _, _, _, h, _, _ => by simp at h
  | _ :: _, [], _, _, _, _, h, _ => by simp at h
  | p :: P, w :: vs, 0, m, nd, h1, h2, hk => by
    simp at h1 h2; subst h1; subst h2
    show bindC kindOf ((p, w) :: P.zip vs) m p = _
    unfold bindC
    rw [bindC_out fun v hv => (List.nodup_cons.mp nd).1 (List.of_mem_zip hv).1, if_neg hk]
    simp
  | p :: P, w :: vs, i + 1, m, nd, h1, h2, hk => by
    show bindC kindOf ((p, w) :: P.zip vs) m x = _
    unfold bindC
    exact bindC_get (i := i) (List.nodup_cons.mp nd).2 (by simpa using h1) (by simpa using h2) hk
def start (N : List Str) (vs : List V) : St := vs.map some ++ List.replicate (N.length - vs.length) none
def cxOf (CX : CXT) (P : Program) (w : World) (K : PySem.W.Frag) (mg : Str → Option Value) (base : Heap) (N : List Str) (qual : Str) (scope : Scope) (f : Addr) (cd : Value) (A : Around) (outer : List Env) (s : Shared) (H : Hp) (E : XK) : Cx where
  prog := P
  w := w
  K := K
  mg := mg
  base := base
  A := A.deeper (envOfC qual scope s.heap.objs.size f cd)
  N := N
  s₀ := s
  H₀ := H
  env := envOfC qual scope s.heap.objs.size f cd
  outer := outer
  stack := envOfC qual scope s.heap.objs.size f cd :: outer
  ex := []
  calm := true
  fn := fun _ => true
  pn := []
  xe := fun e s' => wpAny (model P w) (A.deeper (envOfC qual scope s.heap.objs.size f cd)) (leaving (envOfC qual scope s.heap.objs.size f cd) e) (fun _ s'' => CX outer H s E e s'') (fun e' s'' => CX outer H s E e' s'') s'
theorem cell_has {sc : Scope} {n : Nat} {x : Str} (h : sc.names.lookup x = some .cell) : ∃ c, (cellsFrom n sc.names []).lookup x = some c := by
  have q := PySem.W.cellsFrom_some sc.names n [] (.inl h)
  exact Option.isSome_iff_exists.mp q
theorem inv_start {CX : CXT} {P : Program} {w : World} {K : PySem.W.Frag} {mg : Str → Option Value} {base : Heap} {N ps : List Str} {qual : Str} {scope : Scope} {f : Addr} {cd : Value} {A : Around} {outer : List Env} {s s1 : Shared} {H : Hp} {E : XK} {us : List Value} {vs : List V}
    (S : FnScope N ps scope) (hd : A.handled = none) (e0 : Env0 P w K mg base A outer s H) (hl : vs.length = ps.length) (r : Vals vs us)
    (x : InCallC s s.heap.objs.size (bindL (envOfC qual scope s.heap.objs.size f cd).kindOf (ps.zip us) fun _ => none) (cellsFrom (s.heap.objs.size + 1) scope.names []) (bindC (envOfC qual scope s.heap.objs.size f cd).kindOf (ps.zip us) fun _ => none) s1) :
    Inv (cxOf CX P w K mg base N qual scope f cd A outer s H E) [] (start N vs) H s1 := by
  have hpl : ps.length ≤ N.length := by have := congrArg List.length S.pre; rw [List.length_take] at this; omega
  obtain ⟨h1, tk, rfl, hk⟩ := x.done
  have noA : ∀ b : Addr, b ∉ (cxOf CX P w K mg base N qual scope f cd A outer s H E).ex := fun b z => absurd (show b ∈ ([] : List Addr) from z) (by simp)
  refine ⟨⟨e0.mod, S.kind, rfl, rfl, Nat.le_refl _, fun y z c h1 h2 => ?_, fun y hy => ?_, fun y c _ h => ?_, fun _ => hd, Around.frames_deeper e0.frames, .inr ⟨rfl, rfl⟩, fun b z => absurd z (noA b), e0.bs, e0.bsz, fun b _ _ => noA b, fun b z => absurd z (noA b), e0.funs, e0.frf⟩,
    rfl, e0.bare, Un.kept hk, ⟨_, x.toInCall.ns, fun i y v h1 h2 h3 => ?_⟩, fun y c h => ⟨_, x.cell y c h⟩, e0.hok.fresh (Nat.le_refl _), fun y c h => ?_, fun p hp => absurd (show p ∈ ([] : List (Addr × Obj)) from hp) (by simp), e0.hok.kept hk, ?_⟩
  · exact name_of_addr x.apart (PySem.mem_of_lookup h1) (PySem.mem_of_lookup h2)
  · have hy : scope.names.lookup y = some .cell ∨ scope.names.lookup y = some .free := hy
    rcases hy with hy | hy
    · exact cell_has hy
    · exact absurd rfl (S.nofree _ (PySem.mem_of_lookup hy))
  · exact Nat.le_of_lt (x.above y c (PySem.mem_of_lookup h))
  · have hi : i < vs.length := by
      unfold start at h2
      by_cases hi : i < vs.length
      · exact hi
      · rw [List.getElem?_append_right (by simpa using hi)] at h2
        rw [List.getElem?_replicate] at h2
        split at h2 <;> cases h2
    have ha : vs[i]? = some v := by
      unfold start at h2
      rw [List.getElem?_append_left (by simpa using hi), List.getElem?_map] at h2
      cases e : vs[i]? with
      | none => rw [e] at h2; cases h2
      | some a => rw [e] at h2; cases h2; rfl
    obtain ⟨u, hu, rv⟩ := r.get ha
    have hp : ps[i]? = some y := by
      rw [← S.pre, List.getElem?_take_of_lt (by omega)]; exact h1
    have ndP : ps.Nodup := by rw [← S.pre]; exact S.nd.sublist (List.take_sublist _ _)
    refine ⟨u, rv, ?_⟩
    rcases S.par y (List.mem_of_getElem? hp) with k | k
    · exact .inl ⟨k, bindL_get ndP hp hu k⟩
    · obtain ⟨c, e⟩ := cell_has (n := s.heap.objs.size + 1) k
      refine .inr ⟨.inl k, c, e, ?_⟩
      have q := x.cell y c e
      rw [bindC_get ndP hp hu (by show scope.names.lookup y ≠ _; rw [k]; decide)] at q
      exact q
  · exact e0.hok.fresh (Nat.le_of_lt (x.above y c (PySem.mem_of_lookup h)))
  · unfold start
    show _ = N.length
    rw [List.length_append, List.length_map, List.length_replicate]
    omega
theorem fn_of {CX : CXT} {P : Program} {w : World} {K : PySem.W.Frag} {mg : Str → Option Value} {base : Heap} {k : Nat} {f : Addr} {name qual : Str} {params : Arguments} {body : List Stmt} {scope : Scope} {dV kV doc pm cdv ct oc : Value} {an od : Option Addr}
    {osl : Array (Option Value)} {N ps : List Str} {sp : Sp} (lk : K.lookup f = some ⟨oc, od, .func (PySem.W.fnOf name qual params body scope dV kV doc pm an cdv ct), osl⟩) (hcd : PySem.W.codeIn K cdv qual = true) (S : FnScope N ps scope)
    (len : ∀ vs H Q E, sp vs H Q E → vs.length = ps.length)
    (hbody : ∀ (A : Around) (outer : List Env) (s : Shared) (H : Hp) (vs : List V) (Q : VK) (E : XK), Room k (A.deeper (envOfC qual scope s.heap.objs.size f cdv)) → sp vs H Q E →
      ∃ t, PSs (cxOf CX P w K mg base N qual scope f cdv A outer s H E) body t ∧ t { nx := fun _ H' => Q .non H', rt := Q } (start N vs) H) :
    FnOk P w K mg base CX (k + 1) f (PySem.W.fnOf name qual params body scope dV kV doc pm an cdv ct) ps sp := by
  refine ⟨len, fun A outer s H args us vs Q E hr e0 hb r hsp => ?_⟩
  have hl := len _ _ _ _ hsp
  have KX : K.In s.heap := e0.mod.kin.keeps fun b o e => (e0.bs b o e).1
  have lim : s.heap.NoLimit := e0.mod.nolimit.keeps fun b o e => (e0.bs b o e).1
  have hkind : ∀ y ∈ ps.zip us, scope.names.lookup y.1 = some .local ∨ (scope.names.lookup y.1 = some .cell ∧ ((cellsFrom (s.heap.objs.size + 1) scope.names []).lookup y.1).isSome = true) := fun ⟨n, v⟩ hy => by
    rcases S.par n (List.of_mem_zip hy).1 with q | q
    · exact .inl q
    · exact .inr ⟨q, PySem.W.cellsFrom_some _ _ _ (.inl q)⟩
  refine codeAny_call_function hr.depth (KX _ _ lk) rfl S.co S.gen rfl (PySem.W.codeRec_of KX hcd) (hb _ _ _ _ ?_)
  refine wpAny_newFunctionEnv_cells S.kind hkind fun env he s1 x => ?_
  subst he
  refine ⟨lim.keeps x.toInCall.keep, codeAny_func ?_⟩
  obtain ⟨t, ht, hq⟩ := hbody A outer s H vs Q E (hr.deeper _) hsp
  have I : Inv (cxOf CX P w K mg base N qual scope f cdv A outer s H E) [] (start N vs) H s1 := inv_start S hr.hd e0 hl r x
  refine wpAny_mono (ht [] s1 (start N vs) H _ I hq) (fun fl s' hs => ?_) fun e s' hs => hs
  have fin : ∀ {σ' : St} {H' : Hp} {v : V} {u : Value}, Inv (cxOf CX P w K mg base N qual scope f cdv A outer s H E) [] σ' H' s' → RelV v u → Q v H' → CE outer P w H s Q u s' :=
    fun {σ' H' v u} J rv q => ⟨v, H', J.os, J.bare, J.base, J.hok, rv, q⟩
  cases fl with
  | ret u =>
    obtain ⟨v, σ', H', J, rv, q⟩ := hs
    exact fin J rv q
  | next =>
    obtain ⟨σ', H', J, q⟩ := hs
    exact fin (v := V.non) (u := Value.none) J rfl q
  | brk =>
    obtain ⟨_, _, _, q⟩ := hs
    exact False.elim q
  | cont =>
    obtain ⟨_, _, _, q⟩ := hs
    exact False.elim q
end L2
namespace L2
open PySem PySem.Spec PyProof.Rows
section
variable {X : Cx} {x : Str} {p pos : Pos} {e : Expr} {es : List Expr} {t : TA} {id T : String} {r : List V → Hp → VK → Prop}
def tCB (r : List V → Hp → VK → Prop) (t : TA) : TE := fun σ H Q => t σ H fun vs H1 => r vs H1 Q
theorem pe_callB (hc : CallR X (.builtin id) r) (hg : Gl X x) (hm : X.mg x = none) (hv : bootBuiltins x = some (.builtin id)) (ha : PA X (e :: es) t) (hn : x ≠ "__name__" := by decide) (hdb : (x == ("__debug__" : Str)) = false := by decide)
    (he : starEach (e :: es) X.env = (false, eval e X.env) :: starEach es X.env := by rfl) (hpl : (backTo pos (starEach es X.env)).any (·.1) = false := by rfl) : PE X (.Call (.Name x p) (e :: es) [] pos) (tCB r t) := by
  intro pins s σ H Q I h
  refine wpAny_Call_Name_kw (ld_blt I hg hm hv ?_ hn hdb)
  exact PyProof.Rows.callWith_builtin1 (thn (ha pos pins s σ H _ I h) fun us s1 ⟨vs, H1, I1, r1, q1⟩ => hc pins s1 σ H1 vs us Q I1 r1 q1) he hpl
theorem pe_callTy (hc : CallR X (.type T) r) (hg : Gl X x) (hm : X.mg x = none) (hv : bootBuiltins x = some (.type T)) (ha : PA X (e :: es) t) (hn : x ≠ "__name__" := by decide) (hdb : (x == ("__debug__" : Str)) = false := by decide)
    (he : starEach (e :: es) X.env = (false, eval e X.env) :: starEach es X.env := by rfl) (hpl : (backTo pos (starEach es X.env)).any (·.1) = false := by rfl) : PE X (.Call (.Name x p) (e :: es) [] pos) (tCB r t) := by
  intro pins s σ H Q I h
  refine wpAny_Call_Name_kw (ld_blt I hg hm hv ?_ hn hdb)
  exact PyProof.Rows.callWith_type1 (thn (ha pos pins s σ H _ I h) fun us s1 ⟨vs, H1, I1, r1, q1⟩ => hc pins s1 σ H1 vs us Q I1 r1 q1) he hpl
end
end L2
namespace HT
open PySem PyProof.Rows
def lexLt : List Int → List Int → Bool
  | [], [] => false
  | [], _ :: _ => true
  | _ :: _, [] => false
  | x :: xs, y :: ys => if x = y then lexLt xs ys else decide (x < y)
section
open PySem.SeqAt
open PySem.AutoSeq1 (wpAny_loadPart')
open PySem.MeetsSeq PySem.MeetsSeq2 PySem.MeetsSeq3
end
section
variable {prog : Program} {w : World} {A : Around} {E : Value → Shared → Prop} {s : Shared}
theorem cat_tup {t b : Addr} {vs ws : List Value} {Q : Value → Shared → Prop} (ht : IsTup s.heap t vs.toArray) (hb : IsTup s.heap b ws.toArray) (hv : vs ≠ [])
    (h1 : ws = [] → Q (.ref t) s) (h2 : ws ≠ [] → Q (.ref s.heap.objs.size) { s with heap := s.heap.push { cls := .type "tuple", data := .seq (vs ++ ws).toArray } })
    (hsz : vs.length + ws.length ≤ sizeLine) : wpAny (model prog w) A (binaryOp .Add (.ref t) (.ref b)) Q E s := by
  obtain ⟨⟨cls, dd, data, sl⟩, ho, hc, n, hd⟩ := id ht
  obtain ⟨⟨cls2, dd2, data2, sl2⟩, ho2, hc2, n2, hd2⟩ := id hb
  simp only at hc hd hc2 hd2
  subst hc hd hc2 hd2
  have e : vs.toArray ++ ws.toArray = (vs ++ ws).toArray := by simp
  by_cases hw : ws = []
  · exact concat_meets ⟨_, ho, rfl⟩ ⟨_, ho2, rfl⟩ noFill_tuple_add seq_tuple_add PySem.F.slot_tuple_add PySem.F.entry_tuple_add (PySem.F.args_tuple_add_2 _ _)
      (tuple_addW1 t b vs.toArray ws.toArray n n2 dd dd2 sl sl2 (by simpa using hv) (by simp [hw])) ⟨ho, ho2, h1 hw⟩
  · refine concat_meets ⟨_, ho, rfl⟩ ⟨_, ho2, rfl⟩ noFill_tuple_add seq_tuple_add PySem.F.slot_tuple_add PySem.F.entry_tuple_add (PySem.F.args_tuple_add_2 _ _)
      (tuple_addW2 t b vs.toArray ws.toArray n n2 dd dd2 sl sl2 (by simpa using hv) (by simpa using hw) (by rw [List.size_toArray, List.size_toArray]; exact hsz)) ⟨ho, ho2, ?_⟩
    rw [e]
    exact h2 hw
def sIx (n d : Nat) : Option Int → Nat
  | none => d
  | some v => if v < 0 then (v + (n : Int)).toNat else min v.toNat n
end
end HT
namespace L2
open PySem PySem.Spec PyProof.Rows
abbrev TO := St → Hp → (Option Int → Hp → Prop) → Prop
def PO (X : Cx) (e : Option Expr) (t : TO) : Prop :=
  ∀ (pins : List (Addr × Obj)) (s : Shared) (σ : St) (H : Hp) (Q : Option Int → Hp → Prop), Inv X pins σ H s → t σ H Q →
    wpAny (model X.prog X.w) X.A (evalPart e X.env) (fun u s' => ∃ o H', Inv X pins σ H' s' ∧ IsPart u o ∧ Q o H') X.xe s
def tNoPart : TO := fun _ H Q => Q none H
def tPart (t : TE) : TO := fun σ H Q => t σ H fun x H1 => ∃ i, x = .int i ∧ Q (some i) H1
section
variable {X : Cx} {e : Expr} {te : TE} {lo hi : Option Expr} {tl th : TO} {pos p2 : Pos}
theorem po_none : PO X none tNoPart := by
  intro pins s σ H Q I h
  rw [evalPart_none]
  exact wpAny_pure ⟨none, H, I, .none, h⟩
theorem po_some (h : PE X e te) : PO X (some e) (tPart te) := by
  intro pins s σ H Q I hw
  rw [evalPart_some]
  refine thn (h pins s σ H _ I hw) fun u s1 ⟨x, H1, I1, r1, q1⟩ => ?_
  obtain ⟨i, rfl, q⟩ := q1
  obtain ⟨t, rfl⟩ := r1
  exact ⟨some i, H1, I1, .int i t, q⟩
def SlR (X : Cx) (r : V → Option Int → Option Int → Hp → VK → Prop) : Prop :=
  ∀ (pins : List (Addr × Obj)) (s : Shared) (σ : St) (H : Hp) (x : V) (v vl vu : Value) (lo hi : Option Int) (sl : Addr) (Q : VK), Inv X pins σ H s → RelV x v → s.heap.IsSliceOf sl vl vu .none → IsPart vl lo → IsPart vu hi → r x lo hi H Q →
    ∃ T id, typeLookup (.type T) "__getitem__" = pure (some (.builtin id)) ∧ s.TypeIs v T ∧ wpAny (model X.prog X.w) X.A (getItem v (.ref sl)) (EP X pins σ Q) X.xe s
def tSl (r : V → Option Int → Option Int → Hp → VK → Prop) (te : TE) (tl th : TO) : TE := fun σ H Q => te σ H fun x H1 => tl σ H1 fun l H2 => th σ H2 fun u H3 => r x l u H3 Q
theorem pe_slice {r : V → Option Int → Option Int → Hp → VK → Prop} (hr : SlR X r) (he : PE X e te) (hl : PO X lo tl) (hu : PO X hi th) : PE X (.Subscript e (.Slice lo hi none p2) pos) (tSl r te tl th) := by
  intro pins s σ H Q I h
  refine Subscript_ (thn (he pins s σ H _ I h) fun v s1 ⟨x, H1, I1, r1, q1⟩ => ?_)
  refine wpAny_Slice (thn (hl pins s1 σ H1 _ I1 q1) fun vl s2 ⟨l, H2, I2, pl, q2⟩ => thn (hu pins s2 σ H2 _ I2 q2) fun vu s3 ⟨u, H3, I3, pu, q3⟩ => ?_)
  rw [evalPart_none]
  refine wpAny_pure ?_
  have I4 : Inv X pins σ H3 { s3 with heap := s3.heap.push { cls := .type "slice", data := .fields #[vl, vu, .none] } } := I3.kept (t' := s3.toks) fun b ob q => Heap.get?_push_of_some _ q
  obtain ⟨T, id, hT, ht, hg⟩ := hr pins { s3 with heap := s3.heap.push { cls := .type "slice", data := .fields #[vl, vu, .none] } } σ H3 x v vl vu l u s3.heap.objs.size Q I4 r1 (Heap.IsSliceOf.new ..) pl pu q3
  show wpAny (model X.prog X.w) X.A (subscriptTail e (.Slice lo hi none p2) v (.ref s3.heap.objs.size)) (EP X pins σ Q) X.xe { s3 with heap := s3.heap.push { cls := .type "slice", data := .fields #[vl, vu, .none] } }
  exact tail_any (ops := [.ref s3.heap.objs.size, v]) ht hT hg (by with_unfolding_all rfl)
def cutV (xs : List V) (lo hi : Option Int) : List V := (xs.drop (HT.sIx xs.length 0 lo)).take (HT.sIx xs.length xs.length hi - HT.sIx xs.length 0 lo)
theorem cutV_length (xs : List V) (lo hi : Option Int) : (cutV xs lo hi).length ≤ xs.length := by
  unfold cutV
  rw [List.length_take, List.length_drop]
  omega
def rCatT (K : PySem.W.Frag) : R2 := fun x y H Q => ∃ a b xs ys, x = .ref a ∧ y = .ref b ∧ SqT K H a xs ∧ SqT K H b ys ∧ xs ≠ [] ∧ xs.length + ys.length ≤ sizeLine ∧
  (ys = [] → Q (.ref a) H) ∧ (ys ≠ [] → ∀ p, H p = none → Q (.ref p) (upd H p (.tup (xs ++ ys))))
theorem Vals.nil_iff {xs : List V} {us : List Value} (r : Vals xs us) : us = [] ↔ xs = [] := by
  cases r with
  | nil => simp
  | cons _ _ => simp
theorem op_catT : OpR X (binaryOp .Add) (rCatT X.K) := by
  intro pins s σ H x y v u Q I rx ry h
  obtain ⟨a, b, xs, ys, rfl, rfl, ha, hb, hx, hz, q1, q2⟩ := h
  cases rx
  cases ry
  obtain ⟨its, r1, p1, _⟩ := I.tuple ha
  obtain ⟨its2, r2, p2, _⟩ := I.tuple hb
  refine HT.cat_tup p1 p2 (fun z => hx (r1.nil_iff.mp z)) (fun z => ⟨.ref a, H, I, rfl, q1 (r2.nil_iff.mp z)⟩) (fun z => ?_) (by rw [← r1.length, ← r2.length]; exact hz)
  refine ⟨.ref s.heap.objs.size, _, I.laid (t' := s.toks) (o := .tup (xs ++ ys)) (fun b ob q => Heap.get?_push_of_some _ q) (Nat.le_refl _) ?_, rfl, q2 (fun w => z (r2.nil_iff.mpr w)) _ (I.hok.fresh (Nat.le_refl _))⟩
  exact ⟨by rw [List.length_append]; exact hz, _, r1.append r2, IsTup.new _ _⟩
end
end L2
namespace L2
open PySem PySem.Spec PyProof.Rows
def ixN (n : Nat) (i : Int) : Option Nat := if 0 ≤ i then (if i < n then some i.toNat else none) else if -(n : Int) ≤ i then some (i + n).toNat else none
def atI {α : Type} (xs : List α) (i : Int) : Option α := (ixN xs.length i).bind fun j => xs[j]?
theorem ixN_seq {n : Nat} {i : Int} {j : Nat} (h : ixN n i = some j) : seqIndex? i n = some j ∧ j < n ∧ -(n : Int) ≤ i ∧ i < n := by
  unfold ixN at h
  by_cases h0 : 0 ≤ i
  · rw [if_pos h0] at h
    by_cases h1 : i < n
    · rw [if_pos h1] at h
      have e : i.toNat = j := Option.some.inj h
      exact ⟨by rw [seqIndex_of h0 h1, e], by omega, by omega, h1⟩
    · rw [if_neg h1] at h; cases h
  · rw [if_neg h0] at h
    by_cases h1 : -(n : Int) ≤ i
    · rw [if_pos h1] at h
      have e : (i + n).toNat = j := Option.some.inj h
      exact ⟨by rw [seqIndex_neg (by omega) h1, e], by omega, h1, by omega⟩
    · rw [if_neg h1] at h; cases h
theorem atI_get {α : Type} {xs : List α} {i : Int} {v : α} (h : atI xs i = some v) : ∃ j, seqIndex? i xs.length = some j ∧ xs[j]? = some v ∧ j < xs.length ∧ -(xs.length : Int) ≤ i ∧ i < xs.length := by
  unfold atI at h
  cases e : ixN xs.length i with
  | none => rw [e] at h; cases h
  | some j =>
    rw [e] at h
    obtain ⟨h1, h2, h3, h4⟩ := ixN_seq e
    exact ⟨j, h1, h, h2, h3, h4⟩
theorem atI_nat {α : Type} {xs : List α} {j : Nat} {v : α} (h : xs[j]? = some v) : atI xs (j : Int) = some v := by
  have hj : j < xs.length := (List.getElem?_eq_some_iff.mp h).1
  have e : ixN xs.length (j : Int) = some j := by
    unfold ixN
    rw [if_pos (by omega), if_pos (by omega)]; simp
  unfold atI; rw [e]; exact h
def PlainIx (b : Expr) : Prop := ∀ o i, subscripted b false o i = operate [o, i] (getItem o i)
def IxR (X : Cx) (r : R2) : Prop :=
  ∀ (value slice : Expr) (pins : List (Addr × Obj)) (s : Shared) (σ : St) (H : Hp) (x y : V) (v u : Value) (Q : VK), Inv X pins σ H s → RelV x v → RelV y u → r x y H Q →
    subscripted slice false v u = operate [v, u] (getItem v u) → wpAny (model X.prog X.w) X.A (subscriptTail value slice v u) (EP X pins σ Q) X.xe s
def MtR (X : Cx) (id : String) (r : V → List V → Hp → VK → Prop) : Prop :=
  ∀ (pins : List (Addr × Obj)) (s : Shared) (σ : St) (H : Hp) (x : V) (xs : List V) (v : Value) (us : List Value) (Q : VK), Inv X pins σ H s → RelV x v → Vals xs us → r x xs H Q →
    wpAny (model X.prog X.w) X.A (call (.builtin id) (v :: us)) (EP X pins σ Q) X.xe s
section
variable {X : Cx} {a b : Expr} {ta tb : TE} {pos : Pos}
theorem pe_ix {r : R2} (hr : IxR X r) (ha : PE X a ta) (hb : PE X b tb) (hs : PlainIx b) : PE X (.Subscript a b pos) (tOp r ta tb) := by
  intro pins s σ H Q I h
  exact Subscript_ (binT ha hb I h fun v u s2 x y H2 I2 rx ry q => hr a b pins s2 σ H2 x y v u Q I2 rx ry q (hs _ _))
def rIxL (K : PySem.W.Frag) : R2 := fun x y H Q => ∃ p xs i v, x = .ref p ∧ y = .int i ∧ SqL K H p xs ∧ atI xs i = some v ∧ Q v H
def rIxT (K : PySem.W.Frag) : R2 := fun x y H Q => ∃ p xs i v, x = .ref p ∧ y = .int i ∧ SqT K H p xs ∧ atI xs i = some v ∧ Q v H
theorem ix_list : IxR X (rIxL X.K) := by
  intro value slice pins s σ H x y v u Q I rx ry h hs
  obtain ⟨p, xs, i, z, rfl, rfl, hq, he, q⟩ := h
  cases rx
  obtain ⟨t, rfl⟩ := ry
  obtain ⟨its, r, pl, hz⟩ := I.list hq
  obtain ⟨j, h1, h2, h3, h4, h5⟩ := atI_get he
  obtain ⟨w, ew, rw'⟩ := r.get h2
  have hl := r.length
  have hn := line63
  have fin : EP X pins σ Q w s := ⟨z, H, I, rw', q⟩
  by_cases h0 : 0 ≤ i
  · have hj : i.toNat = j := by
      rw [seqIndex_of h0 h5] at h1
      exact Option.some.inj h1
    exact item_listR pl.isList h0 (by omega) (by rw [hj]; simpa using ew) fin hs
  · have hj : (i + (its.toArray.size : Int)).toNat = j := by
      rw [seqIndex_neg (by omega) h4] at h1
      rw [List.size_toArray, ← hl]
      exact Option.some.inj h1
    exact subscriptTail_builtinR (x := w) pl.isList.typeIs slot_list_getitem.lookup
      (wpAny_getItem_list_neg (Q := fun r s' => r = w ∧ EP X pins σ Q r s') pl.isList (by omega) (by rw [List.size_toArray] <;> omega) (by omega) (by rw [hj]; simpa using ew) ⟨rfl, fin⟩) hs
theorem ix_tup : IxR X (rIxT X.K) := by
  intro value slice pins s σ H x y v u Q I rx ry h hs
  obtain ⟨p, xs, i, z, rfl, rfl, hq, he, q⟩ := h
  cases rx
  obtain ⟨t, rfl⟩ := ry
  obtain ⟨its, r, pl, hz⟩ := I.tuple hq
  obtain ⟨j, h1, h2, h3, h4, h5⟩ := atI_get he
  obtain ⟨w, ew, rw'⟩ := r.get h2
  have hl := r.length
  have hn := line63
  have fin : EP X pins σ Q w s := ⟨z, H, I, rw', q⟩
  exact subscriptTail_builtinR (x := w) pl.typeIs slot_tuple_getitem.lookup
    (getItem_tuple (j := j) (Q := fun r s' => r = w ∧ EP X pins σ Q r s') pl (by omega) (by omega) (by rw [List.size_toArray, ← hl]; exact h1) (by simpa using ew) ⟨rfl, fin⟩) hs
theorem mapSeq_set (its : List Value) (n j : Nat) (u : Value) : Obj.mapSeq (·.setIfInBounds j u) { cls := .type "list", data := .seq its.toArray n } = { cls := .type "list", data := .seq (its.set j u).toArray n } := by
  simp [Obj.mapSeq]
theorem Inv.lst {pins : List (Addr × Obj)} {σ : St} {H : Hp} {s : Shared} {p : Addr} {xs : List V} (I : Inv X pins σ H s) (h : H p = some (.lst xs)) :
    ∃ (its : List Value) (n : Nat), Vals xs its ∧ s.heap.get? p = some { cls := .type "list", data := .seq its.toArray n } ∧ xs.length ≤ sizeLine := by
  obtain ⟨z, its, n, r, e⟩ := I.hok p _ h
  exact ⟨its, n, r, e, z⟩
theorem Inv.lstUpd {pins : List (Addr × Obj)} {σ : St} {H : Hp} {s : Shared} {p : Addr} {xs ys : List V} {its its' : List Value} {n n' : Nat} {f : Obj → Obj} (I : Inv X pins σ H s) (h : H p = some (.lst xs))
    (ho : s.heap.get? p = some { cls := .type "list", data := .seq its.toArray n }) (hf : f { cls := .type "list", data := .seq its.toArray n } = { cls := .type "list", data := .seq its'.toArray n' }) (r : Vals ys its') (hz : ys.length ≤ sizeLine) (t : Nat) :
    Inv X pins σ (upd H p (.lst ys)) { s with heap := s.heap.update p f, toks := t } := by
  have e : (s.heap.update p f).get? p = some { cls := .type "list", data := .seq its'.toArray n' } := by
    rw [Heap.get?_update_self f ho (by rw [hf] <;> rfl), hf]
  refine I.write (x := p) (e := p) (by rw [h]; trivial) (.inl rfl) (fun b u hb q => (Heap.get?_update_other _ _ (Ne.symm hb)).trans q) ⟨_, e⟩ ?_
  exact ⟨hz, its', n', r, e⟩
def rSetL : V → V → V → Hp → (Hp → Prop) → Prop := fun o i v H Q => ∃ p xs k j, o = .ref p ∧ i = .int k ∧ H p = some (.lst xs) ∧ ixN xs.length k = some j ∧ Q (upd H p (.lst (xs.set j v)))
theorem set_list : PSet X rSetL := by
  intro pins s σ H o i v ov iv u Q I ro ri rv h
  obtain ⟨p, xs, k, j, rfl, rfl, hp, hj, q⟩ := h
  cases ro
  obtain ⟨t, rfl⟩ := ri
  obtain ⟨its, n, r, ho, hz⟩ := I.lst hp
  obtain ⟨h1, h2, h3, h4⟩ := ixN_seq hj
  have hl := r.length
  have hn := line63
  have I' : Inv X pins σ (upd H p (.lst (xs.set j v))) { s with heap := s.heap.update p (Obj.mapSeq (·.setIfInBounds j u)) } :=
    I.lstUpd hp ho (mapSeq_set its n j u) (r.set rv j) (by rw [List.length_set]; exact hz) s.toks
  by_cases h0 : 0 ≤ k
  · have hk : k.toNat = j := by
      rw [seqIndex_of h0 h4] at h1
      exact Option.some.inj h1
    exact PySem.W.ki_setAt ho h0 (by omega) (by rw [List.size_toArray, ← hl]; exact h4) (by rw [hk]; exact ⟨_, I', q⟩)
  · have hk : (k + (its.toArray.size : Int)).toNat = j := by
      rw [seqIndex_neg (by omega) h3] at h1
      rw [List.size_toArray, ← hl]
      exact Option.some.inj h1
    exact PySem.W.ki_setBack ho (by omega) (by rw [List.size_toArray, ← hl]; exact h3) (by omega) (by rw [hk]; exact ⟨_, I', q⟩)
theorem slice_bounds (lo hi : Option Int) (n : Nat) : (sliceBounds lo hi none n).1 = ((HT.sIx n 0 lo : Nat) : Int) ∧ (sliceBounds lo hi none n).2.1 = ((HT.sIx n n hi : Nat) : Int) ∧ (sliceBounds lo hi none n).2.2 = 1 := by
  refine ⟨?_, ?_, rfl⟩
  · cases lo with
    | none => simp [sliceBounds, HT.sIx]
    | some i =>
      simp only [sliceBounds, HT.sIx, Option.getD_none, show (1 : Int) > 0 by decide, if_true]
      by_cases h : i < 0
      · simp only [h, if_true] <;> omega
      · simp only [h, if_false] <;> omega
  · cases hi with
    | none => simp [sliceBounds, HT.sIx]
    | some i =>
      simp only [sliceBounds, HT.sIx, Option.getD_none, show (1 : Int) > 0 by decide, if_true]
      by_cases h : i < 0
      · simp only [h, if_true] <;> omega
      · simp only [h, if_false] <;> omega
theorem slicePick_cut (its : List Value) (lo hi : Option Int) : slicePick its.toArray lo hi none = ((its.drop (HT.sIx its.length 0 lo)).take (HT.sIx its.length its.length hi - HT.sIx its.length 0 lo)).toArray := by
  obtain ⟨h1, h2, h3⟩ := slice_bounds lo hi its.toArray.size
  unfold slicePick
  rw [h1, h2, h3]
  simp only [sliceRange_one, pick_run, List.size_toArray] <;> rfl
def rSlL (K : PySem.W.Frag) : V → Option Int → Option Int → Hp → VK → Prop := fun x lo hi H Q => ∃ a xs, x = .ref a ∧ SqL K H a xs ∧ ∀ p, H p = none → Q (.ref p) (upd H p (.lst (cutV xs lo hi)))
theorem sl_list : SlR X (rSlL X.K) := by
  intro pins s σ H x v vl vu lo hi sl Q I rx hs pl pu h
  obtain ⟨a, xs, rfl, hx, q⟩ := h
  cases rx
  obtain ⟨its, r, ht, hz⟩ := I.list hx
  have hlen := r.length
  refine ⟨"list", _, slot_list_getitem.lookup, ht.isList.typeIs, ?_⟩
  refine wpAny_getItem_list_slice ht.isList hs pl pu .none (by simp) ?_ (by rw [List.size_toArray] <;> omega)
  rw [slicePick_cut, ← hlen]
  refine ⟨.ref s.heap.objs.size, _, I.laid (t' := s.toks) (o := .lst (cutV xs lo hi)) (fun b ob q => Heap.get?_push_of_some _ q) (Nat.le_refl _) ?_, rfl, q _ (I.hok.fresh (Nat.le_refl _))⟩
  exact ⟨Nat.le_trans (cutV_length xs lo hi) hz, _, 0, (r.drop (HT.sIx xs.length 0 lo)).take (HT.sIx xs.length xs.length hi - HT.sIx xs.length 0 lo), Heap.get?_push_size _ rfl⟩
def flatV : V → Bool
  | .non => true
  | .bl _ => true
  | .int _ => true
  | .str _ => true
  | _ => false
def eqV : V → V → Bool
  | .non, .non => true
  | .bl a, .bl b => a == b
  | .bl a, .int b => (if a then 1 else 0) == b
  | .int a, .bl b => a == (if b then 1 else 0)
  | .int a, .int b => a == b
  | .str a, .str b => a == b
  | _, _ => false
theorem eqAt_V {A : Around} {s : Shared} {y x : V} {u v : Value} (ry : RelV y u) (rx : RelV x v) (fy : flatV y = true) (fx : flatV x = true) : SeqAt.EqAt A s u v (eqV y x) := by
  cases y with
  | non =>
    cases ry
    cases x with
    | non => cases rx; exact SeqAt.EqAt.same _
    | bl b => cases rx; exact SeqAt.EqAt.none_bool b
    | int b => obtain ⟨t, rfl⟩ := rx; exact SeqAt.EqAt.none_int b t
    | str b => obtain ⟨t, rfl⟩ := rx; exact SeqAt.EqAt.none_str b t
    | _ => exact absurd (show false = true from fx) Bool.false_ne_true
  | bl a =>
    cases ry
    cases x with
    | non => cases rx; exact SeqAt.EqAt.bool_none a
    | bl b => cases rx; exact SeqAt.EqAt.bool_bool a b
    | int b => obtain ⟨t, rfl⟩ := rx; exact SeqAt.EqAt.bool_int a b t
    | str b => obtain ⟨t, rfl⟩ := rx; exact SeqAt.EqAt.bool_str a b t
    | _ => exact absurd (show false = true from fx) Bool.false_ne_true
  | int a =>
    obtain ⟨t', rfl⟩ := ry
    cases x with
    | non => cases rx; exact SeqAt.EqAt.int_none a t'
    | bl b => cases rx; exact SeqAt.EqAt.int_bool a t' b
    | int b => obtain ⟨t, rfl⟩ := rx; exact SeqAt.EqAt.int_int a t' b t
    | str b => obtain ⟨t, rfl⟩ := rx; exact SeqAt.EqAt.int_str a t' b t
    | _ => exact absurd (show false = true from fx) Bool.false_ne_true
  | str a =>
    obtain ⟨t', rfl⟩ := ry
    cases x with
    | non => cases rx; exact SeqAt.EqAt.str_none a t'
    | bl b => cases rx; exact SeqAt.EqAt.str_bool a t' b
    | int b => obtain ⟨t, rfl⟩ := rx; exact SeqAt.EqAt.str_int a t' b t
    | str b => obtain ⟨t, rfl⟩ := rx; exact SeqAt.EqAt.str_str a t' b t
    | _ => exact absurd (show false = true from fx) Bool.false_ne_true
  | _ => exact absurd (show false = true from fy) Bool.false_ne_true
def eqU (x : V) (u : Value) : Bool := match u with
  | .none => eqV .non x
  | .bool b => eqV (.bl b) x
  | .int i _ => eqV (.int i) x
  | .str z _ => eqV (.str z) x
  | _ => false
theorem eqU_of {x y : V} {u : Value} (r : RelV y u) (f : flatV y = true) : eqU x u = eqV y x := by
  cases y with
  | non => cases r; rfl
  | bl b => cases r; rfl
  | int i => obtain ⟨t, rfl⟩ := r; rfl
  | str z => obtain ⟨t, rfl⟩ := r; rfl
  | _ => exact absurd (show false = true from f) Bool.false_ne_true
theorem any_eqU {x : V} : ∀ {xs : List V} {us : List Value}, Vals xs us → xs.all flatV = true → us.any (eqU x) = xs.any fun y => eqV y x
  | _, _, .nil, _ => rfl
  | y :: xs, u :: us, .cons r t, f => by
    rw [List.all_cons, Bool.and_eq_true] at f
    rw [List.any_cons, List.any_cons, eqU_of r f.1, any_eqU t f.2]
theorem mem_eqAt {A : Around} {s : Shared} {x : V} {v : Value} (rx : RelV x v) (fx : flatV x = true) : ∀ {xs : List V} {us : List Value}, Vals xs us → xs.all flatV = true → ∀ u ∈ us, SeqAt.EqAt A s u v (eqU x u)
  | _, _, .nil, _ => fun u hu => by cases hu
  | y :: xs, u :: us, .cons r t, f => fun u' hu => by
    rw [List.all_cons, Bool.and_eq_true] at f
    rcases List.mem_cons.mp hu with rfl | hu
    · rw [eqU_of r f.1]; exact eqAt_V r rx f.1 fx
    · exact mem_eqAt rx fx t f.2 u' hu
def inV (x : V) (xs : List V) : Bool := xs.any fun y => eqV y x
def rIn (K : PySem.W.Frag) (neg : Bool) : R2 := fun x y H Q => ∃ p xs, y = .ref p ∧ (SqL K H p xs ∨ SqT K H p xs) ∧ flatV x = true ∧ xs.all flatV = true ∧ Q (.bl (if neg then !inV x xs else inV x xs)) H
theorem op_in_seq : OpR X (compareOp .In) (rIn X.K false) := by
  intro pins s σ H x y v u Q I rx ry h
  obtain ⟨p, xs, rfl, hq, fx, fs, q⟩ := h
  cases ry
  rcases hq with hq | hq
  · obtain ⟨its, r, pl, hz⟩ := I.list hq
    refine SeqAt.in_listAt (eqU x) pl.isList (fun w hw => mem_eqAt rx fx r fs w (by simpa using hw)) ⟨.bl _, H, I, rfl, ?_⟩
    rw [show its.toArray.any (eqU x) = its.any (eqU x) by simp, any_eqU r fs]
    exact q
  · obtain ⟨its, r, pl, hz⟩ := I.tuple hq
    refine SeqAt.in_tupleAt (eqU x) pl (fun w hw => mem_eqAt rx fx r fs w (by simpa using hw)) ⟨.bl _, H, I, rfl, ?_⟩
    rw [show its.toArray.any (eqU x) = its.any (eqU x) by simp, any_eqU r fs]
    exact q
theorem call_len_seq : CallR X (.builtin "len") (fun xs H Q => ∃ p ys, xs = [.ref p] ∧ (SqL X.K H p ys ∨ SqT X.K H p ys) ∧ Q (.int ys.length) H) := by
  intro pins s σ H xs us Q I r h
  obtain ⟨p, ys, rfl, hq, q⟩ := h
  obtain ⟨u, rfl, rx⟩ := vals1 r
  cases rx
  have hn := line63
  rcases hq with hq | hq
  · obtain ⟨its, r', pl, hz⟩ := I.list hq
    have hlen := r'.length
    exact Calls.call_len_list pl.isList (by simp only [List.size_toArray] <;> omega) ⟨.int ys.length, H, I.tok _, ⟨s.toks + 1, by rw [List.size_toArray, hlen]⟩, q⟩
  · obtain ⟨its, r', pl, hz⟩ := I.tuple hq
    have hlen := r'.length
    exact len_tuple pl (by simp only [List.size_toArray] <;> omega) ⟨.int ys.length, H, I.tok _, ⟨s.toks + 1, by rw [List.size_toArray, hlen]⟩, q⟩
theorem call_list_of : CallR X (.type "list") (fun xs H Q => ∃ p ys, xs = [.ref p] ∧ (SqL X.K H p ys ∨ SqT X.K H p ys) ∧ ∀ l, H l = none → Q (.ref l) (upd H l (.lst ys))) := by
  intro pins s σ H xs us Q I r h
  obtain ⟨p, ys, rfl, hq, q⟩ := h
  obtain ⟨u, rfl, rx⟩ := vals1 r
  cases rx
  have fin : ∀ (its : List Value), Vals ys its → ys.length ≤ sizeLine → ∀ (h' : Heap) (c' : Nat), (∀ b o', s.heap.get? b = some o' → h'.get? b = some o') →
      h'.get? s.heap.objs.size = some { cls := .type "list", dict := none, data := .seq its.toArray c', slots := #[] } → EP X pins σ Q (.ref s.heap.objs.size) { s with heap := h' } := fun its r' hz h' c' kp e =>
    ⟨.ref s.heap.objs.size, _, I.laid (t' := s.toks) kp (Nat.le_refl _) (show ObjOk X.prog X.w _ h' _ (.lst ys) from ⟨hz, its, c', r', e⟩), rfl, q _ (I.hok.fresh (Nat.le_refl _))⟩
  rcases hq with hq | hq
  · obtain ⟨its, r', pl, hz⟩ := I.list hq
    have hlen := r'.length
    obtain ⟨o, ho, hc, n, hd⟩ := pl.isList
    exact call_list_seq p (.inl rfl) ho hc hd (fun h' c' kp e => fin its r' hz h' c' kp e) (by simp only [List.size_toArray] <;> omega)
  · obtain ⟨its, r', pl, hz⟩ := I.tuple hq
    have hlen := r'.length
    obtain ⟨o, ho, hc, n, hd⟩ := pl
    exact call_list_seq p (.inr rfl) ho hc hd (fun h' c' kp e => fin its r' hz h' c' kp e) (by simp only [List.size_toArray] <;> omega)
def tyV (K : PySem.W.Frag) (T : String) (x : V) (H : Hp) : Prop := match x with
  | .str _ => T = "str"
  | .int _ => T = "int"
  | .ref p => (T = "list" ∧ ∃ xs, SqL K H p xs) ∨ (T = "tuple" ∧ ∃ o, K.lookup p = some o ∧ o.cls = .type "tuple" ∧ o.dict = none) ∨
      (T = "dict" ∧ ((∃ kvs, H p = some (.dK kvs)) ∨ ∃ kvs, H p = some (.dT kvs))) ∨ (T = "set" ∧ ∃ S n, H p = some (.set S n))
  | _ => False
theorem tyV_is {pins : List (Addr × Obj)} {σ : St} {H : Hp} {s : Shared} {T : String} {x : V} {v : Value} (I : Inv X pins σ H s) (r : RelV x v) (ty : tyV X.K T x H) :
    s.TypeIs v T ∧ ∀ a, v = .ref a → ∃ ob, s.heap.get? a = some ob ∧ ob.dict = none := by
  cases x with
  | str z =>
    obtain ⟨t, rfl⟩ := r
    cases (show T = "str" from ty)
    exact ⟨typeIs_str s z t, fun _ e => nomatch e⟩
  | int i =>
    obtain ⟨t, rfl⟩ := r
    cases (show T = "int" from ty)
    exact ⟨typeIs_int s i t, fun _ e => nomatch e⟩
  | ref p =>
    cases r
    rcases ty with ⟨rfl, xs, hq⟩ | ⟨rfl, o, hk, hc, hd⟩ | ⟨rfl, hk⟩ | ⟨rfl, S, n, hk⟩
    · obtain ⟨its, _, pl, _⟩ := I.list hq
      refine ⟨pl.isList.typeIs, fun a e => ?_⟩
      cases e
      obtain ⟨o, n, e, c, hd, _⟩ := pl
      exact ⟨o, e, hd⟩
    · refine ⟨⟨o, I.kIn p o hk, hc⟩, fun a e => ?_⟩
      cases e
      exact ⟨o, I.kIn _ o hk, hd⟩
    · have z : ∃ o, s.heap.get? p = some o ∧ o.ExactDict := by
        rcases hk with ⟨kvs, hk⟩ | ⟨kvs, hk⟩
        · obtain ⟨_, _, _, _, o, _, _, e, ex, _⟩ := I.hok p _ hk
          exact ⟨o, e, ex⟩
        · obtain ⟨_, _, _, _, o, _, _, e, ex, _⟩ := I.hok p _ hk
          exact ⟨o, e, ex⟩
      obtain ⟨o, e, ex⟩ := z
      refine ⟨⟨o, e, ex.1⟩, fun a e2 => ?_⟩
      cases e2
      exact ⟨o, e, ex.2.1⟩
    · obtain ⟨o, _, _, _, e, ex, _⟩ := I.hok p _ hk
      refine ⟨⟨o, e, ex.1⟩, fun a e2 => ?_⟩
      cases e2
      exact ⟨o, e, ex.2.1⟩
  | _ => exact False.elim ty
def tBM (K : PySem.W.Frag) (T : String) (r : V → List V → Hp → VK → Prop) (to : TE) (t : TA) : TE := fun σ H Q => to σ H fun x H1 => tyV K T x H1 ∧ t σ H1 fun xs H2 => r x xs H2 Q
variable {o e : Expr} {es : List Expr} {to : TE} {t : TA} {name : Str} {apos cpos : Pos} {T id : String} {r : V → List V → Hp → VK → Prop}
theorem pe_bm (pa : PlainAttrs T) (slot : Slot T name id) (hty : typeOf (.builtin id) = pure (.type "method_descriptor")) (hm : MtR X id r) (ho : PE X o to) (ha : PA X (e :: es) t)
    (hbase : attributeBase o name X.env (eval o X.env) = eval o X.env := by rfl)
    (hfew : ((backTo cpos (starEach (e :: es) X.env)).all (fun x => !x.1) && (backToKw cpos (keywordEach [] X.env)).all (fun x => x.1.isSome)
      && decide ((e :: es).length + ([] : List Keyword).length + (if ([] : List Keyword).isEmpty then 0 else 1) < 30)) = true := by rfl)
    (hline : (apos.endLine == cpos.line) = true := by rfl) (hs : starEach (e :: es) X.env = (false, eval e X.env) :: starEach es X.env := by rfl) (hplain : (backTo cpos (starEach es X.env)).any (·.1) = false := by rfl) :
    PE X (.Call (.Attribute o name apos) (e :: es) [] cpos) (tBM X.K T r to t) := by
  intro pins s σ H Q I h
  refine wpAny_Call_method_late hbase hfew hline rfl (thn (ho pins s σ H _ I h) fun v s1 ⟨x, H1, I1, r1, ty, q1⟩ => ?_)
  obtain ⟨h1, h2⟩ := tyV_is I1 r1 ty
  refine ⟨T, id, pa, slot, hty, h1, h2, ?_⟩
  have hA := ha cpos pins s1 σ H1 _ I1 q1
  rw [hs] at hA ⊢
  refine Calls.callWith_builtin (by show (false || (backTo cpos (starEach es X.env)).any (·.1)) = false; rw [hplain] <;> rfl) (Calls.evalArgs_plain ?_)
  exact thn hA fun us s2 ⟨vs, H2, I2, r2, q2⟩ => hm pins s2 σ H2 x vs v us Q I2 r1 r2 q2
end
end L2
namespace L2
open PySem PySem.Spec PyProof.Rows
def MtM (X : Cx) (id : String) (r : V → List V → Hp → VK → Prop) : Prop :=
  ∀ (pins : List (Addr × Obj)) (s : Shared) (σ : St) (H : Hp) (x : V) (xs : List V) (v : Value) (us : List Value) (Q : VK), Inv X pins σ H s → RelV x v → Vals xs us → r x xs H Q →
    wpAny (model X.prog X.w) X.A (call (.builtin id) (v :: us)) (EP X pins σ Q) X.xe s
theorem Vals.one : ∀ {x : V} {us : List Value}, Vals [x] us → ∃ u, us = [u] ∧ RelV x u
  | _, _, .cons r .nil => ⟨_, rfl, r⟩
section
variable {X : Cx} {pins : List (Addr × Obj)} {σ : St} {H : Hp} {s : Shared} {l b : Addr} {xs ys zs : List V}
theorem Inv.lset {its its' : List Value} {n : Nat} {f : Array Value → Array Value} {t' : Nat} (I : Inv X pins σ H s) (hH : H l = some (.lst xs))
    (e : s.heap.get? l = some { cls := .type "list", data := .seq its.toArray n }) (hf : f its.toArray = its'.toArray) (hv : Vals ys its') (hz : ys.length ≤ sizeLine) :
    Inv X pins σ (upd H l (.lst ys)) { s with heap := s.heap.update l (Obj.mapSeq f), toks := t' } := by
  have q := PySem.IsL.update e f
  rw [hf] at q
  refine I.write (x := l) (e := l) (by rw [hH]; exact trivial) (.inl rfl) (fun b' u hb hu => (Heap.get?_update_other s.heap (Obj.mapSeq f) (Ne.symm hb)).trans hu) ⟨_, q⟩ ?_
  exact ⟨hz, its', _, hv, q⟩
theorem Inv.lnew {its : List Value} {t' : Nat} (I : Inv X pins σ H s) (hv : Vals ys its) (hz : ys.length ≤ sizeLine) :
    Inv X pins σ (upd H s.heap.objs.size (.lst ys)) { s with heap := s.heap.push { cls := .type "list", data := .seq its.toArray }, toks := t' } :=
  I.laid (fun _ _ q => Heap.get?_push_of_some _ q) (Nat.le_refl _) ⟨hz, its, 0, hv, Heap.get?_push_size _ rfl⟩
theorem Inv.fresh (I : Inv X pins σ H s) : H s.heap.objs.size = none := I.hok.fresh (Nat.le_refl _)
theorem Inv.lstM (I : Inv X pins σ H s) (hH : H l = some (.lst xs)) : xs.length ≤ sizeLine ∧ ∃ (its : List Value) (n : Nat), Vals xs its ∧ xs.length = its.length ∧ s.heap.get? l = some { cls := .type "list", data := .seq its.toArray n } := by
  obtain ⟨z, its, n, r, e⟩ := I.hok l _ hH
  exact ⟨z, its, n, r, r.length, e⟩
end
section
variable {X : Cx}
def rAppend : V → List V → Hp → VK → Prop := fun x vs H Q => ∃ l xs y, x = .ref l ∧ vs = [y] ∧ H l = some (.lst xs) ∧ xs.length < sizeLine ∧ Q .non (upd H l (.lst (xs ++ [y])))
theorem mt_append : MtM X "list.append" rAppend := by
  intro pins s σ H x vs v us Q I rx rv h
  obtain ⟨l, xs, y, rfl, rfl, hH, hz, q⟩ := h
  cases rx
  obtain ⟨u, rfl, ru⟩ := rv.one
  obtain ⟨z, its, n, r, hl, e⟩ := I.lstM hH
  refine call_meets F.slot_list_append ⟨_, e, rfl⟩ F.entry_list_append (F.args_list_append_2 _ _) (PySem.list_append l its.toArray n u (by rw [List.size_toArray]; omega)) ⟨e, ?_⟩
  refine ⟨.non, _, I.lset (its' := its ++ [u]) hH e (by simp) (r.append (.cons ru .nil)) ?_, rfl, q⟩
  rw [List.length_append, List.length_singleton]
  omega
def rCat : R2 := fun x y H Q => ∃ l b xs zs, x = .ref l ∧ y = .ref b ∧ H l = some (.lst xs) ∧ H b = some (.lst zs) ∧ xs.length + zs.length ≤ sizeLine ∧ ∀ p, H p = none → Q (.ref p) (upd H p (.lst (xs ++ zs)))
theorem op_cat : OpR X (binaryOp .Add) rCat := by
  intro pins s σ H x y v u Q I rx ry h
  obtain ⟨l, b, xs, zs, rfl, rfl, hH, hB, hz, q⟩ := h
  cases rx
  cases ry
  obtain ⟨z, its, n, r, hl, e⟩ := I.lstM hH
  obtain ⟨z2, its2, n2, r2, hl2, e2⟩ := I.lstM hB
  refine PySem.P.add_list e e2 ?_ (by rw [List.size_toArray, List.size_toArray]; omega)
  have ea : its.toArray ++ its2.toArray = (its ++ its2).toArray := by simp
  rw [ea]
  exact ⟨.ref _, _, I.lnew (t' := s.toks) (r.append r2) (by rw [List.length_append]; omega), rfl, q _ I.fresh⟩
end
section
variable {prog : Program} {w : World} {A : Around} {E : Value → Shared → Prop} {s : Shared}
end
section
variable {X : Cx}
end
end L2
namespace Att
open PySem PySem.W PySem.Calls PyProof.Rows
theorem ints_of_wellAll {P : Params} {h : Heap} : ∀ (ns : List Int) (vs : List Value), WellAll P h vs (ns.map WData.int) → IntsAre vs ns := by
  intro ns
  induction ns with
  | nil =>
    intro vs w
    rw [List.map_nil] at w
    cases w
    exact .nil
  | cons n ns ih =>
    intro vs w
    rw [List.map_cons] at w
    cases w with
    | cons a b =>
      cases a
      exact .cons _ _ (ih _ b)
theorem script_of {l : OpenLaw} {n : Nat} (hn : l.most = some n) {P : Params} {h : Heap} {args : List WData} {vals : List Value}
    (hpre : l.row.toRowW.claim.pre args = true) (hwl : WellAll P h vals args) :
    ∃ a vs ns, vals = [Value.ref a] ∧ args = [WData.list (ns.map WData.int)] ∧ h.get? a = some { cls := .type "list", data := .seq vs.toArray } ∧ IntsAre vs ns ∧ ns.length ≤ n := by
  have hsh : WShape.hasAll [] args [.list .int] = true := (pre_splitW hpre).1
  have hc : l.pre.holds [] { args := args } = true := (pre_splitW hpre).2
  obtain ⟨d, r, rfl, h1, h2⟩ := hasAllW_cons hsh
  obtain rfl := hasAllW_nil h2
  obtain ⟨xs, rfl, h3⟩ := hasW_list h1
  obtain ⟨ns, rfl⟩ := items_int h3
  have hlen : ns.length ≤ n := by
    unfold OpenLaw.pre at hc
    have h4 : (WTm.not (.lt (.lit (.int (n : Int))) (.len (.arg 0)))).holds [] { args := [.list (ns.map .int)] } = true := by
      have h4 := (holds_andW hc).1
      rw [hn] at h4
      exact h4
    have h5 := condW_of h4 (w_not (w_lt w_lit (w_len_list (w_arg rfl))))
    rw [List.length_map] at h5
    refine Nat.le_of_not_lt fun q => ?_
    have q' : (n : Int) < ((ns.length : Nat) : Int) := by omega
    first
      | (rw [decide_eq_true q'] at h5; exact absurd h5 (by decide))
      | (simp at h5; omega)
  cases hwl with
  | cons w1 w2 =>
    cases w2
    cases w1 with
    | list ho hall => exact ⟨_, _, ns, rfl, rfl, ho, ints_of_wellAll ns _ hall, hlen⟩
theorem post_true (l : OpenLaw) (args : List WData) : l.row.toRowW.claim.post args (.bool true) args = true :=
  postW_of (r := l.row.toRowW) (X := (true == true))
    (show WShape.has [] (.bool true) .bool = true by first | rfl | decide | simp [WShape.has, WShape.arms, WShape.armsAll])
    (show (WTm.eq .res (.lit (.bool true))).value [] { args := args, res := some (.bool true), after := args } = some (.bool (true == true)) from w_eq_bool (w_res rfl) w_lit) rfl
theorem attach_call {l : OpenLaw} {n : Nat} {q : Program} {loose : List Str} {XP : (Str → Option Value) → Heap → Prop} {YP : World → Heap → Prop} {d : DefRec}
    (hn : l.most = some n) (hdf : d.params.defaults = [])
    (call : ∀ (w : World) (s₀ s₁ : Shared) (mg mb : Str → Option Value) (fa : Addr) (o : Obj) (pm cd doc : Value) (a : Addr) (vs : List Value) (ns : List Int),
      Ground q loose [] XP w s₀ mg mb s₁.heap → YP w s₁.heap →
      s₁.heap.get? fa = some o → o.data = .func (docDef d.name d.params d.body d.scope pm cd doc) → s₁.heap.CodeRec cd d.name → mg d.name = some (.ref fa) →
      s₁.heap.get? a = some { cls := .type "list", data := .seq vs.toArray } → IntsAre vs ns → ns.length ≤ n → s₁.gens = #[] →
      codeAny (model l.prog w) callerA (.call (.ref fa) ⟨[.ref a], []⟩) (fun r s' => r = .ok (.ret (.bool true)) ∧ OldK s₁.heap s'.heap ∧ s'.os = s₁.os ∧ AllBare s'.gens) s₁) :
    WalkO q loose XP YP l.row.toRowW d [] (fun f vs => PySem.call f vs) := by
  intro w s₀ s₁ mg mb G Y fa o pm cd doc dV kV ho hd hcd hD hmg hg args vals as hpre hlay hrd hwl hlo
  obtain rfl : dV = .none := Dflts.none hD hdf
  obtain rfl : kV = .none := Dflts.noKw hD
  obtain ⟨a, vs, ns, rfl, rfl, hobj, hints, hlen⟩ := script_of hn hpre hwl
  refine enter_call (codeAny_mono (call w s₀ s₁ mg mb fa o pm cd doc a vs ns G Y ho (fd_plain hd) hcd hmg hobj hints hlen hg) fun r s' hq => ?_)
  obtain ⟨rfl, h2, h3, h4⟩ := hq
  exact ⟨.inl ⟨.bool true, .bool true, [], rfl, fun _ => rfl, .bool true, post_true l _, fun _ => ⟨List.Pairwise.nil, fun _ hm => (nomatch hm)⟩⟩, h2, h3, h4⟩
section
variable {prog : Program} {w : World} {A : Around} {E : Value → Shared → Prop} {s : Shared} {K : Frag}
end
end Att
namespace L2
open PySem PySem.Spec PyProof.Rows
theorem vals_ints : ∀ {vs : List Value} {ns : List Int}, IntsAre vs ns → Vals (ns.map V.int) vs
  | _, _, .nil => .nil
  | _, _, .cons n t h => .cons ⟨t, rfl⟩ (vals_ints h)
def Only (H : Hp) : Prop := ∀ b, H b = none ∨ ∃ o xs, H b = some (.frz o (.lst xs))
theorem law_call {P : Program} {w : World} {K : PySem.W.Frag} {mg mb : Str → Option Value} {CX : CXT} {k : Nat} {fa a : Addr} {fd : FuncData} {x : Str} {sp : Sp} {s₁ : Shared} {vs : List Value} {ns : List Int}
    (KX : K.In s₁.heap) (hns : s₁.heap.Ns mainGlobals mg) (hb : s₁.heap.Ns builtinsNs mb) (hbb : ∀ x : Str, x ≠ "__name__" → mb x = bootBuiltins x) (hlim : s₁.heap.NoLimit) (hg : s₁.gens = #[])
    (ha : s₁.heap.get? a = some { cls := .type "list", data := .seq vs.toArray }) (hi : IntsAre vs ns) (hl : ns.length ≤ sizeLine) (hr : Room k callerA)
    (F : ∀ base : Heap, K.In base → base.Ns mainGlobals mg → FnOk P w K mg base CX k fa fd [x] sp) (hbind : ∀ (s : Shared) (u : Value), BindsTo s fd ⟨[u], []⟩ [(x, u)])
    (hsp : ∀ H : Hp, Only H → SqL K H a (ns.map V.int) → sp [.ref a] H (fun v _ => v = .bl true) fun _ _ _ => False)
    (hCX : ∀ H e s', CX [] H s₁ (fun _ _ _ => False) e s' → False) :
    codeAny (model P w) callerA (.call (.ref fa) ⟨[.ref a], []⟩) (fun r s' => r = .ok (.ret (.bool true)) ∧ OldK s₁.heap s'.heap ∧ s'.os = s₁.os ∧ AllBare s'.gens) s₁ := by
  have rv := vals_ints hi
  have lenV := hi.length
  have core : ∀ H : Hp, Only H → SqL K H a (ns.map V.int) → HOk P w H s₁.heap → (∀ b, H b ≠ none → b = a) → (H a ≠ none → K.lookup a = none) →
      codeAny (model P w) callerA (.call (.ref fa) ⟨[.ref a], []⟩) (fun r s' => r = .ok (.ret (.bool true)) ∧ OldK s₁.heap s'.heap ∧ s'.os = s₁.os ∧ AllBare s'.gens) s₁ := by
    intro H hO hS hok hA hK
    have base_of : ∀ {b : Addr} {o : Obj}, s₁.heap.get? b = some o → H b = none → (hidT s₁.heap H).get? b = some o := fun e n => hidT_get e n
    have noA : ∀ {b : Addr} {o : Obj} {es : Array DictEntry} {ep : Nat}, s₁.heap.get? b = some o → o.data = .dict es ep → H b = none := fun {b o es ep} e d => by
      cases q : H b with
      | none => rfl
      | some u =>
        have e' : b = a := hA b (by rw [q]; simp)
        subst e'
        rw [ha] at e; cases e
        have d' : Data.seq vs.toArray _ = Data.dict es ep := d
        cases d'
    have nsK : ∀ {b : Addr} {m : Str → Option Value}, s₁.heap.Ns b m → (hidT s₁.heap H).Ns b m := fun {b m} ⟨o, es, ep, e, d, r⟩ => ⟨o, es, ep, base_of e (noA e d), d, r⟩
    have hKb : K.In (hidT s₁.heap H) := fun b o e => base_of (KX b o e) (by
      cases q : H b with
      | none => rfl
      | some u =>
        have e' : b = a := hA b (by rw [q]; simp)
        subst e'
        rw [hK (by rw [q]; simp)] at e; cases e)
    have hM : Mod K mg (hidT s₁.heap H) := ⟨hKb, nsK hns, ⟨mb, nsK hb, hbb⟩, let ⟨mc, h1, h2⟩ := hlim; ⟨mc, nsK h1, h2⟩⟩
    have e0 : Env0 P w K mg (hidT s₁.heap H) callerA [] s₁ H := ⟨rfl, hM, fun b o e => of_hidT e, Nat.le_of_eq (hidT_size _ _), trivial, fun b hb => absurd (show b ∈ ([] : List Addr) from hb) (by simp), hok, .of_eq hg⟩
    refine codeAny_mono ((F _ hKb (nsK hns)).run callerA [] s₁ H ⟨[.ref a], []⟩ [.ref a] [.ref a] _ _ hr e0 (hbind s₁ (.ref a)) (.cons rfl .nil) (hsp H hO hS)) fun r s' h => ?_
    cases r with
    | error e => exact (hCX H e s' h).elim
    | ok fl =>
      cases fl with
      | next => exact False.elim h
      | brk => exact False.elim h
      | cont => exact False.elim h
      | ret u =>
        obtain ⟨v, H', os, bare, un, hok', r', q⟩ := h
        have q' : v = .bl true := q
        subst q'
        obtain rfl : u = Value.bool true := r'
        refine ⟨rfl, OldK.of_keep fun b o e => ?_, os, bare⟩
        cases q : H b with
        | none => exact un.keep b o e q (by intro z; exact absurd (show b ∈ ([] : List Addr) from z) (by simp)) (by simp)
        | some u =>
          rcases hO b with z | ⟨ob, xs, z⟩
          · rw [q] at z; cases z
          · have z2 := un.frzs b ob _ z
            obtain ⟨e1, _⟩ := hok b _ z
            obtain ⟨e2, _⟩ := hok' b _ z2
            rw [e] at e1; cases e1
            exact e2
  cases hk : K.lookup a with
  | some o =>
    have e := KX a o hk
    rw [ha] at e
    cases e
    refine core (fun _ => none) (fun _ => .inl rfl) (.inr ⟨_, vs.toArray, _, hk, rfl, rfl, rfl, by rw [List.size_toArray, lenV]; exact hl, by simpa using rv⟩) (fun b u z => by have z' : (none : Option HO) = some u := z; cases z') (fun b z => absurd rfl z) fun z => absurd rfl z
  | none =>
    refine core (fun b => if b = a then some (.frz { cls := .type "list", data := .seq vs.toArray } (.lst (ns.map V.int))) else none) (fun b => ?_) (.inl (.inr ⟨{ cls := .type "list", data := .seq vs.toArray }, if_pos rfl⟩)) (fun b u z => ?_) (fun b z => ?_) fun _ => hk
    · by_cases hb : b = a
      · exact .inr ⟨_, _, if_pos hb⟩
      · exact .inl (if_neg hb)
    · by_cases hb : b = a
      · have z' := (if_pos hb).symm.trans z
        cases z'
        subst hb
        exact ⟨ha, by rw [List.length_map]; exact hl, vs, _, rv, ha⟩
      · have z' := (if_neg hb).symm.trans z
        cases z'
    · by_cases hb : b = a
      · exact hb
      · exact absurd (if_neg hb) z
end L2
namespace L2
open PySem PySem.Spec PyProof.Rows
theorem walk_of {l : PySem.W.OpenLaw} {n k : Nat} {q : Program} {loose : List Str} {XP : (Str → Option Value) → Heap → Prop} {YP : World → Heap → Prop} {d : DefRec} {K : Params → PySem.W.Frag} {CX : World → CXT} {sp : World → Sp} {x : Str}
    (hn : l.most = some n) (hn2 : n ≤ sizeLine) (hdf : d.params.defaults = []) (hr : Room k callerA)
    (hY : ∀ (w : World) (h : Heap), YP w h → (K w.params).In h)
    (F : ∀ (w : World) (mg : Str → Option Value) (fa : Addr) (h : Heap), (K w.params).In h → h.Ns mainGlobals mg → mg d.name = some (.ref fa) →
      ∃ fd : FuncData, (∀ (s : Shared) (u : Value), BindsTo s fd ⟨[u], []⟩ [(x, u)]) ∧
        ∀ base : Heap, (K w.params).In base → base.Ns mainGlobals mg → FnOk l.prog w (K w.params) mg base (CX w) k fa fd [x] (sp w))
    (hsp : ∀ (w : World) (H : Hp) (a : Addr) (ns : List Int), ns.length ≤ n → Only H → SqL (K w.params) H a (ns.map V.int) → sp w [.ref a] H (fun v _ => v = .bl true) fun _ _ _ => False)
    (hCX : ∀ (w : World) (H : Hp) (s : Shared) (e : Value) (s' : Shared), CX w [] H s (fun _ _ _ => False) e s' → False) :
    PySem.W.WalkO q loose XP YP l.row.toRowW d [] (fun f vs => PySem.call f vs) := by
  refine Att.attach_call hn hdf fun w s₀ s₁ mg mb fa o pm cd doc a vs ns G Y ho hd hcd hmg hobj hints hlen hg => ?_
  have KX := hY w _ Y
  obtain ⟨fd, hb, hF⟩ := F w mg fa _ KX G.T.g hmg
  exact law_call KX G.T.g G.T.b G.T.builtins G.T.nolimit hg hobj hints (Nat.le_trans hlen hn2) hr hF hb (fun H hO hS => hsp w H a ns hlen hO hS) fun H e s' => hCX w H s₁ e s'
end L2
namespace L2
open PySem PySem.Spec PyProof.Rows
def defArgs (s : Stmt) : Arguments := match s with
  | .FunctionDef _ a _ _ _ _ _ _ _ _ => a
  | _ => { posonlyargs := [], args := [], vararg := none, kwonlyargs := [], kw_defaults := [], kwarg := none, defaults := [] }
def defBody (s : Stmt) : List Stmt := match s with
  | .FunctionDef _ _ b _ _ _ _ _ _ _ => b
  | _ => []
def defScope (s : Stmt) : Scope := match s with
  | .FunctionDef _ _ _ _ _ _ sc _ _ _ => sc
  | _ => { kind := .function, names := [], isGenerator := false, isCoroutine := false }
abbrev CX0 : CXT := fun _ _ _ _ _ _ => False
abbrev E0 : XK := fun _ _ _ => False
theorem pass0 {X : Cx} : Passes CX0 X E0 := fun _ _ _ _ _ _ _ h => h.elim
structure Fun (K : PySem.W.Frag) (x qual : Str) (st : Stmt) (f : Addr) (fd : FuncData) : Prop where
  ex : ∃ (oc : Value) (od : Option Addr) (kV doc pm : Value) (an : Option Addr) (cdv ct : Value) (osl : Array (Option Value)),
    fd = PySem.W.fnOf x qual (defArgs st) (defBody st) (defScope st) .none kV doc pm an cdv ct ∧ K.lookup f = some ⟨oc, od, .func fd, osl⟩ ∧ PySem.W.codeIn K cdv qual = true
  kp : PySem.W.keepIn K (.ref f) = true
section
variable {P : Program} {w : World} {K : PySem.W.Frag} {mg : Str → Option Value} {base : Heap}
theorem Fun.ok {x qual : Str} {st : Stmt} {f : Addr} {fd : FuncData} {N ps : List Str} {k : Nat} {sp : Sp} (F : Fun K x qual st f fd) (S : FnScope N ps (defScope st)) (len : ∀ vs H Q E, sp vs H Q E → vs.length = ps.length)
    (hbody : ∀ (cdv : Value) (A : Around) (outer : List Env) (s : Shared) (H : Hp) (vs : List V) (Q : VK) (E : XK), Room k (A.deeper (envOfC qual (defScope st) s.heap.objs.size f cdv)) → sp vs H Q E →
      ∃ t, PSs (cxOf CX0 P w K mg base N qual (defScope st) f cdv A outer s H E).nox (defBody st) t ∧ t { nx := fun _ H' => Q .non H', rt := Q } (start N vs) H) : FnOk P w K mg base CX0 (k + 1) f fd ps sp := by
  obtain ⟨oc, od, kV, doc, pm, an, cdv, ct, osl, rfl, lk, hcd⟩ := F.ex
  refine fn_of lk hcd S len fun A outer s H vs Q E hr hsp => ?_
  obtain ⟨t, h, q⟩ := hbody cdv A outer s H vs Q E hr hsp
  exact ⟨t, h.nox, q⟩
theorem Fun.binds {x qual : Str} {st : Stmt} {f : Addr} {fd : FuncData} {ps : List Str} (F : Fun K x qual st f fd)
    (h : ∀ (kV doc pm : Value) (an : Option Addr) (cdv ct : Value) (us : List Value), us.length = ps.length → bindArgs (PySem.W.fnOf x qual (defArgs st) (defBody st) (defScope st) .none kV doc pm an cdv ct) ⟨us, []⟩ = pure (ps.zip us)) : Binds K fd ps [] := by
  obtain ⟨oc, od, kV, doc, pm, an, cdv, ct, osl, rfl, lk, hcd⟩ := F.ex
  exact .all (h kV doc pm an cdv ct)
theorem fun_mk {x qual : Str} {st : Stmt} {f : Addr} {oc : Value} {od an : Option Addr} {osl : Array (Option Value)} {kV doc pm cdv ct : Value} (l : K.lookup f = some ⟨oc, od, .func (PySem.W.fnOf x qual (defArgs st) (defBody st) (defScope st) .none kV doc pm an cdv ct), osl⟩)
    (c : PySem.W.codeIn K cdv qual = true) (k : PySem.W.keepIn K (.ref f) = true) : Fun K x qual st f (PySem.W.fnOf x qual (defArgs st) (defBody st) (defScope st) .none kV doc pm an cdv ct) := ⟨⟨oc, od, kV, doc, pm, an, cdv, ct, osl, rfl, l, c⟩, k⟩
end
section
variable {X : Cx}
theorem pv (i : Nat) {x : Str} {pos : Pos} (hN : X.N[i]? = some x := by rfl) (hv : Vis X.env.scope x := by first | exact Or.inl rfl | exact Or.inr (Or.inl rfl) | exact Or.inr (Or.inr rfl)) (hd : (x == ("__debug__" : Str)) = false := by decide)
    (hcd : (x == ("__classdict__" : Str)) = false := by decide) : PE X (.Name x pos) (tVar i) := pe_var hN hv hd hcd
end
theorem iteF {A B : Prop} (h : B) : if false = true then A else B := by
  rw [if_neg Bool.false_ne_true]
  exact h
theorem iteT {A B : Prop} (h : A) : if true = true then A else B := by
  rw [if_pos rfl]
  exact h
theorem ite2 {c A B : Prop} [Decidable c] (h1 : c → A) (h2 : ¬ c → B) : if c then A else B := by
  by_cases h : c
  · rw [if_pos h]
    exact h1 h
  · rw [if_neg h]
    exact h2 h
def Same (H H' : Hp) : Prop := ∀ b o, H b = some o → H' b = some o
theorem Same.refl (H : Hp) : Same H H := fun _ _ h => h
theorem Same.trans {H H1 H2 : Hp} (a : Same H H1) (b : Same H1 H2) : Same H H2 := fun c o h => b c o (a c o h)
theorem Same.free {H H' : Hp} (e : Same H H') {l : Addr} (h : H' l = Option.none) : H l = Option.none := by
  cases q : H l with
  | none => rfl
  | some o =>
    rw [e l o q] at h
    cases h
theorem Same.seq {K : PySem.W.Frag} {H H' : Hp} {a : Addr} {xs : List V} (e : Same H H') (h : SqL K H a xs) : SqL K H' a xs := by
  rcases h with (h | ⟨o, h⟩) | h
  · exact .inl (.inl (e _ _ h))
  · exact .inl (.inr ⟨o, e _ _ h⟩)
  · exact .inr h
end L2
set_option Elab.async false
set_option linter.all false
set_option maxRecDepth 100000
namespace L2
open PySem PySem.Spec PyProof.Rows
def clGo (env : Env) : List (Str × NameKind) → List (Str × Addr) → List (Str × Addr)
  | [], acc => acc
  | (n, k) :: r, acc => if k == .free then clGo env r ((n, (env.cells.lookup n).getD 0) :: acc) else clGo env r acc
def clOf (scope : Scope) (env : Env) : List (Str × Addr) := clGo env scope.names []
theorem clGo_mem {env : Env} {y : Str} {c : Addr} : ∀ {names : List (Str × NameKind)} {acc : List (Str × Addr)}, (y, c) ∈ clGo env names acc → (y, c) ∈ acc ∨ ((y, NameKind.free) ∈ names ∧ c = (env.cells.lookup y).getD 0)
  | [], _, h => .inl h
  | (n, k) :: r, acc, h => by
    unfold clGo at h
    split at h
    · rename_i hk
      have hk : k = .free := by simpa using hk
      rcases clGo_mem h with h1 | ⟨h1, h2⟩
      · rcases List.mem_cons.mp h1 with h1 | h1
        · cases h1
          exact .inr ⟨by rw [hk]; exact List.mem_cons_self, rfl⟩
        · exact .inl h1
      · exact .inr ⟨List.mem_cons_of_mem _ h1, h2⟩
    · rcases clGo_mem h with h1 | ⟨h1, h2⟩
      · exact .inl h1
      · exact .inr ⟨List.mem_cons_of_mem _ h1, h2⟩
theorem clGo_keep {env : Env} {y : Str} : ∀ {names : List (Str × NameKind)} {acc : List (Str × Addr)}, (acc.lookup y).isSome = true → ((clGo env names acc).lookup y).isSome = true
  | [], _, h => h
  | (n, k) :: r, acc, h => by
    unfold clGo
    split
    · refine clGo_keep ?_
      rw [List.lookup_cons]
      split
      · rfl
      · exact h
    · exact clGo_keep h
theorem clGo_has {env : Env} {y : Str} : ∀ {names : List (Str × NameKind)} {acc : List (Str × Addr)}, (y, NameKind.free) ∈ names → ((clGo env names acc).lookup y).isSome = true
  | [], _, h => by simp at h
  | (n, k) :: r, acc, h => by
    unfold clGo
    rcases List.mem_cons.mp h with h1 | h1
    · cases h1
      rw [if_pos (by rfl)]
      refine clGo_keep ?_
      rw [List.lookup_cons]
      simp
    · split
      · exact clGo_has h1
      · exact clGo_has h1
theorem closure_go {env : Env} : ∀ (names : List (Str × NameKind)) (acc : List (Str × Addr)), (∀ p ∈ names, p.2 = .free → (env.cells.lookup p.1).isSome = true) →
    (forIn names acc (fun (x : Str × NameKind) cs => (if x.2 == .free then do let c ← cellOf env x.1; pure (ForInStep.yield ((x.1, c) :: cs)) else pure (ForInStep.yield cs) : Sem (ForInStep (List (Str × Addr)))))) = (pure (clGo env names acc) : Sem _)
  | [], acc, _ => by rw [List.forIn_nil]; rfl
  | (n, k) :: r, acc, h => by
    rw [List.forIn_cons]
    unfold clGo
    cases hk : (k == NameKind.free) with
    | false => exact closure_go r acc fun p hp => h p (List.mem_cons_of_mem _ hp)
    | true =>
      have hk' : k = .free := by simpa using hk
      have h1 := h (n, k) List.mem_cons_self hk'
      have e : cellOf env n = (pure ((env.cells.lookup n).getD 0) : Sem Addr) := by
        unfold cellOf
        cases e : env.cells.lookup n with
        | none => rw [e] at h1; cases h1
        | some c => rfl
      show ((do let c ← cellOf env n; pure (ForInStep.yield ((n, c) :: acc))) >>= _ : Sem _) = _
      rw [e]
      exact closure_go r ((n, (env.cells.lookup n).getD 0) :: acc) fun p hp => h p (List.mem_cons_of_mem _ hp)
theorem closure_eq {scope : Scope} {env : Env} (h : ∀ p ∈ scope.names, p.2 = .free → (env.cells.lookup p.1).isSome = true) : closureFor scope env = pure (clOf scope env) := by
  have e := closure_go (env := env) scope.names [] h
  unfold closureFor clOf
  first
    | (simp only [bind_pure]; exact e)
    | exact e
    | (rw [← e]; rfl)
theorem relabel_free {env : Env} : ∀ {names : List (Str × NameKind)} {x : Str}, names.lookup x = some .free →
    (names.map fun (n, k) => if (k == NameKind.free && env.scope.kind == .function && env.kindOf n == some .cell) then (n, NameKind.cell) else (n, k)).lookup x = some .cell ∨
    (names.map fun (n, k) => if (k == NameKind.free && env.scope.kind == .function && env.kindOf n == some .cell) then (n, NameKind.cell) else (n, k)).lookup x = some .free
  | [], _, h => by simp at h
  | (n, k) :: r, x, h => by
    have ih := @relabel_free env r x
    show List.lookup x ((if (k == NameKind.free && env.scope.kind == .function && env.kindOf n == some .cell) = true then (n, NameKind.cell) else (n, k)) :: _) = _ ∨ List.lookup x ((if (k == NameKind.free && env.scope.kind == .function && env.kindOf n == some .cell) = true then (n, NameKind.cell) else (n, k)) :: _) = _
    cases hx : x == n with
    | true =>
      simp only [List.lookup_cons, hx] at h
      cases h
      by_cases hc : (NameKind.free == NameKind.free && env.scope.kind == .function && env.kindOf n == some .cell) = true
      · rw [if_pos hc]; exact .inl (by simp only [List.lookup_cons, hx])
      · rw [if_neg hc]; exact .inr (by simp only [List.lookup_cons, hx])
    | false =>
      simp only [List.lookup_cons, hx] at h
      by_cases hc : (k == NameKind.free && env.scope.kind == .function && env.kindOf n == some .cell) = true
      · rw [if_pos hc]; simp only [List.lookup_cons, hx]; exact ih h
      · rw [if_neg hc]; simp only [List.lookup_cons, hx]; exact ih h
theorem relabel_mem {env : Env} {names : List (Str × NameKind)} {x : Str} {k : NameKind} (h : (x, k) ∈ (names.map fun (n, k) => if (k == NameKind.free && env.scope.kind == .function && env.kindOf n == some .cell) then (n, NameKind.cell) else (n, k))) :
    (x, k) ∈ names ∨ (x, NameKind.free) ∈ names := by
  obtain ⟨⟨n, k'⟩, h1, h2⟩ := List.mem_map.mp h
  dsimp only at h2
  split at h2
  · rename_i hc
    cases h2
    have : k' = .free := by
      cases k' <;> first | rfl | (exfalso; revert hc; simp)
    subst this
    exact .inr h1
  · cases h2
    exact .inl h1
def FvOk (X : Cx) (scope : Scope) : List (Str × Nat) → Prop
  | [] => True
  | p :: r => (X.N[p.2]? = some p.1 ∧ (X.env.scope.names.lookup p.1 = some .cell ∨ X.env.scope.names.lookup p.1 = some .free) ∧ scope.names.lookup p.1 = some .free) ∧ FvOk X scope r
theorem FvOk.get {X : Cx} {scope : Scope} : ∀ {fv : List (Str × Nat)} {j : Nat} {p : Str × Nat}, FvOk X scope fv → fv[j]? = some p → X.N[p.2]? = some p.1 ∧ (X.env.scope.names.lookup p.1 = some .cell ∨ X.env.scope.names.lookup p.1 = some .free) ∧ scope.names.lookup p.1 = some .free
  | [], _, _, _, e => by simp at e
  | _ :: _, 0, _, h, e => by simp at e; subst e; exact h.1
  | _ :: _, j + 1, _, h, e => h.2.get (j := j) (by simpa using e)
structure CompOk (scope : Scope) (x : Str) (fv : List (Str × Nat)) : Prop where
  kind : scope.kind = .function
  nocell : ∀ y ∈ scope.names, y.2 ≠ .cell
  names : ∀ y ∈ scope.names, y.2 = .local → scope.names.lookup y.1 = some .local
  hx : scope.names.lookup x = some .local
  fr : ∀ y ∈ scope.names, y.2 = .free → y.1 ∈ fv.map (·.1)
  nd : (x :: fv.map (·.1)).Nodup
def PTl (X : Cx) (ifs : List Expr) (t : TT) : Prop :=
  ∀ (pins : List (Addr × Obj)) (s : Shared) (σ : St) (H : Hp) (Q : Bool → Hp → Prop), Inv X pins σ H s → t σ H Q →
    wpAny (model X.prog X.w) X.A (forIn ifs true fun c r => if r = true then do let ok ← isTrue c X.env (eval c X.env); pure (ForInStep.yield ok) else pure (ForInStep.yield r)) (TP X pins σ Q) X.xe s
def tYes : TT := fun _ H Q => Q true H
theorem ptl_nil {X : Cx} : PTl X [] tYes := fun _ _ _ H _ I h => wpAny_tests_nil ⟨H, I, h⟩
theorem ptl_one {X : Cx} {c : Expr} {t : TT} (h : PT X c t) : PTl X [c] t := fun pins s σ H Q I hw => wpAny_tests_one (h pins s σ H Q I hw)
section
variable {X : Cx} {pins : List (Addr × Obj)} {σ : St} {scope : Scope} {x : Str} {fv : List (Str × Nat)} {elt iter : Expr} {ifs : List Expr} {px pos : Pos} {tt : TT} {te : TE}
end
end L2
set_option Elab.async false
set_option linter.all false
set_option maxRecDepth 100000
namespace L2
open PySem PySem.Spec PyProof.Rows
section
variable {κ : Type} [DecidableEq κ]
def putK (kvs : List (κ × V)) (k : κ) (v : V) : List (κ × V) :=
  if (kvs.any fun kv => decide (kv.1 = k)) = true then kvs.map (fun kv => if kv.1 = k then (kv.1, v) else kv) else kvs ++ [(k, v)]
theorem length_putK (kvs : List (κ × V)) (k : κ) (v : V) : (putK kvs k v).length ≤ kvs.length + 1 := by
  unfold putK
  split
  · rw [List.length_map]; omega
  · rw [List.length_append, List.length_cons, List.length_nil]; omega
theorem KV.any {kvs : List (κ × V)} {vs : List (κ × Value)} (r : KV kvs vs) (k : κ) : (kvs.any fun kv => decide (kv.1 = k)) = vs.any fun kv => decide (kv.1 = k) := by
  unfold KV at r
  induction r with
  | nil => rfl
  | cons h t ih => rw [List.any_cons, List.any_cons, ih, h.1]
theorem KV.repl {kvs : List (κ × V)} {vs : List (κ × Value)} (r : KV kvs vs) (k : κ) {y : V} {u : Value} (ry : RelV y u) :
    KV (kvs.map fun kv => if kv.1 = k then (kv.1, y) else kv) (vs.map fun kv => if kv.1 = k then (kv.1, u) else kv) := by
  unfold KV at r ⊢
  induction r with
  | nil => exact .nil
  | @cons p q ps qs h t ih =>
    rw [List.map_cons, List.map_cons]
    refine .cons ?_ ih
    obtain ⟨h1, h2⟩ := h
    by_cases e : p.1 = k
    · rw [if_pos e, if_pos (h1.symm.trans e)]; exact ⟨h1, ry⟩
    · rw [if_neg e, if_neg (fun z => e (h1.trans z))]; exact ⟨h1, h2⟩
theorem KV.put {kvs : List (κ × V)} {vs : List (κ × Value)} (r : KV kvs vs) (k : κ) {y : V} {u : Value} (ry : RelV y u) : KV (putK kvs k y) (stored vs k u) := by
  unfold putK stored
  rw [r.any k]
  by_cases e : (vs.any fun kv => decide (kv.1 = k)) = true
  · rw [if_pos e, if_pos e]; exact r.repl k ry
  · rw [if_neg e, if_neg e]; exact Paired.snoc r ⟨rfl, ry⟩
end
theorem kV_is {P : Program} {w : World} {k : Key} {u : Value} (r : RelV (kV k) u) : (mixKind P w).is k u = true := by
  cases k with
  | inl i => obtain ⟨t, e⟩ := (show ∃ t, u = Value.int i t from r); subst e; exact mixKind_int P w i t
  | inr x => obtain ⟨t, e⟩ := (show ∃ t, u = Value.str x t from r); subst e; exact mixKind_str P w x t
section
variable {P : Program} {w : World} {H : Hp} {h : Heap} {a : Addr}
theorem rd_of {u : HO} (ok : HOk P w H h) (e : Rd H a u) : ObjOk P w H h a u := e.ok ok
theorem dk_rd {kvs : List (Key × V)} (ok : HOk P w H h) (e : Rd H a (.dK kvs)) : kvs.length ≤ sizeLine ∧ (a == sysModules) = false ∧ ∃ vs, KV kvs vs ∧ h.DictOf (mixKind P w) a vs :=
  show ObjOk P w H h a (.dK kvs) from rd_of ok e
theorem dk_of {kvs : List (Key × V)} (ok : HOk P w H h) (e : H a = some (.dK kvs)) : kvs.length ≤ sizeLine ∧ (a == sysModules) = false ∧ ∃ vs, KV kvs vs ∧ h.DictOf (mixKind P w) a vs := dk_rd ok (.inl e)
end
section
variable {X : Cx} {pins : List (Addr × Obj)} {σ : St} {H : Hp} {s : Shared} {a : Addr} {y v : V} {u r : Value} {o : Option V} {A : Around} {E : Value → Shared → Prop}
theorem Inv.big (I : Inv X pins σ H s) : sysModules < s.heap.objs.size := by
  have h : mainGlobals < s.heap.objs.size := (I.mod.glob.keeps I.bk).lt
  exact Nat.lt_trans (by decide) h
theorem d_write {h' : Heap} {t' : Nat} {ob : HO} (I : Inv X pins σ H s) (mu : Mut (H a)) (hs : Heap.SameBut a s.heap h') (he : ∃ q, h'.get? a = some q) (new : ObjOk X.prog X.w (upd H a ob) h' a ob) :
    Inv X pins σ (upd H a ob) { s with heap := h', toks := t' } :=
  I.write (x := a) (e := a) mu (.inl rfl) (fun b q hb z => (hs.2 b hb).trans z) he new
theorem dk_new {P : Program} {w : World} {H' : Hp} {h' : Heap} {kvs : List (Key × V)} {vs : List (Key × Value)} (z : kvs.length ≤ sizeLine) (hd : (a == sysModules) = false) (rel : KV kvs vs) (dd : h'.DictOf (mixKind P w) a vs) :
    ObjOk P w H' h' a (.dK kvs) := ⟨z, hd, vs, rel, dd⟩
end
section
variable {X : Cx} {pins : List (Addr × Obj)} {σ : St} {H : Hp} {s : Shared} {a : Addr} {kvs : List (Key × V)} {k : Key} {u : Value} {A : Around} {E : Value → Shared → Prop}
end
section
variable {X : Cx} {o i e value : Expr} {pos pos' tpos : Pos} {td ty tv : TE}
end
theorem dk_empty {P : Program} {w : World} {H : Hp} (h : Heap) (hb : sysModules < h.objs.size) : ObjOk P w H (h.push { cls := .type "dict", data := .dict #[] }) h.objs.size (.dK []) :=
  ⟨Nat.zero_le _, beq_eq_false_iff_ne.mpr (Ne.symm (Nat.ne_of_lt hb)), [], .nil, Heap.DictOf.new h⟩
def tDNewK : TE := fun _ H Q => ∀ p, H p = none → Q (.ref p) (upd H p (.dK []))
section
variable {X : Cx} {pos : Pos}
theorem pe_dnewK : PE X (.Dict [] [] pos) tDNewK := fun pins s σ H Q I h =>
  wpAny_Dict_empty ⟨.ref s.heap.objs.size, _, I.laid (a := s.heap.objs.size) (o := .dK []) (t' := s.toks) (fun _ _ q => Heap.get?_push_of_some _ q) (Nat.le_refl _) (dk_empty s.heap I.big), rfl, h _ (I.hok.fresh (Nat.le_refl _))⟩
end
def tPairs : List (TE × TE) → St → Hp → (List (V × V) → Hp → Prop) → Prop
  | [], _, H, Q => Q [] H
  | (tk, tv) :: r, σ, H, Q => tk σ H fun x H1 => tv σ H1 fun y H2 => tPairs r σ H2 fun ps H3 => Q ((x, y) :: ps) H3
abbrev VV : List (V × V) → List (Value × Value) → Prop := Paired fun p q => RelV p.1 q.1 ∧ RelV p.2 q.2
def PPs (X : Cx) (pos : Pos) (keys : List (Option Expr)) (values : List Expr) (trs : List (TE × TE)) : Prop :=
  ∀ (pins : List (Addr × Obj)) (s : Shared) (σ : St) (H : Hp) (Q : List (V × V) → Hp → Prop), Inv X pins σ H s → tPairs trs σ H Q →
    wpAny (model X.prog X.w) X.A (evalPairs (pairTrees keys values X.env pos)) (fun vs s' => ∃ ps H', Inv X pins σ H' s' ∧ VV ps vs ∧ Q ps H') X.xe s
theorem pps_nil {X : Cx} {pos : Pos} : PPs X pos [] [] [] := fun pins s σ H Q I h => pairTrees_nil_walk ⟨[], H, I, .nil, h⟩
theorem pps_cons {X : Cx} {pos : Pos} {k v : Expr} {ks : List (Option Expr)} {vs : List Expr} {tk tv : TE} {trs : List (TE × TE)} (hk : PE X k tk) (hv : PE X v tv) (hr : PPs X pos ks vs trs) :
    PPs X pos (some k :: ks) (v :: vs) ((tk, tv) :: trs) := fun pins s σ H Q I h =>
  pairTrees_cons_walk (thn (hk pins s σ H _ I h) fun u s1 ⟨x, H1, I1, rx, q1⟩ => thn (hv pins s1 σ H1 _ I1 q1) fun w2 s2 ⟨y, H2, I2, ry, q2⟩ =>
    thn (hr pins s2 σ H2 _ I2 q2) fun ws s3 ⟨ps, H3, I3, rel, q3⟩ => ⟨(x, y) :: ps, H3, I3, .cons ⟨rx, ry⟩ rel, q3⟩)
def mergeK (kvs more : List (Key × V)) : List (Key × V) := more.foldl (fun acc kv => putK acc kv.1 kv.2) kvs
theorem KV.merge : ∀ {more : List (Key × V)} {rs : List (Key × Value)} {kvs : List (Key × V)} {vs : List (Key × Value)}, KV more rs → KV kvs vs → KV (mergeK kvs more) (merged vs rs) := by
  intro more rs kvs vs r
  unfold KV at r
  induction r generalizing kvs vs with
  | nil => intro q; exact q
  | @cons p q ps qs h t ih =>
    intro r0
    have e : KV (putK kvs p.1 p.2) (stored vs q.1 q.2) := by
      have := r0.put p.1 h.2
      rw [← h.1]; exact this
    exact ih e
theorem length_mergeK : ∀ (more kvs : List (Key × V)), (mergeK kvs more).length ≤ kvs.length + more.length
  | [], kvs => by show kvs.length ≤ kvs.length + 0; omega
  | p :: r, kvs => by
    have h1 := length_mergeK r (putK kvs p.1 p.2)
    have h2 := length_putK kvs p.1 p.2
    show (mergeK (putK kvs p.1 p.2) r).length ≤ _
    rw [List.length_cons]; omega
theorem carries_of {P : Program} {w : World} : ∀ {kvs : List (Key × V)} {ws : List (Value × Value)}, VV (kvs.map fun kv => (kV kv.1, kv.2)) ws → ∃ rs, Carries (mixKind P w) ws rs ∧ KV kvs rs
  | [], _, r => by rw [List.map_nil] at r; cases r; exact ⟨[], True.intro, .nil⟩
  | p :: kvs, _, r => by
    rw [List.map_cons] at r
    cases r with
    | @cons a b as bs h t =>
      obtain ⟨rs, c, q⟩ := carries_of (P := P) (w := w) t
      obtain ⟨b1, b2⟩ := b
      exact ⟨(p.1, b2) :: rs, ⟨kV_is h.1, rfl, c⟩, .cons ⟨rfl, h.2⟩ q⟩
def tDisp (trs : List (TE × TE)) : TE := fun σ H Q => ∀ p, H p = none → tPairs trs σ (upd H p (.dK [])) fun ps H2 => H2 p = some (.dK []) ∧ ∃ kvs : List (Key × V), ps = kvs.map (fun kv => (kV kv.1, kv.2)) ∧ kvs.length ≤ 15 ∧ Q (.ref p) (upd H2 p (.dK (mergeK [] kvs)))
theorem pe_disp {X : Cx} {pos : Pos} {keys : List (Option Expr)} {values : List Expr} {trs : List (TE × TE)} (h : PPs X pos keys values trs) (hall : keys.all (·.isSome) = true) (hl : keys.length = values.length) (h0 : keys ≠ [])
    (h15 : keys.length ≤ 15) : PE X (.Dict keys values pos) (tDisp trs) := by
  intro pins s σ H Q I q
  have hn := I.hok.fresh (Nat.le_refl s.heap.objs.size)
  have I1 := I.laid (a := s.heap.objs.size) (o := .dK []) (h' := s.heap.push { cls := .type "dict", data := .dict #[] }) (t' := s.toks) (fun _ _ q => Heap.get?_push_of_some _ q) (Nat.le_refl _) (dk_empty s.heap I.big)
  refine wpAny_Dict_walk (knd := mixKind X.prog X.w) hall hl h0 h15 (thn (h pins _ σ _ _ I1 (q _ hn)) fun ws s2 ⟨ps, H2, I2, rel, e, kvs, ep, lk, q2⟩ => ?_)
  subst ep
  obtain ⟨rs, c, rk⟩ := carries_of (P := X.prog) (w := X.w) rel
  obtain ⟨z, hd, vs0, r0, dd⟩ := dk_of I2.hok e
  cases r0
  refine ⟨rs, c, dd, fun h' dd' hs => ⟨.ref s.heap.objs.size, _, ?_, rfl, q2⟩⟩
  have hz : (mergeK [] kvs).length ≤ sizeLine := by
    have h1 := length_mergeK kvs []
    rw [List.length_nil] at h1
    rw [sizeLine_eq]; omega
  have he : ∃ q, h'.get? s.heap.objs.size = some q := let ⟨q, _, _, hq, _⟩ := dd'; ⟨q, hq⟩
  exact d_write I2 (by rw [e]; exact True.intro) hs he (dk_new hz hd (rk.merge .nil) dd')
structure M1 (X : Cx) (o : Expr) (m : Str) (apos : Pos) (e : Expr) (cpos : Pos) : Prop where
  base : attributeBase o m X.env (eval o X.env) = eval o X.env
  few : ((backTo cpos (starEach [e] X.env)).all (fun x => !x.1) && (backToKw cpos (keywordEach [] X.env)).all (fun x => x.1.isSome)
    && decide (([e] : List Expr).length + ([] : List Keyword).length + (if ([] : List Keyword).isEmpty then 0 else 1) < 30)) = true
  line : (apos.endLine == cpos.line) = true
  trees : backTo cpos (starEach [e] X.env) = [(false, eval e X.env)]
structure M2 (X : Cx) (o : Expr) (m : Str) (apos : Pos) (e f : Expr) (cpos : Pos) : Prop where
  base : attributeBase o m X.env (eval o X.env) = eval o X.env
  few : ((backTo cpos (starEach [e, f] X.env)).all (fun x => !x.1) && (backToKw cpos (keywordEach [] X.env)).all (fun x => x.1.isSome)
    && decide (([e, f] : List Expr).length + ([] : List Keyword).length + (if ([] : List Keyword).isEmpty then 0 else 1) < 30)) = true
  line : (apos.endLine == cpos.line) = true
  trees : backTo cpos (starEach [e, f] X.env) = [(false, eval e X.env), (false, eval f X.env)]
section
variable {X : Cx} {pins : List (Addr × Obj)} {σ : St} {H : Hp} {s : Shared} {a : Addr} {y d : V} {u r : Value} {o : Option V} {A : Around} {E : Value → Shared → Prop}
end
section
variable {X : Cx} {o e f : Expr} {apos cpos : Pos} {td ty tx : TE}
end
section
variable {X : Cx} {pins : List (Addr × Obj)} {σ : St} {H : Hp} {s : Shared} {a : Addr} {kvs : List (Key × V)} {A : Around} {E : Value → Shared → Prop}
end
section
variable {X : Cx} {pins : List (Addr × Obj)} {σ : St} {H : Hp} {s : Shared} {a : Addr} {y : V} {u : Value} {A : Around} {E : Value → Shared → Prop}
end
end L2
set_option Elab.async false
set_option linter.all false
set_option maxRecDepth 100000
namespace L2
open PySem PySem.Spec PyProof.Rows
def compOkT (scope : Scope) (xs : List Str) (fv : List (Str × Nat)) : Bool :=
  (scope.kind == .function) && (scope.names.all fun y => y.2 != .cell) && (scope.names.all fun y => y.2 != .local || scope.names.lookup y.1 == some .local) && (xs.all fun x => scope.names.lookup x == some .local) &&
  (scope.names.all fun y => y.2 != .free || (fv.map (·.1)).contains y.1) && decide ((xs ++ fv.map (·.1)).Nodup)
structure CompOkT (scope : Scope) (xs : List Str) (fv : List (Str × Nat)) : Prop where
  kind : scope.kind = .function
  nocell : ∀ y ∈ scope.names, y.2 ≠ .cell
  names : ∀ y ∈ scope.names, y.2 = .local → scope.names.lookup y.1 = some .local
  hx : ∀ x ∈ xs, scope.names.lookup x = some .local
  fr : ∀ y ∈ scope.names, y.2 = .free → y.1 ∈ fv.map (·.1)
  nd : (xs ++ fv.map (·.1)).Nodup
theorem compOkT_of {scope : Scope} {xs : List Str} {fv : List (Str × Nat)} (h : compOkT scope xs fv = true) : CompOkT scope xs fv := by
  unfold compOkT at h
  simp only [Bool.and_eq_true, List.all_eq_true, Bool.or_eq_true, decide_eq_true_eq, bne_iff_ne, beq_iff_eq, List.contains_iff_mem, ne_eq] at h
  obtain ⟨⟨⟨⟨⟨h1, h2⟩, h3⟩, h4⟩, h5⟩, h6⟩ := h
  exact ⟨h1, h2, fun y hy hl => (h3 y hy).resolve_left fun z => z hl, h4, fun y hy hl => (h5 y hy).resolve_left fun z => z hl, h6⟩
def cxT (X : Cx) (scope : Scope) (xs : List Str) (fv : List (Str × Nat)) (C : Addr) (s₀ : Shared) (H₀ : Hp) (ex : List Addr) (pn : List (Addr × Obj)) : Cx :=
  { X with N := xs ++ fv.map (·.1), s₀ := s₀, H₀ := H₀, env := compEnvC scope (clOf scope X.env) C X.env, outer := X.stack, stack := X.stack, ex := ex, fn := fun _ => false, pn := pn, xe := fun _ _ => False }
def ρT (xs : List Str) (fv : List (Str × Nat)) (σ : St) : St := xs.map (fun _ => none) ++ fv.map fun p => (σ[p.2]?).join
def KeepT (xs : List Str) (a b : St) : Prop := b.drop xs.length = a.drop xs.length
theorem keepT_of {xs : List Str} {fv : List (Str × Nat)} {σ b : St} (h : KeepT xs (ρT xs fv σ) b) {j : Nat} {v : V} (e : (ρT xs fv σ)[j]? = some (some v)) : b[j]? = some (some v) := by
  unfold KeepT at h
  by_cases hj : j < xs.length
  · unfold ρT at e
    rw [List.getElem?_append_left (by simpa using hj), List.getElem?_map] at e
    cases q : xs[j]? with
    | none => rw [q] at e; cases e
    | some y => rw [q] at e; cases e
  · have ej : j = xs.length + (j - xs.length) := by omega
    have e1 : (ρT xs fv σ).drop xs.length = b.drop xs.length := h.symm
    rw [ej, ← List.getElem?_drop] at e
    rw [ej, ← List.getElem?_drop, ← e1]
    exact e
abbrev TB := Addr → St → Hp → (Hp → Prop) → Prop
def PB (X : Cx) (body : Addr → Env → Sem Unit) (tb : TB) : Prop :=
  ∀ (pins : List (Addr × Obj)) (s : Shared) (σ : St) (H : Hp) (D : Addr) (N : Hp → Prop), Inv X pins σ H s → tb D σ H N → wpAny (model X.prog X.w) X.A (body D X.env) (fun _ s' => ∃ H', Inv X pins σ H' s' ∧ N H') X.xe s
def wCompT (o0 : HO) (xs : List Str) (fv : List (Str × Nat)) (g : TG) (tt : TT) (tb : TB) (σ : St) (J : It) (H1 : Hp) (Q : VK) : Prop :=
  ∀ D, H1 D = none → ∃ W : Nat → Nat → Hp → Prop, (∃ m, W 0 m (upd H1 D o0)) ∧ ∀ i m H, W i m H →
    (J.stop i H ∧ Q (.ref D) H) ∨ (J.go i H ∧ ∃ N : Hp → Prop, (∀ H', N H' → ∃ m', m' < m ∧ W (i + 1) m' H') ∧ ∀ x H', J.yld i H x H' → g x (ρT xs fv σ) H' fun σ2 H2 => KeepT xs (ρT xs fv σ) σ2 ∧ tt σ2 H2 fun b H3 =>
      if b = true then tb D σ2 H3 N else N H3)
def tCompT (o0 : HO) (wi : TI) (xs : List Str) (fv : List (Str × Nat)) (g : TG) (tt : TT) (tb : TB) : TE := fun σ H Q => wi σ H fun J H1 => wCompT o0 xs fv g tt tb σ J H1 Q
def NewAcc (X : Cx) (newAcc : Sem Value) (o0 : HO) : Prop :=
  ∀ (pins : List (Addr × Obj)) (σ : St) (H : Hp) (s : Shared) (E : Value → Shared → Prop) (Q : Value → Shared → Prop), Inv X pins σ H s →
    (∀ s', Inv X pins σ (upd H s.heap.objs.size o0) s' → s'.heap.objs.size = s.heap.objs.size + 1 → (∀ b o, s.heap.get? b = some o → s'.heap.get? b = some o) → Q (.ref s.heap.objs.size) s') → wpAny (model X.prog X.w) X.A newAcc Q E s
section
variable {X : Cx} {pins : List (Addr × Obj)} {σ : St} {scope : Scope} {xs : List Str} {fv : List (Str × Nat)} {e tg iter : Expr} {ifs : List Expr} {pos : Pos} {tt : TT} {tb : TB} {g : TG} {o0 : HO} {body : Addr → Env → Sem Unit} {newAcc : Sem Value}
theorem comp_blockT {s₂ : Shared} {H2 : Hp} {it : Addr} {fp : List Addr} {tn : Nat → Heap → Prop} {J : It} {Q : VK} {E : Value → Shared → Prop} {RR : Value → Addr → Result → Shared → Prop}
    (hc : X.calm = true) (S : CompOkT scope xs fv) (hv : FvOk X scope fv)
    (ht : ∀ C s₀ H₀ ex pn, PTl (cxT X scope xs fv C s₀ H₀ ex pn) ifs tt) (hg : ∀ C s₀ H₀ ex pn, PG (cxT X scope xs fv C s₀ H₀ ex pn) tg g) (he : ∀ C s₀ H₀ ex pn, PB (cxT X scope xs fv C s₀ H₀ ex pn) body tb) (hnew : NewAcc X newAcc o0)
    (hund : ∀ (it acc : Value) (env : Env), X.A.under (.compLoop e 0 it acc env) = X.A) (hden : ∀ (it acc : Value) (env : Env), (model X.prog X.w).den (.compLoop e 0 it acc env) = (compTurn e 0 it acc env).onRaise (fun z => do noteFrame z env; theTreesLotGoes z))
    (hturn : ∀ (it : Value) (D : Addr) (env : Env), compTurn e 0 it (.ref D) env = (do
      standAt iter.pos
      match ← pyNext it with
      | none => pure (.done .next)
      | some v =>
        letOwnedTupleGo tg it v
        assign tg env v
        let mut ok := true
        for c in ifs do
          if ok then ok ← isTrue c env (eval c env)
        if ok then
          body D env
        again (.compLoop e 0 it (.ref D) env)))
    (hstart : ∀ (it acc : Value) (env : Env) (R : Result → Shared → Prop) (s : Shared), codeAny (model X.prog X.w) X.A (.compLoop e 0 it acc env) R s → wpAny (model X.prog X.w) X.A (pyIter it) (fun it' s' => codeAny (model X.prog X.w) X.A (.compLoop e 0 it' acc env) R s') (notedBy (model X.prog X.w) X.A env fun x s' => R (.error x) s') s →
      codeAny (model X.prog X.w) X.A (.compStart e 0 it acc env) R s)
    (I2 : Inv X pins σ H2 s₂) (T : Turn X.prog X.w X.K tg J fp it tn) (st2 : tn 0 s₂.heap) (f2 : ∀ b ∈ fp, FpOk X pins H2 b) (hw : wCompT o0 xs fv g tt tb σ J H2 Q)
    (hRR : ∀ D C s' H' m, Inv X pins σ H' s' → Q (.ref D) H' → s'.heap.Ns C m → FpOk X pins H' C → RR (.ref D) C (.ok .next) s') :
    wpAny (model X.prog X.w) X.A newAcc (fun acc s₃ => wpAny (model X.prog X.w) X.A (newFunctionEnv scope X.env.globals (clOf scope X.env) [] X.env.qual none .none (some X.env)) (fun cenv s₄ =>
      codeAny (model X.prog X.w) X.A (.compStart e 0 (.ref it) acc { cenv with scope := relabel scope X.env }) (RR acc cenv.locals) s₄) E s₃) E s₂ := by
  have kap : ∀ y : Str, (y, NameKind.free) ∈ scope.names → (X.env.kindOf y = some .cell ∨ X.env.kindOf y = some .free) := fun y hy => by
    obtain ⟨p, hp, e⟩ := List.mem_map.mp (S.fr _ hy rfl)
    obtain ⟨j, hj⟩ := List.getElem?_of_mem hp
    have q := (hv.get hj).2.1
    dsimp only at e
    rw [e] at q
    exact q
  have clk : ∀ y c, (clOf scope X.env).lookup y = some c → X.env.cells.lookup y = some c := fun y c e => by
    rcases clGo_mem (PySem.mem_of_lookup e) with z | ⟨z, w⟩
    · simp at z
    · obtain ⟨c', e'⟩ := I2.ok.has y (kap y z)
      rw [e'] at w ⊢
      rw [w]; rfl
  have hD0 : H2 s₂.heap.objs.size = none := I2.fresh
  refine hnew pins σ H2 s₂ E _ I2 fun s₃ I3 hsz3 old3 => ?_
  generalize hH3 : upd H2 s₂.heap.objs.size o0 = H3 at I3
  refine wpAny_newFunctionEnv S.nocell (by intro y hy; simp at hy) (fun h₁ hns₁ hsb₁ => ?_) S.kind
  have old4 : ∀ b o, s₃.heap.get? b = some o → h₁.get? b = some o := fun b o e => hsb₁.extBut b o (Nat.ne_of_lt (Heap.lt_size e)) (Heap.get?_push_of_some _ e)
  have lt2 : ∀ b ∈ fp, b < s₂.heap.objs.size := fun b hb => by
    obtain ⟨o, e, _⟩ := T.obj _ _ st2 b hb
    exact Heap.lt_size e
  have okX : (cxT X scope xs fv s₃.heap.objs.size s₃ H3 fp (X.pn ++ pins)).Ok := by
    refine ⟨I2.ok.mod, ?_, I2.ok.glob, I2.ok.blt, Nat.le_refl _, fun y z c e1 e2 => ?_, fun y hy => ?_, fun y c z => ?_, I2.ok.hd, I2.ok.frames, .inl rfl, fun b hb => ?_, fun b o e => I3.bs b o e, Nat.le_trans I3.ok.bsz I3.sz, fun b o e hb => ?_, fun b hb z => ?_, I3.stack, fun b hb => I3.stkFree b hb⟩
    · exact S.kind
    · exact I2.ok.inj y z c (clk y c e1) (clk z c e2)
    · have hy' : (y, NameKind.free) ∈ scope.names := by
        rcases hy with hy | hy
        · rcases relabel_mem (PySem.mem_of_lookup hy) with z | z
          · exact absurd rfl (S.nocell _ z)
          · exact z
        · rcases relabel_mem (PySem.mem_of_lookup hy) with z | z <;> exact z
      exact Option.isSome_iff_exists.mp (clGo_has (env := X.env) (acc := []) hy')
    · cases z
    · refine ⟨Nat.ne_of_lt (by rw [hsz3]; exact Nat.lt_succ_of_lt (lt2 b hb)), fun y c e => (f2 b hb).2.2.2.2.1 y c (clk y c e)⟩
    · rcases (f2 b hb).2.2.2.1 with z | z
      · exact I2.ok.noex b o e z
      · exact absurd (Nat.lt_of_lt_of_le (Heap.lt_size e) (Nat.le_trans I2.ok.bsz z)) (Nat.lt_irrefl _)
    · rcases List.mem_cons.mp (I2.stkSub b z) with w | w
      · exact (f2 b hb).2.1 w
      · exact (f2 b hb).2.2.1 w
  have C0 : H3 s₃.heap.objs.size = none := I3.fresh
  have I4 : Inv (cxT X scope xs fv s₃.heap.objs.size s₃ H3 fp (X.pn ++ pins)) [] (ρT xs fv σ) H3 { s₃ with heap := h₁, toks := s₃.toks + ([] : List (Str × Value)).length } := by
    refine ⟨okX, rfl, I3.bare, Un.kept old4, ⟨_, hns₁, fun i y v e1 e2 e3 => ?_⟩, fun y c e => ?_, C0, fun y c e => I3.freeC y c (clk y c e), fun p hp => ?_, I3.hok.kept old4, ?_⟩
    · have hi : ¬ i < xs.length := fun hi => by
        have e2' := e2
        unfold ρT at e2'
        rw [List.getElem?_append_left (by simpa using hi), List.getElem?_map] at e2'
        cases q : xs[i]? with
        | none => rw [q] at e2'; cases e2'
        | some y => rw [q] at e2'; cases e2'
      obtain ⟨j, rfl⟩ : ∃ j, i = xs.length + j := ⟨i - xs.length, by omega⟩
      have e1' : (fv.map (·.1))[j]? = some y := by
        have q : (xs ++ fv.map (·.1))[xs.length + j]? = some y := e1
        rw [List.getElem?_append_right (by omega)] at q
        simpa using q
      have e2' : (fv.map fun p => (σ[p.2]?).join)[j]? = some (some v) := by
        have q : (xs.map (fun _ => (none : Option V)) ++ fv.map fun p => (σ[p.2]?).join)[xs.length + j]? = some (some v) := e2
        rw [List.getElem?_append_right (by simp)] at q
        simpa using q
      rw [List.getElem?_map] at e1' e2'
      cases ep : fv[j]? with
      | none => rw [ep] at e1'; cases e1'
      | some p =>
        rw [ep] at e1' e2'
        have ey : p.1 = y := by simpa using e1'
        have ev : (σ[p.2]?).join = some v := by simpa using e2'
        obtain ⟨q1, q2, q3⟩ := hv.get ep
        rw [ey] at q1 q2 q3
        have ev' : σ[p.2]? = some (some v) := by
          cases es : σ[p.2]? with
          | none => rw [es] at ev; cases ev
          | some w => rw [es] at ev; cases w with
            | none => cases ev
            | some w' => cases ev; rfl
        obtain ⟨m, hn, hl⟩ := I3.loc
        obtain ⟨u, r, lk⟩ := hl p.2 y v q1 ev' (by rcases q2 with z | z; exact .inr (.inl z); exact .inr (.inr z))
        refine ⟨u, r, .inr ⟨relabel_free q3, ?_⟩⟩
        obtain ⟨c, e⟩ := Option.isSome_iff_exists.mp (clGo_has (env := X.env) (acc := []) (PySem.mem_of_lookup q3))
        refine ⟨c, e, ?_⟩
        rcases lk with ⟨k, _⟩ | ⟨_, c', e', z⟩
        · rcases q2 with w | w
          · rw [show X.env.kindOf y = _ from w] at k; cases k
          · rw [show X.env.kindOf y = _ from w] at k; cases k
        · rw [clk y c e] at e'
          cases e'
          obtain ⟨o, ho, hd⟩ := z
          exact ⟨o, old4 _ _ ho, hd⟩
    · obtain ⟨v, o, ho, hd⟩ := I3.cell y c (clk y c e)
      exact ⟨v, o, old4 _ _ ho, hd⟩
    · have hp' : p ∈ X.pn ++ pins := by simpa [cxT] using hp
      obtain ⟨e, n, ne, nf, d⟩ := I3.pin p hp'
      exact ⟨old4 _ _ e, n, Nat.ne_of_lt (Heap.lt_size e), fun z => (List.mem_cons.mp (I3.stkSub p.1 z)).elim ne nf, d⟩
    · simp [ρT, cxT]
  have fpX : ∀ {H' : Hp}, (∀ b ∈ fp, H' b = none) → ∀ b ∈ fp, FpOk (cxT X scope xs fv s₃.heap.objs.size s₃ H3 fp (X.pn ++ pins)) [] H' b := fun hn b hb =>
    ⟨hn b hb, Nat.ne_of_lt (by show b < s₃.heap.objs.size; rw [hsz3]; exact Nat.lt_succ_of_lt (lt2 b hb)), okX.exfs b hb, .inl hb, (okX.exf b hb).2, fun p hp => by
      have hp' : p ∈ X.pn ++ pins := by simpa [cxT] using hp
      exact (f2 b hb).2.2.2.2.2 p hp'⟩
  have tn4 : tn 0 h₁ := T.keep _ _ _ st2 fun b _ o e => old4 b o (old3 b o e)
  have fr4 : ∀ b ∈ fp, H3 b = none := fun b hb => by
    rw [← hH3, upd_ne (Nat.ne_of_lt (lt2 b hb))]
    exact (f2 b hb).1
  have back : ∀ {H' : Hp} {σ' : St} {pl : List (Addr × Obj)} {s' : Shared}, Inv (cxT X scope xs fv s₃.heap.objs.size s₃ H3 fp (X.pn ++ pins)) pl σ' H' s' → Inv X pins σ H' s' ∧ (∃ m, s'.heap.Ns s₃.heap.objs.size m) ∧ FpOk X pins H' s₃.heap.objs.size := fun {H' σ' pl s'} I' => by
    refine ⟨I3.call' I'.os I'.base I'.hok I'.bare fun b hb => ⟨(f2 b hb).2.2.2.1, (f2 b hb).2.1, (f2 b hb).2.2.2.2.1, (f2 b hb).2.2.2.2.2⟩, ?_, I3.fpOk (Nat.le_refl _) I'.free⟩
    obtain ⟨m, hn, _⟩ := I'.loc
    exact ⟨m, hn⟩
  obtain ⟨W, ⟨m0, w0⟩, turn⟩ := hw s₂.heap.objs.size hD0
  rw [hH3] at w0
  have loop : codeAny (model X.prog X.w) X.A (.compLoop e 0 (.ref it) (.ref s₂.heap.objs.size) (cxT X scope xs fv s₃.heap.objs.size s₃ H3 fp (X.pn ++ pins)).env)
      (RR (.ref s₂.heap.objs.size) s₃.heap.objs.size) { s₃ with heap := h₁, toks := s₃.toks + ([] : List (Str × Value)).length } := by
    refine codeAny_loop rfl (fun n s' => ∃ i H', Inv (cxT X scope xs fv s₃.heap.objs.size s₃ H3 fp (X.pn ++ pins)) [] (ρT xs fv σ) H' s' ∧ tn i s'.heap ∧ (∀ b ∈ fp, H' b = none) ∧ W i n H') (fun n s5 hI => ?_) m0 ⟨0, H3, I4, tn4, fr4, w0⟩
    obtain ⟨i, H5, I5, st5, fr5, w5⟩ := hI
    rw [hund, hden]
    refine wpAny_noted ?_
    rw [hturn]
    refine wpAny_bind (wpAny_standAt (wpAny_bind ?_))
    rcases turn i n H5 w5 with ⟨stop, qn⟩ | ⟨go, N, hN, step⟩
    · refine wpAny_mono (T.done (cxT X scope xs fv s₃.heap.objs.size s₃ H3 fp (X.pn ++ pins)) rfl rfl rfl hc i [] s5 _ H5 (fun _ _ => False) I5 (fpX fr5) st5 stop) (fun r s6 ⟨hr, I6⟩ => ?_) fun _ _ z => z.elim
      subst hr
      obtain ⟨b1, ⟨m, b2⟩, b3⟩ := back I6
      exact wpAny_pure (hRR _ _ _ _ _ b1 qn b2 b3)
    · refine wpAny_mono (T.item (cxT X scope xs fv s₃.heap.objs.size s₃ H3 fp (X.pn ++ pins)) rfl rfl rfl hc i [] s5 _ H5 (fun _ _ => False) I5 (fpX fr5) st5 go) (fun r s6 ⟨u, hr, h6⟩ => ?_) fun _ _ z => z.elim
      subst hr
      refine wpAny_bind (wpAny_mono h6 (fun _ s7 ⟨y, H7, I7, r7, y7, st7, fr7⟩ => ?_) fun _ _ z => z.elim)
      have I7' := I7.pinned (fpX fr7) (T.obj _ _ st7)
      refine wpAny_bind (wpAny_mono (hg _ _ _ _ _ _ s7 _ H7 y u _ I7' r7 (step y H7 y7)) (fun _ s8 ⟨σ8, H8, I8, keep8, q8⟩ => ?_) fun _ _ z => z.elim)
      have again : ∀ {H9 : Hp} {s9 : Shared}, Inv (cxT X scope xs fv s₃.heap.objs.size s₃ H3 fp (X.pn ++ pins)) ([] ++ pinsAt fp s7.heap) σ8 H9 s9 → (∃ m', m' < n ∧ W (i + 1) m' H9) →
          ∃ m, m < n ∧ ∃ i H', Inv (cxT X scope xs fv s₃.heap.objs.size s₃ H3 fp (X.pn ++ pins)) [] (ρT xs fv σ) H' s9 ∧ tn i s9.heap ∧ (∀ b ∈ fp, H' b = none) ∧ W i m H' := fun {H9 s9} I9 ⟨m', hm, w9⟩ => by
        refine ⟨m', hm, i + 1, H9, (I9.unpinned).weak (by rw [I9.len]; simp [ρT, cxT]) (fun j v e => keepT_of keep8 e), T.keep _ _ _ st7 fun b hb o e => (I9.pin (b, o) (List.mem_append_right _ (List.mem_append_right _ (mem_pinsAt hb e)))).1, fun b hb => ?_, w9⟩
        obtain ⟨o, e, d⟩ := T.obj _ _ st7 b hb
        exact (I9.pin (b, o) (List.mem_append_right _ (List.mem_append_right _ (mem_pinsAt hb e)))).2.1
      refine wpAny_bind (wpAny_mono (ht _ _ _ _ _ _ s8 _ H8 _ I8 q8) (fun ok s9 ⟨H9, I9, q9⟩ => ?_) fun _ _ z => z.elim)
      cases ok with
      | false =>
        rw [if_neg (by simp)] at q9
        exact wpAny_pure ⟨rfl, again I9 (hN _ q9)⟩
      | true =>
        rw [if_pos rfl] at q9
        refine wpAny_bind (wpAny_mono (he _ _ _ _ _ _ s9 _ H9 _ _ I9 q9) (fun _ s11 ⟨H11, I11, q11⟩ => ?_) fun _ _ z => z.elim)
        exact wpAny_pure ⟨rfl, again I11 (hN _ q11)⟩
  exact hstart _ _ _ _ _ loop (T.self X.A 0 _ _ _ tn4 loop)
end
end L2
namespace L2
open PySem PySem.Spec PyProof.Rows
section
variable {X : Cx} {pins : List (Addr × Obj)} {σ : St} {H : Hp} {s : Shared} {scope : Scope} {xs : List Str} {fv : List (Str × Nat)} {elt kx vx tg iter : Expr} {ifs : List Expr} {pos : Pos} {tt : TT} {te tk tv : TE} {g : TG}
def tbL (te : TE) : TB := fun D σ H N => te σ H fun y H3 => ∃ ys, H3 D = some (.lst ys) ∧ ys.length < sizeLine ∧ N (upd H3 D (.lst (ys ++ [y])))
abbrev bodyL (elt : Expr) : Addr → Env → Sem Unit := fun D env => do let _ ← call (.builtin "list.append") [.ref D, ← eval elt env]
theorem pb_list (he : PE X elt te) : PB X (bodyL elt) (tbL te) := by
  intro pins s σ H D N I h
  refine wpAny_bind (thn (he pins s σ H _ I h) fun v s1 ⟨y, H1, I1, r1, ys, hD, hz, q⟩ => ?_)
  refine wpAny_bind (wpAny_mono (mt_append pins s1 σ H1 (.ref D) [y] (.ref D) [v] (fun _ H2 => H2 = upd H1 D (.lst (ys ++ [y]))) I1 rfl (.cons r1 .nil) ⟨_, ys, y, rfl, rfl, hD, hz, rfl⟩) (fun _ s2 ⟨_, H2, I2, _, e2⟩ => ?_) fun _ _ z => z)
  subst e2
  exact wpAny_pure ⟨_, I2, q⟩
theorem new_list : NewAcc X (newList []) (.lst []) := by
  intro pins σ H s E Q I h
  refine wpAny_newObj_type (h _ (I.lnew (t' := s.toks) (its := []) .nil (Nat.zero_le _)) (Heap.size_push ..) fun b o e => Heap.get?_push_of_some _ e)
theorem hclT (I : Inv X pins σ H s) (S : CompOkT scope xs fv) (hv : FvOk X scope fv) : closureFor scope X.env = pure (clOf scope X.env) := closure_eq fun p hp hk => by
  obtain ⟨q, hq, e⟩ := List.mem_map.mp (S.fr _ hp hk)
  obtain ⟨j, hj⟩ := List.getElem?_of_mem hq
  have z := (hv.get hj).2.1
  rw [e] at z
  exact Option.isSome_iff_exists.mpr (I.ok.has _ z)
theorem pe_compL {wi : TI} (hc : X.calm = true) (hs : compOkT scope xs fv = true) (hv : FvOk X scope fv) (hi : PI X tg iter wi) (hg : ∀ C s₀ H₀ ex pn, PG (cxT X scope xs fv C s₀ H₀ ex pn) tg g)
    (ht : ∀ C s₀ H₀ ex pn, PTl (cxT X scope xs fv C s₀ H₀ ex pn) ifs tt) (he : ∀ C s₀ H₀ ex pn, PE (cxT X scope xs fv C s₀ H₀ ex pn) elt te)
    (hf : ∀ x, foldedSetIterable iter X.env x = pure x := by intro _; rfl) : PE X (.ListComp elt [⟨tg, iter, ifs, 0⟩] scope pos) (tCompT (.lst []) wi xs fv g tt (tbL te)) := by
  intro pins s σ H Q I h
  have S := compOkT_of hs
  rw [eval_ListComp]
  refine wpAny_comprehension_free (use := none) rfl hf (hclT I S hv) S.kind S.names (thn (hi pins s σ H _ I h) fun v s1 h1 => thn h1 fun itv s2 h2 => ?_)
  obtain ⟨it, fp, tn, J, H2, e, I2, T, st2, f2, hw⟩ := h2
  subst e
  refine comp_blockT (e := .ListComp elt [⟨tg, iter, ifs, 0⟩] scope pos) (iter := iter) (RR := fun acc C => compPost (model X.prog X.w) X.A X.xe none (EP X pins σ Q) acc C) hc S hv ht hg (fun C s₀ H₀ ex pn => pb_list (he C s₀ H₀ ex pn)) new_list (fun _ _ _ => rfl) (fun _ _ _ => rfl) (fun it D env => compTurn_list ..) (fun _ _ _ _ _ a b => codeAny_compStart_list a b) I2 T st2 f2 hw ?_
  intro D C s' H' m I' q hn fC
  exact ⟨m, hn, fun h' hs' => ⟨.ref D, H', I'.turned (t' := s'.toks) (fun b o hb e => (hs'.2 b hb).trans e) fC.1 fC.2.1 fC.2.2.2.1 fC.2.2.2.2.1 fC.2.2.2.2.2, rfl, q⟩⟩
end
end L2
set_option Elab.async false
set_option linter.all false
set_option maxRecDepth 100000
namespace L2
open PySem PySem.Spec PyProof.Rows
end L2
set_option Elab.async false
set_option linter.all false
set_option maxRecDepth 100000
namespace L2
open PySem PySem.Spec PyProof.Rows
section
variable {P : Program} {w : World} {A : Around} {R : Result → Shared → Prop} {J S : Addr} {fp wr : List Addr} {n : Nat} {Pv : Nat → Value → Prop} {St : Nat → Heap → Prop}
end
end L2
set_option Elab.async false
set_option linter.all false
set_option maxRecDepth 100000
namespace L2
open PySem PySem.Spec PyProof.Rows
end L2
set_option Elab.async false
set_option linter.all false
set_option maxRecDepth 100000
namespace L2
open PySem PySem.Spec PyProof.Rows
open AutoSeq1 (wpAny_loadPart')
section
variable {prog : Program} {w : World} {A : Around} {E : Value → Shared → Prop} {s : Shared}
end
def iSeq (K : PySem.W.Frag) (tl : TE) : TI := fun σ H R => tl σ H fun x H1 => ∃ a, x = .ref a ∧ ((∃ xs, SqL K H1 a xs) ∧ R (Itl K a) H1 ∨ (∃ xs, SqT K H1 a xs) ∧ R (Itt K a) H1)
theorem pi_seq {X : Cx} {tg l : Expr} {tl : TE} (hl : PE X l tl) : PI X tg l (iSeq X.K tl) := by
  intro pins s σ H R I h
  refine thn (hl pins s σ H _ I h) fun v s1 ⟨x, H1, I1, r1, a, e, q⟩ => ?_
  subst e
  cases r1
  have fp : ∀ b ∈ [s1.heap.objs.size], FpOk X pins H1 b := fun b hb => by rw [List.mem_singleton.mp hb]; exact I1.fpOk (Nat.le_refl _) (I1.hok.fresh (Nat.le_refl _))
  rcases q with ⟨⟨xs, hq⟩, q⟩ | ⟨⟨xs, hq⟩, q⟩
  · obtain ⟨its, rv, pl, hz⟩ := I1.list hq
    exact wpAny_pyIter_list pl.isList ⟨s1.heap.objs.size, [s1.heap.objs.size], _, _, H1, rfl, I1.kept (t' := s1.toks) fun b o e => Heap.get?_push_of_some _ e, turn_list a _, ⟨_, Heap.get?_push_size _ rfl, rfl, rfl⟩, fp, q⟩
  · obtain ⟨its, rv, pl, hz⟩ := I1.tuple hq
    exact wpAny_pyIter_tuple (show s1.heap.IsTuple a its.toArray from pl) ⟨s1.heap.objs.size, [s1.heap.objs.size], _, _, H1, rfl, I1.kept (t' := s1.toks) fun b o e => Heap.get?_push_of_some _ e, turn_tuple a _, ⟨_, Heap.get?_push_size _ rfl, rfl, rfl⟩, fp, q⟩
end L2
set_option Elab.async false
set_option linter.all false
set_option maxRecDepth 100000
namespace L2
open PySem PySem.Spec PyProof.Rows
section
variable {X : Cx} {pins : List (Addr × Obj)} {σ : St} {H : Hp} {s : Shared}
theorem ty_kitx {x : V} {u t : Value} (I : Inv X pins σ H s) (rx : RelV x u) (ty : TyOf X.K H x t) : ∃ HH : Heap → Prop, PySem.W.KitX X.K u t HH ∧ HH s.heap ∧ u ≠ .builtin "__main__.__loader__#opaque" := by
  cases ty with
  | non => cases (show u = Value.none from rx); exact ⟨_, PySem.W.kitx_none, True.intro, fun z => nomatch z⟩
  | bl y => cases (show u = Value.bool y from rx); exact ⟨_, PySem.W.kitx_bool, True.intro, fun z => nomatch z⟩
  | int i => obtain ⟨t, q⟩ := (show ∃ t, u = Value.int i t from rx); cases q; exact ⟨_, PySem.W.kitx_int, True.intro, fun z => nomatch z⟩
  | str y => obtain ⟨t, q⟩ := (show ∃ t, u = Value.str y t from rx); cases q; exact ⟨_, PySem.W.kitx_str, True.intro, fun z => nomatch z⟩
  | flt y => obtain ⟨t, q⟩ := (show ∃ t, u = Value.float y t from rx); cases q; exact ⟨_, PySem.W.kitx_float, True.intro, fun z => nomatch z⟩
  | @lst a xs ea =>
    cases (show u = Value.ref a from rx)
    obtain ⟨_, _, n, _, h1⟩ := (show ObjOk X.prog X.w H s.heap a (.lst xs) from I.hok a _ ea)
    exact ⟨_, PySem.W.kitx_list, ⟨_, h1, rfl⟩, fun z => nomatch z⟩
  | @frz a ob xs ea =>
    cases (show u = Value.ref a from rx)
    obtain ⟨_, _, _, n, _, h1⟩ := (show ObjOk X.prog X.w H s.heap a (.frz ob (.lst xs)) from I.hok a _ ea)
    exact ⟨_, PySem.W.kitx_list, ⟨_, h1, rfl⟩, fun z => nomatch z⟩
  | @tup a xs ea =>
    cases (show u = Value.ref a from rx)
    obtain ⟨_, _, _, p⟩ := (show ObjOk X.prog X.w H s.heap a (.tup xs) from I.hok a _ ea)
    obtain ⟨o, h1, h2, _⟩ := p
    exact ⟨_, PySem.W.kitx_tuple, ⟨o, h1, h2⟩, fun z => nomatch z⟩
  | @dK a kvs ea =>
    cases (show u = Value.ref a from rx)
    obtain ⟨_, _, vs, _, p⟩ := (show ObjOk X.prog X.w H s.heap a (.dK kvs) from I.hok a _ ea)
    obtain ⟨o, es, ep, h1, h2, _⟩ := p
    exact ⟨_, PySem.W.kitx_dict, ⟨o, h1, h2.1⟩, fun z => nomatch z⟩
  | @dT a kvs ea =>
    cases (show u = Value.ref a from rx)
    obtain ⟨_, _, xs, _, o, es, ep, h1, h2, _⟩ := (show ObjOk X.prog X.w H s.heap a (.dT kvs) from I.hok a _ ea)
    exact ⟨_, PySem.W.kitx_dict, ⟨o, h1, h2.1⟩, fun z => nomatch z⟩
  | @ins a C dx fs ea cl ha hn htk hm =>
    cases (show u = Value.ref a from rx)
    obtain ⟨mA, O, _⟩ := ins_get I.hok ea
    obtain ⟨od, J, _⟩ := O.look
    exact ⟨_, PySem.W.kitx_own (cl.get _) cl.hd ha hn htk hm, J, fun z => nomatch z⟩
theorem vals_ty : ∀ {cs : List String} {us : List Value}, Vals (cs.map V.ty) us → us = cs.map Value.type
  | [], _, .nil => rfl
  | c :: cs, _, .cons r t => by rw [vals_ty t, show _ = Value.type c from r]; rfl
def rInstT (K : PySem.W.Frag) : List V → Hp → VK → Prop := fun xs H Q => ∃ (x : V) (t : Value) (p : Addr) (cs : List String) (b : Bool), xs = [x, .ref p] ∧ TyOf K H x t ∧ H p = some (.tup (cs.map V.ty)) ∧ PySem.W.kitAny K t (cs.map Value.type) = some b ∧ Q (.bl b) H
theorem call_instT : CallR X (.builtin "isinstance") (rInstT X.K) := by
  intro pins s σ H xs us Q I r h
  obtain ⟨x, t, p, cs, b, rfl, ty, hp, e, q⟩ := h
  obtain ⟨u, w', rfl, r1, r2⟩ := vals2 r
  cases r2
  obtain ⟨HH, kx, hh, ne⟩ := ty_kitx I r1 ty
  obtain ⟨_, its, rv, ⟨oc, od, odt, osl⟩, h1, h2, n, h3⟩ := (show ObjOk X.prog X.w H s.heap p (.tup (cs.map V.ty)) from I.hok p _ hp)
  obtain rfl : oc = .type "tuple" := h2
  obtain rfl : odt = .seq its.toArray n := h3
  rw [← vals_ty rv] at e
  exact PySem.W.kia_tup kx I.kIn hh h1 e ne fun tk => ⟨.bl b, H, I.tok _, rfl, q⟩
end
theorem compT_of {o0 : HO} {xs : List Str} {fv : List (Str × Nat)} {g : TG} {tt : TT} {tb : TB} {σ : St} {J : It} {H1 : Hp} {Q : VK} (n : Nat) (Pv : Nat → Addr → Hp → Prop) (h0 : ∀ D, H1 D = none → Pv 0 D (upd H1 D o0))
    (hgo : ∀ i D H, H1 D = none → i < n → Pv i D H → J.go i H) (hst : ∀ D H, H1 D = none → Pv n D H → J.stop n H)
    (hs : ∀ i D H x H', H1 D = none → i < n → Pv i D H → J.yld i H x H' → g x (ρT xs fv σ) H' fun σ2 H2 => KeepT xs (ρT xs fv σ) σ2 ∧ tt σ2 H2 fun b H3 => if b = true then tb D σ2 H3 (Pv (i + 1) D) else Pv (i + 1) D H3)
    (hd : ∀ D H, H1 D = none → Pv n D H → Q (.ref D) H) : wCompT o0 xs fv g tt tb σ J H1 Q := by
  intro D hD
  refine ⟨fun i m H => m = n - i ∧ i ≤ n ∧ Pv i D H, ⟨n, by simp, Nat.zero_le _, h0 D hD⟩, ?_⟩
  rintro i m H ⟨rfl, hi, p⟩
  by_cases hlt : i < n
  · exact .inr ⟨hgo i D H hD hlt p, Pv (i + 1) D, fun H' p' => ⟨n - (i + 1), by omega, rfl, hlt, p'⟩, fun x H' y => hs i D H x H' hD hlt p y⟩
  · obtain rfl : i = n := by omega
    exact .inl ⟨hst D H hD p, hd D H hD p⟩
theorem for_of {J : It} {g : TG} {tb : TS} {D : Ends} {σ : St} {H : Hp} (n : Nat) (Pv : Nat → St → Hp → Prop) (h0 : Pv 0 σ H) (hgo : ∀ i σ H, i < n → Pv i σ H → J.go i H) (hst : ∀ σ H, Pv n σ H → J.stop n H)
    (hs : ∀ i σ H x H', i < n → Pv i σ H → J.yld i H x H' → g x σ H' fun σ2 H2 => tb { D with nx := Pv (i + 1), ct := Pv (i + 1), bk := D.nx } σ2 H2) (hd : ∀ σ H, Pv n σ H → D.nx σ H) :
    ∃ W : Nat → Nat → St → Hp → Prop, (∃ m, W 0 m σ H) ∧ ∀ i m σ H, W i m σ H →
      (J.stop i H ∧ D.nx σ H) ∨ (J.go i H ∧ ∃ N : St → Hp → Prop, (∀ σ' H', N σ' H' → ∃ m', m' < m ∧ W (i + 1) m' σ' H') ∧ ∀ x H', J.yld i H x H' → g x σ H' fun σ2 H2 => tb { D with nx := N, ct := N, bk := D.nx } σ2 H2) := by
  refine ⟨fun i m σ H => m = n - i ∧ i ≤ n ∧ Pv i σ H, ⟨n, by simp, Nat.zero_le _, h0⟩, ?_⟩
  rintro i m σ H ⟨rfl, hi, p⟩
  by_cases hlt : i < n
  · exact .inr ⟨hgo i σ H hlt p, Pv (i + 1), fun σ' H' p' => ⟨n - (i + 1), by omega, rfl, hlt, p'⟩, fun x H' y => hs i σ H x H' hlt p y⟩
  · obtain rfl : i = n := by omega
    exact .inl ⟨hst σ H p, hd σ H p⟩
theorem ndT {X : Cx} {scope : Scope} {xs : List Str} {fv : List (Str × Nat)} {C : Addr} {s₀ : Shared} {H₀ : Hp} {ex : List Addr} {pn : List (Addr × Obj)} (h : compOkT scope xs fv = true) : (cxT X scope xs fv C s₀ H₀ ex pn).N.Nodup := (compOkT_of h).nd
end L2
set_option Elab.async false
set_option linter.all false
set_option maxRecDepth 100000
namespace L2
open PySem PySem.Spec PyProof.Rows PySem.W
structure Lin (α : Type) where
  lt : α → α → Bool
  asym : ∀ a b, lt a b = true → lt b a = false
  trans : ∀ a b c, lt b a = false → lt c b = false → lt c a = false
  anti : ∀ a b, lt a b = false → lt b a = false → a = b
section
variable {n : Nat} {r : Nat → Nat → Bool}
end
section
variable {κ : Type} (O : Lin κ) (g : Nat → κ) {n : Nat}
def Lin.le (a b : κ) : Prop := O.lt b a = false
structure Pm (n : Nat) (p : Array Nat) : Prop where
  perm : p.Perm (List.toArray (List.range n))
end
end L2
set_option Elab.async false
set_option linter.all false
set_option maxRecDepth 100000
namespace L2
open PySem PySem.Spec PyProof.Rows
mutual
inductive DV (K : PySem.W.Frag) (H : Hp) : V → PyData → Prop
  | non : DV K H .non .none
  | bl (b : Bool) : DV K H (.bl b) (.bool b)
  | int (i : Int) : DV K H (.int i) (.int i)
  | str (x : Str) : DV K H (.str x) (.str x)
  | lst {a : Addr} {xs : List V} {ds : List PyData} : SqL K H a xs → DVs K H xs ds → DV K H (.ref a) (.list ds)
  | tup {a : Addr} {xs : List V} {ds : List PyData} : SqT K H a xs → DVs K H xs ds → DV K H (.ref a) (.tuple ds)
inductive DVs (K : PySem.W.Frag) (H : Hp) : List V → List PyData → Prop
  | nil : DVs K H [] []
  | cons {x : V} {xs : List V} {d : PyData} {ds : List PyData} : DV K H x d → DVs K H xs ds → DVs K H (x :: xs) (d :: ds)
end
theorem DVs.ints {K : PySem.W.Frag} {H : Hp} : ∀ ns : List Int, DVs K H (ns.map V.int) (ns.map PyData.int)
  | [] => .nil
  | n :: r => .cons (.int n) (DVs.ints r)
theorem SqT.mono {K : PySem.W.Frag} {H H' : Hp} {a : Addr} {xs : List V} (e : Same H H') (h : SqT K H a xs) : SqT K H' a xs := by
  rcases h with (h | ⟨o, h⟩) | h
  · exact .inl (.inl (e _ _ h))
  · exact .inl (.inr ⟨o, e _ _ h⟩)
  · exact .inr h
section
variable {X : Cx} {pins : List (Addr × Obj)} {σ : St} {H : Hp} {s : Shared}
mutual
theorem DV.reads (I : Inv X pins σ H s) : ∀ {v : V} {d : PyData} {u : Value}, DV X.K H v d → RelV v u → ∃ as, Reads s.heap u d as
  | _, _, _, .non, r => by cases r; exact ⟨_, .none⟩
  | _, _, _, .bl b, r => by cases r; exact ⟨_, .bool b⟩
  | _, _, _, .int i, r => by obtain ⟨t, rfl⟩ := r; exact ⟨_, .int i t⟩
  | _, _, _, .str x, r => by obtain ⟨t, rfl⟩ := r; exact ⟨_, .str x t⟩
  | _, _, _, .lst hq hs, r => by
    cases r
    obtain ⟨its, rv, ⟨o, n, e, c, _, d⟩, _⟩ := I.list hq
    obtain ⟨as, q⟩ := DVs.reads I hs rv
    exact ⟨_, .list e c d (by simpa using q)⟩
  | _, _, _, .tup hq hs, r => by
    cases r
    obtain ⟨its, rv, p, _⟩ := I.tuple hq
    obtain ⟨as, q⟩ := DVs.reads I hs rv
    obtain ⟨o, e, c, n, d⟩ := p
    exact ⟨_, .tuple e c d (by simpa using q)⟩
theorem DVs.reads (I : Inv X pins σ H s) : ∀ {vs : List V} {ds : List PyData} {us : List Value}, DVs X.K H vs ds → Vals vs us → ∃ as, ReadsAll s.heap us ds as
  | _, _, _, .nil, .nil => ⟨_, .nil⟩
  | _, _, _, .cons h t, .cons r rs => by
    obtain ⟨as, q⟩ := DV.reads I h r
    obtain ⟨bs, q'⟩ := DVs.reads I t rs
    exact ⟨_, .cons q q'⟩
end
end
section
variable {X : Cx} {k : Nat}
def rRepr (K : PySem.W.Frag) : List V → Hp → VK → Prop := fun xs H Q => ∃ x d, xs = [x] ∧ DV K H x d ∧ d.showable = true ∧ d.hasDict = false ∧ d.depth ≤ 100 ∧ d.shown.length ≤ sizeLine ∧ Q (.str d.shown) H
theorem call_repr (hr : Room k X.A) : CallR X (.builtin "repr") (rRepr X.K) := by
  intro pins s σ H xs us Q I r h
  obtain ⟨x, d, rfl, hd, h1, h2, h3, h4, q⟩ := h
  obtain ⟨u, rfl, ru⟩ := vals1 r
  obtain ⟨as, rd⟩ := hd.reads I ru
  have fin : ∀ t : Tok, ∀ tk, EP X pins σ Q (.str d.shown t) { s with toks := tk } := fun t tk => ⟨.str d.shown, H, I.tok _, ⟨_, rfl⟩, q⟩
  cases hd with
  | non => cases ru; exact PySem.P.repr_of_none (fin _ _)
  | bl b =>
    cases ru
    refine PySem.P.repr_of_bool ?_
    have e : (PyData.bool b).shown = (if b then "True" else "False" : Str) := PyData.shown_bool b
    rw [e] at fin
    cases b <;> exact fin _ _
  | int i => obtain ⟨t, rfl⟩ := ru; exact PySem.P.repr_of_int (by simpa [PyData.showable] using h1) (by have := fin s.toks (s.toks + 1); rw [PyData.shown_int] at this; exact this)
  | str y => obtain ⟨t, rfl⟩ := ru; exact PySem.P.repr_of_str (by have := fin s.toks (s.toks + 1); rw [PyData.shown_str] at this; exact this) (by rw [PyData.shown_str] at h4; exact h4)
  | @lst a xs ds hq hs =>
    cases ru
    exact repr_of_reads' rd h1 (fun z => by rw [h2] at z; cases z) hr.gd (by have := hr.un; omega) (fun _ _ e => e) (fun h' u tk hk => ⟨.str _, H, I.kept (t' := tk) hk, ⟨_, rfl⟩, q⟩) h4
  | @tup a xs ds hq hs =>
    cases ru
    exact repr_of_reads' rd h1 (fun z => by rw [h2] at z; cases z) hr.gd (by have := hr.un; omega) (fun _ _ e => e) (fun h' u tk hk => ⟨.str _, H, I.kept (t' := tk) hk, ⟨_, rfl⟩, q⟩) h4
def rEqD (K : PySem.W.Frag) (neg : Bool) : R2 := fun x y H Q => ∃ d e, DV K H x d ∧ DV K H y e ∧ d.canLay0 = true ∧ e.canLay0 = true ∧ d.depth ≤ 100 ∧ Q (.bl (if neg then !PyData.eqv d e else PyData.eqv d e)) H
theorem op_neD (hr : Room k X.A) : OpR X (compareOp .NotEq) (rEqD X.K true) := by
  intro pins s σ H x y v u Q I rx ry h
  obtain ⟨d, e, hd, he, h1, h2, h3, q⟩ := h
  obtain ⟨as, r1⟩ := hd.reads I rx
  obtain ⟨bs, r2⟩ := he.reads I ry
  refine SeqAt.compareNe_reads r1 r2 h1 h2 (by have := hr.un; have := Nat.min_le_left d.depth e.depth; omega) ?_
  exact ⟨.bl _, H, I, rfl, q⟩
def rInst (K : PySem.W.Frag) : List V → Hp → VK → Prop := fun xs H Q => ∃ x t n b, xs = [x, .ty n] ∧ TyOf K H x t ∧ PySem.W.kitOne K t (.type n) = some b ∧ Q (.bl b) H
theorem call_inst : CallR X (.builtin "isinstance") (rInst X.K) := by
  intro pins s σ H xs us Q I r h
  obtain ⟨x, t, n, b, rfl, ty, e, q⟩ := h
  obtain ⟨u, w', rfl, r1, r2⟩ := vals2 r
  cases r2
  exact isinst_ok I r1 ty e fun tk => ⟨.bl b, H, I.tok _, rfl, q⟩
end
end L2
set_option Elab.async false
set_option linter.all false
set_option maxRecDepth 100000
namespace L2
open PySem PySem.Spec PyProof.Rows PySem.W
def keyLt (a b : Int × List Int) : Bool := if a.1 = b.1 then HT.lexLt a.2 b.2 else decide (a.1 < b.1)
section
variable {X : Cx} {pins : List (Addr × Obj)} {σ : St} {H : Hp} {s : Shared}
theorem Inv.take {D : Addr} {o : HO} (I : Inv X pins σ H s) (f : FpOk X pins H D) (hs : X.s₀.heap.objs.size ≤ D) (new : ObjOk X.prog X.w (upd H D o) s.heap D o) : Inv X pins σ (upd H D o) s := by
  obtain ⟨f0, f1, f2, _, f4, f5⟩ := f
  have ne : ∀ b ob, X.s₀.heap.get? b = some ob → b ≠ D := fun b ob e => Nat.ne_of_lt (Nat.lt_of_lt_of_le (Heap.lt_size e) hs)
  have nH : ∀ b u, H b = some u → b ≠ D := fun b u e z => by rw [z, f0] at e; cases e
  refine ⟨I.ok, I.os, I.bare, ⟨fun b ob e n hb hx => I.base.keep b ob e n hb hx, fun b ob e n hb hx => I.base.slot b ob e n hb hx, fun b ob e n hx => ?_, I.base.there, fun b xs e => ?_, fun b ob xs e => ?_, fun b ps e => ?_⟩, I.loc, I.cell, ?_, fun y c e => ?_, fun p hp => ?_, fun b u e => ?_, I.len⟩
  · rw [upd_ne (ne b ob e)]; exact I.base.free b ob e n hx
  · rw [upd_ne (nH b _ (I.base.tups b xs e))]; exact I.base.tups b xs e
  · rw [upd_ne (nH b _ (I.base.frzs b ob xs e))]; exact I.base.frzs b ob xs e
  · obtain ⟨m, q⟩ := I.base.tbls b ps e
    exact ⟨m, by rw [upd_ne (nH b _ q)]; exact q⟩
  · rw [upd_ne f1.symm]; exact I.free
  · rw [upd_ne (f4 y c e)]; exact I.freeC y c e
  · obtain ⟨z1, z2, z3⟩ := I.pin p hp
    exact ⟨z1, by rw [upd_ne (f5 p hp)]; exact z2, z3⟩
  · by_cases hb : b = D
    · subst hb; rw [upd_same] at e; cases e; exact new
    · rw [upd_ne hb] at e
      exact (I.hok b u e).stay (fun _ _ _ q => q) (fun c q => by rw [upd_ne (ne_of_none q f0)]; exact q) fun c xs q => by rw [upd_ne (ne_of_none q f0)]; exact q
theorem canLay_ints : ∀ ms : List Int, PyData.canLayAll0 (ms.map PyData.int) = true
  | [] => rfl
  | _ :: r => by show (true && PyData.canLayAll0 (r.map PyData.int)) = true; rw [canLay_ints r]; rfl
theorem depthAll_ints : ∀ ms : List Int, PyData.depthAll (ms.map PyData.int) ≤ 1
  | [] => by simp [PyData.depthAll]
  | m :: r => by
    have := depthAll_ints r
    simp only [List.map_cons, PyData.depthAll, PyData.depth]
    omega
structure KeyAt (X : Cx) (H : Hp) (s : Shared) (v : Value) (n : Int) (ms : List Int) : Prop where
  ex : ∃ (a b : Addr) (t : Tok) (o : Obj) (k : Nat) (its : List Value) (bs : List Addr), v = .ref a ∧ s.heap.get? a = some o ∧ o.cls = .type "tuple" ∧ o.data = .seq [.int n t, .ref b].toArray k ∧ IsTup s.heap b its.toArray ∧ IntsAre its ms ∧ Reads s.heap (.ref b) (.tuple (ms.map PyData.int)) bs
end
end L2
set_option Elab.async false
set_option linter.all false
set_option maxRecDepth 100000
namespace L2T
open PySem PyProof.Rows
structure Ord (R : Keyed → Keyed → Bool) : Prop where
  as : ∀ x y, R x y = true → R y x = false
  tr : ∀ x y z, R y x = false → R z y = false → R z x = false
structure Cmp (prog : Program) (w : World) (A : Around) (s : Shared) (κ : SortKind) (R : Keyed → Keyed → Bool) (P : Keyed → Prop) : Prop where
  ask : ∀ x y, P x → P y → ∀ (C : Bool → Shared → Prop) (E : Value → Shared → Prop), C (R x y) s → wpAny (model prog w) A (keyLt' κ x.1 y.1) C E s
def at_ (xs : Array Keyed) (i : Nat) : Keyed := xs.getD i (Value.none, Value.none)
section
variable {prog : Program} {w : World} {A : Around} {E : Value → Shared → Prop} {s : Shared} {κ : SortKind} {R : Keyed → Keyed → Bool} {P : Keyed → Prop} {st : SortSt}
def bey (R : Keyed → Keyed → Bool) (left : Bool) (key : Keyed) (xs : Array Keyed) (base i : Nat) : Bool := if left = true then R (at_ xs (base + i)) key else !R key (at_ xs (base + i))
structure Gal (R : Keyed → Keyed → Bool) (left : Bool) (key : Keyed) (xs : Array Keyed) (base n k : Nat) : Prop where
  le : k ≤ n
  lo : ∀ i, i < k → bey R left key xs base i = true
  hi : ∀ i, k ≤ i → i < n → bey R left key xs base i = false
end
end L2T
set_option Elab.async false
set_option linter.all false
set_option maxRecDepth 100000
namespace L2T
open PySem PyProof.Rows
def Srt (R : Keyed → Keyed → Bool) (xs : Array Keyed) : Prop := ∀ i j, i ≤ j → j < xs.size → R (at_ xs j) (at_ xs i) = false
structure Mg (R : Keyed → Keyed → Bool) (a b out : Array Keyed) (ia ib : Nat) : Prop where
  la : ia ≤ a.size
  lb : ib ≤ b.size
  perm : out.toList.Perm (a.toList.take ia ++ b.toList.take ib)
  srt : out.toList.Pairwise fun x y => R y x = false
  ua : ∀ x ∈ out.toList, ∀ i, ia ≤ i → i < a.size → R (at_ a i) x = false
  ub : ∀ x ∈ out.toList, ∀ i, ib ≤ i → i < b.size → R (at_ b i) x = false
structure Pre (R : Keyed → Keyed → Bool) (P : Keyed → Prop) (a b : Array Keyed) : Prop where
  sa : Srt R a
  sb : Srt R b
  na : 1 ≤ a.size
  nb : 1 ≤ b.size
  fst : R (at_ b 0) (at_ a 0) = true
  lst : ∀ j, j < b.size → R (at_ b j) (at_ a (a.size - 1)) = true
  pa : ∀ i, i < a.size → P (at_ a i)
  pb : ∀ i, i < b.size → P (at_ b i)
section
variable {prog : Program} {w : World} {A : Around} {E : Value → Shared → Prop} {s : Shared} {κ : SortKind} {R : Keyed → Keyed → Bool} {P : Keyed → Prop} {st : SortSt}
end
end L2T
set_option Elab.async false
set_option linter.all false
set_option maxRecDepth 100000
namespace L2T
open PySem PyProof.Rows
structure Hg (R : Keyed → Keyed → Bool) (a b out : Array Keyed) (na nb : Nat) : Prop where
  la : na ≤ a.size
  lb : nb ≤ b.size
  perm : out.toList.Perm (a.toList.drop na ++ b.toList.drop nb)
  srt : out.toList.reverse.Pairwise fun x y => R y x = false
  ua : ∀ x ∈ out.toList, ∀ i, i < na → R x (at_ a i) = false
  ub : ∀ x ∈ out.toList, ∀ i, i < nb → R x (at_ b i) = false
end L2T
set_option Elab.async false
set_option linter.all false
set_option maxRecDepth 100000
namespace L2T
open PySem PyProof.Rows
section
variable {prog : Program} {w : World} {A : Around} {E : Value → Shared → Prop} {s : Shared} {κ : SortKind} {R : Keyed → Keyed → Bool} {P : Keyed → Prop} {st : SortSt}
end
end L2T
set_option Elab.async false
set_option linter.all false
set_option maxRecDepth 100000
namespace L2T
open PySem PyProof.Rows
section
variable {prog : Program} {w : World} {A : Around} {E : Value → Shared → Prop} {s : Shared} {κ : SortKind} {R : Keyed → Keyed → Bool} {P : Keyed → Prop} {st : SortSt}
end
end L2T
set_option Elab.async false
set_option linter.all false
set_option maxRecDepth 100000
namespace L2T
open PySem PyProof.Rows
structure Bs (κ : SortKind) (a₀ : Array Keyed) (st : SortSt) : Prop where
  kind : kindOf st = κ
  failed : failedOf st = none
  perm : (arrOf st).Perm a₀
structure Upd (a₀ : Array Keyed) (κ : SortKind) (lo : Nat) (st st' : SortSt) : Prop where
  bs : Bs κ a₀ st'
  pend : pendingOf st' = pendingOf st
  low : ∀ k, k < lo → at_ (arrOf st') k = at_ (arrOf st) k
section
variable {prog : Program} {w : World} {A : Around} {E : Value → Shared → Prop} {s : Shared} {κ : SortKind} {R : Keyed → Keyed → Bool} {a₀ : Array Keyed} {st : SortSt}
end
end L2T
set_option Elab.async false
set_option linter.all false
set_option maxRecDepth 100000
namespace L2T
open PySem PyProof.Rows
section
variable {prog : Program} {w : World} {A : Around} {E : Value → Shared → Prop} {s : Shared} {κ : SortKind} {R : Keyed → Keyed → Bool} {a₀ : Array Keyed} {st : SortSt}
end
end L2T
set_option Elab.async false
set_option linter.all false
set_option maxRecDepth 100000
namespace L2
open PySem PySem.Spec PyProof.Rows PySem.W
section
variable {X : Cx} {pins : List (Addr × Obj)} {σ : St} {H : Hp} {s : Shared} {k : Nat} {f D : Addr} {fd : FuncData} {pn : Str} {sp : Sp} {kf : V → Int × List Int} {xs : List V} {its : List Value} {kd : Int × List Int → PyData} {okk : Int × List Int → Prop} {KA : Hp → Shared → Value → Int → List Int → Prop}
structure KForm (X : Cx) (kd : Int × List Int → PyData) (okk : Int × List Int → Prop) (KA : Hp → Shared → Value → Int → List Int → Prop) : Prop where
  tup : ∀ a, ∃ ds, kd a = .tuple ds
  at_ : ∀ {pins : List (Addr × Obj)} {σ : St} {H : Hp} {s : Shared} {v : V} {u : Value} {n : Int} {ms : List Int}, Inv X pins σ H s → DV X.K H v (kd (n, ms)) → RelV v u → okk (n, ms) → KA H s u n ms
  ex : ∀ {H : Hp} {s : Shared} {v : Value} {n : Int} {ms : List Int}, KA H s v n ms → ∃ (a b : Addr) (t : Tok) (o : Obj) (k : Nat), v = .ref a ∧ s.heap.get? a = some o ∧ o.cls = .type "tuple" ∧ o.data = .seq [.int n t, .ref b].toArray k
  cmp : ∀ {H : Hp} {s : Shared} {A : Around} {E : Value → Shared → Prop} {u v : Value} {n m : Int} {ms ks : List Int} {C : Bool → Shared → Prop}, A.units + 10 < cLine → KA H s u n ms → KA H s v m ks → C (keyLt (n, ms) (m, ks)) s → wpAny (model X.prog X.w) A (keyLt' (tuples' true) u v) C E s
structure KeysTo (kd : Int × List Int → PyData) (K : PySem.W.Frag) (H : Hp) (kf : V → Int × List Int) (xs : List V) (ks : List Value) (i : Nat) : Prop where
  len : ks.length = i
  at' : ∀ j, j < i → ∃ a, ks[j]? = some (.ref a) ∧ DV K H (.ref a) (kd (kf (xs.getD j .non)))
end
end L2
set_option Elab.async false
set_option linter.all false
set_option maxRecDepth 100000
namespace L2
open PySem PySem.Spec PyProof.Rows
section
variable {X : Cx}
end
end L2
set_option Elab.async false
set_option linter.all false
set_option maxRecDepth 100000
namespace S
open PySem L2
def top (i : Nat) : Stmt := PySem.Challenge.pw_alwaysmeet_k06_refusals_apart.main.body.getD i (.Pass ⟨0, 0, 0, 0⟩)
def meth (c i : Nat) : Stmt := match top c with
  | .ClassDef _ _ _ b .. => b.getD i (.Pass ⟨0, 0, 0, 0⟩)
  | _ => .Pass ⟨0, 0, 0, 0⟩
abbrev sWhole : Stmt := top 24
abbrev sCommon : Stmt := top 26
abbrev sMakeA : Stmt := top 27
abbrev sIsShare : Stmt := top 28
abbrev sShareOf : Stmt := top 30
abbrev sCheckS : Stmt := top 31
abbrev sPlus : Stmt := top 33
abbrev sMinus : Stmt := top 34
abbrev sTimes : Stmt := top 35
abbrev sLess : Stmt := top 36
abbrev sSumS : Stmt := top 37
abbrev sShareText : Stmt := top 38
abbrev sBox : Stmt := top 40
abbrev sTake : Stmt := top 41
abbrev sLaw : Stmt := top 58
abbrev sMeetErrorInit : Stmt := meth 1 0
abbrev sNoHousesInit : Stmt := meth 2 0
abbrev sNoHouseInit : Stmt := meth 3 0
abbrev sNoSetInit : Stmt := meth 4 0
abbrev sTwiceInit : Stmt := meth 5 0
abbrev sNoLotsInit : Stmt := meth 6 0
abbrev sTooManyInit : Stmt := meth 7 0
abbrev sNoPlanInit : Stmt := meth 8 0
abbrev sNoTextInit : Stmt := meth 9 0
abbrev sNoShareInit : Stmt := meth 10 0
abbrev sNoNumberInit : Stmt := meth 11 0
abbrev sApartInit : Stmt := meth 12 0
abbrev sNoChanceInit : Stmt := meth 13 0
abbrev sNoDealingInit : Stmt := meth 14 0
abbrev sNoKindInit : Stmt := meth 15 0
abbrev sNoneStandsInit : Stmt := meth 16 0
abbrev sFallenInit : Stmt := meth 17 0
abbrev sStandingInit : Stmt := meth 18 0
abbrev sNoValueInit : Stmt := meth 19 0
abbrev sNoUndoInit : Stmt := meth 20 0
abbrev sNoSystemInit : Stmt := meth 21 0
abbrev sNoLineInit : Stmt := meth 22 0
abbrev s_law_common : Stmt := top 42
abbrev s_law_part : Stmt := top 43
abbrev s_law_share : Stmt := top 44
abbrev s_law_first_ones : Stmt := top 45
abbrev s_law_other_ones : Stmt := top 46
abbrev s_law_error : Stmt := top 47
abbrev s_law_kinds : Stmt := top 48
abbrev s_law_fields : Stmt := top 49
abbrev s_law_things : Stmt := top 50
abbrev s_law_made_right : Stmt := top 51
abbrev s_law_kept_right : Stmt := top 52
abbrev s_law_told : Stmt := top 53
abbrev s_law_is_share : Stmt := top 54
abbrev s_law_odd : Stmt := top 55
abbrev s_law_doors_right : Stmt := top 56
abbrev s_law_case : Stmt := top 57
end S
set_option Elab.async false
set_option linter.all false
set_option maxRecDepth 100000
namespace L2
open PySem PySem.Spec PyProof.Rows
end L2
set_option Elab.async false
set_option linter.all false
set_option maxRecDepth 100000
namespace L2
open PySem PySem.Spec PyProof.Rows
def At1 (a : Addr) (H H' : Hp) : Prop := ∀ o, H a = some o → H' a = some o
theorem SqL.at1 {K : PySem.W.Frag} {H H' : Hp} {a : Addr} {xs : List V} (e : At1 a H H') (h : SqL K H a xs) : SqL K H' a xs := by
  rcases h with (h | ⟨o, h⟩) | h
  · exact .inl (.inl (e _ h))
  · exact .inl (.inr ⟨o, e _ h⟩)
  · exact .inr h
theorem SqT.at1 {K : PySem.W.Frag} {H H' : Hp} {a : Addr} {xs : List V} (e : At1 a H H') (h : SqT K H a xs) : SqT K H' a xs := by
  rcases h with (h | ⟨o, h⟩) | h
  · exact .inl (.inl (e _ h))
  · exact .inl (.inr ⟨o, e _ h⟩)
  · exact .inr h
abbrev Sq (K : PySem.W.Frag) (H : Hp) (a : Addr) (xs : List V) : Prop := SqL K H a xs ∨ SqT K H a xs
theorem seq_for {K : PySem.W.Frag} {g : TG} {tb : TS} {D : Ends} {σ : St} {H1 : Hp} {a : Addr} {ys : List V} (sq : Sq K H1 a ys) (Pv : Nat → St → Hp → Prop) (h0 : Pv 0 σ H1) (hk : ∀ i σ H', Pv i σ H' → At1 a H1 H')
    (hs : ∀ i σ H' x, i < ys.length → ys[i]? = some x → Pv i σ H' → g x σ H' fun σ2 H2 => tb { D with nx := Pv (i + 1), ct := Pv (i + 1), bk := D.nx } σ2 H2) (hd : ∀ σ H', Pv ys.length σ H' → D.nx σ H') :
    (∃ xs, SqL K H1 a xs) ∧ (∃ W : Nat → Nat → St → Hp → Prop, (∃ m, W 0 m σ H1) ∧ ∀ i m σ H, W i m σ H →
      ((Itl K a).stop i H ∧ D.nx σ H) ∨ ((Itl K a).go i H ∧ ∃ N : St → Hp → Prop, (∀ σ' H', N σ' H' → ∃ m', m' < m ∧ W (i + 1) m' σ' H') ∧ ∀ x H', (Itl K a).yld i H x H' → g x σ H' fun σ2 H2 => tb { D with nx := N, ct := N, bk := D.nx } σ2 H2)) ∨
    (∃ xs, SqT K H1 a xs) ∧ (∃ W : Nat → Nat → St → Hp → Prop, (∃ m, W 0 m σ H1) ∧ ∀ i m σ H, W i m σ H →
      ((Itt K a).stop i H ∧ D.nx σ H) ∨ ((Itt K a).go i H ∧ ∃ N : St → Hp → Prop, (∀ σ' H', N σ' H' → ∃ m', m' < m ∧ W (i + 1) m' σ' H') ∧ ∀ x H', (Itt K a).yld i H x H' → g x σ H' fun σ2 H2 => tb { D with nx := N, ct := N, bk := D.nx } σ2 H2)) := by
  rcases sq with sq | sq
  · refine .inl ⟨⟨_, sq⟩, for_of ys.length Pv h0 (fun i σ H' hi hP => ⟨ys, ys[i], SqL.at1 (hk _ _ _ hP) sq, by simp [hi]⟩) (fun σ H' hP => ⟨ys, SqL.at1 (hk _ _ _ hP) sq, Nat.le_refl _⟩) (fun i σ H' x H2 hi hP y => ?_) hd⟩
    obtain ⟨rfl, hx⟩ := y
    exact hs i σ _ x hi (hx ys (SqL.at1 (hk _ _ _ hP) sq)) hP
  · refine .inr ⟨⟨_, sq⟩, for_of ys.length Pv h0 (fun i σ H' hi hP => ⟨ys, ys[i], SqT.at1 (hk _ _ _ hP) sq, by simp [hi]⟩) (fun σ H' hP => ⟨ys, SqT.at1 (hk _ _ _ hP) sq, Nat.le_refl _⟩) (fun i σ H' x H2 hi hP y => ?_) hd⟩
    obtain ⟨rfl, hx⟩ := y
    exact hs i σ _ x hi (hx ys (SqT.at1 (hk _ _ _ hP) sq)) hP
theorem seq_comp {K : PySem.W.Frag} {o0 : HO} {xs : List Str} {fv : List (Str × Nat)} {g : TG} {tt : TT} {tb : TB} {σ : St} {H1 : Hp} {Q : VK} {a : Addr} {ys : List V} (sq : Sq K H1 a ys) (Pv : Nat → Addr → Hp → Prop) (h0 : ∀ D, H1 D = none → Pv 0 D (upd H1 D o0))
    (hk : ∀ i D H', H1 D = none → Pv i D H' → At1 a H1 H')
    (hs : ∀ i D H' x, H1 D = none → i < ys.length → ys[i]? = some x → Pv i D H' → g x (ρT xs fv σ) H' fun σ2 H2 => KeepT xs (ρT xs fv σ) σ2 ∧ tt σ2 H2 fun b H3 => if b = true then tb D σ2 H3 (Pv (i + 1) D) else Pv (i + 1) D H3)
    (hd : ∀ D H', H1 D = none → Pv ys.length D H' → Q (.ref D) H') :
    (∃ xs, SqL K H1 a xs) ∧ wCompT o0 xs fv g tt tb σ (Itl K a) H1 Q ∨ (∃ xs, SqT K H1 a xs) ∧ wCompT o0 xs fv g tt tb σ (Itt K a) H1 Q := by
  rcases sq with sq | sq
  · refine .inl ⟨⟨_, sq⟩, compT_of ys.length Pv h0 (fun i D H' hD hi hP => ⟨ys, ys[i], SqL.at1 (hk _ _ _ hD hP) sq, by simp [hi]⟩) (fun D H' hD hP => ⟨ys, SqL.at1 (hk _ _ _ hD hP) sq, Nat.le_refl _⟩) (fun i D H' x H2 hD hi hP y => ?_) hd⟩
    obtain ⟨rfl, hx⟩ := y
    exact hs i D _ x hD hi (hx ys (SqL.at1 (hk _ _ _ hD hP) sq)) hP
  · refine .inr ⟨⟨_, sq⟩, compT_of ys.length Pv h0 (fun i D H' hD hi hP => ⟨ys, ys[i], SqT.at1 (hk _ _ _ hD hP) sq, by simp [hi]⟩) (fun D H' hD hP => ⟨ys, SqT.at1 (hk _ _ _ hD hP) sq, Nat.le_refl _⟩) (fun i D H' x H2 hD hi hP y => ?_) hd⟩
    obtain ⟨rfl, hx⟩ := y
    exact hs i D _ x hD hi (hx ys (SqT.at1 (hk _ _ _ hD hP) sq)) hP
theorem range_comp {o0 : HO} {xs : List Str} {fv : List (Str × Nat)} {g : TG} {tt : TT} {tb : TB} {σ : St} {H1 : Hp} {Q : VK} {lo : Int} {n : Nat} (Pv : Nat → Addr → Hp → Prop) (h0 : ∀ D, H1 D = none → Pv 0 D (upd H1 D o0))
    (hs : ∀ i D H', H1 D = none → i < n → Pv i D H' → g (.int (lo + i)) (ρT xs fv σ) H' fun σ2 H2 => KeepT xs (ρT xs fv σ) σ2 ∧ tt σ2 H2 fun b H3 => if b = true then tb D σ2 H3 (Pv (i + 1) D) else Pv (i + 1) D H3)
    (hd : ∀ D H', H1 D = none → Pv n D H' → Q (.ref D) H') : wCompT o0 xs fv g tt tb σ (Itr lo n) H1 Q := by
  refine compT_of n Pv h0 (fun i D H' hD hi hP => hi) (fun D H' hD hP => Nat.le_refl _) (fun i D H' x H2 hD hi hP y => ?_) hd
  obtain ⟨rfl, rfl⟩ := y
  exact hs i D _ hD hi hP
end L2
set_option Elab.async false
set_option linter.all false
set_option maxRecDepth 100000
namespace L2E
open PySem
section
variable {h : Heap} {g : Array GenState} {d : Drawn} {t : Nat} {os : OsState} {prog : Program} {w : World} {A : Around} {E : Value → Shared → Prop}
variable {nm q : Str} {C N : Addr} {bs bm bmN : List Value} {hdct : Bool} {sn : List Str} {sub : List Value} {ab : Bool} {col : Option Bool} {dd : Option Addr} {k0 k1 k2 k3 k5 : Option Value} {Bn newId inN : String}
structure Tail (bm : List Value) (Bn : String) : Prop where
  base : bm.contains (.type Bn) = true
  attr : bm.contains (.type "AttributeError") = false
  name : bm.contains (.type "NameError") = false
theorem Tail.has {bm : List Value} {Bn : String} (T : Tail bm Bn) (C : Addr) : (Value.ref C :: bm).contains (.type Bn) = true := by rw [List.contains_cons, T.base, Bool.or_true]
theorem Tail.noA {bm : List Value} {Bn : String} (T : Tail bm Bn) (C : Addr) : (Value.ref C :: bm).contains (.type "AttributeError") = false := by rw [List.contains_cons, T.attr]; rfl
theorem Tail.noN {bm : List Value} {Bn : String} (T : Tail bm Bn) (C : Addr) : (Value.ref C :: bm).contains (.type "NameError") = false := by rw [List.contains_cons, T.name]; rfl
theorem newChecked (Fn : ExcBaseFacts Bn newId inN bmN) (T : Tail bm Bn) {M : Model} {us : List Value} {Q : Unit → Shared → Prop} (at_ : h.get? C = some (excClassObj nm q C N bs bm hdct sn sub ab col dd k0 k1 k2 k3 k5 newId))
    (z : Q () ⟨h, g, d, t, os⟩) : wpAny M A (checkBuiltinCall newId ⟨.ref C :: us, []⟩) Q E ⟨h, g, d, t, os⟩ := by
  have c1 := T.has C
  have c2 := Fn.noStar
  simp only [Fn.newKind, Fn.newSplit, Fn.newRow, checkBuiltinCall]
  repeat (first | refine wpAny_loadPart_at at_ ?_ | (refine wpAny_isSubtype_exc at_ ?_; rw [c1]) | refine wpAny_staticBase_exc at_ ?_ | refine wpAny_madeBy_exc at_ ?_ | simp only [bne_self_eq_false, Bool.false_eq_true, if_false] | wp_step)
  exact z
theorem newRun (Fn : ExcBaseFacts Bn newId inN bmN) (T : Tail bm Bn) {R : Result → Shared → Prop} {us : List Value} (at_ : h.get? C = some (excClassObj nm q C N bs bm hdct sn sub ab col dd k0 k1 k2 k3 k5 newId))
    (z : R (.ok (.ret (.ref (h.objs.size + 1)))) ⟨(h.push { cls := .type "tuple", data := .seq us.toArray }).push { cls := .ref C, data := .fields #[.ref h.objs.size, .none, .none, .none, .bool false, .none] }, g, d, t, os⟩) (few : us.length ≤ sizeLine) :
    codeAny (model prog w) A (.builtin newId ⟨.ref C :: us, []⟩) R ⟨h, g, d, t, os⟩ := by
  have c0 := Fn.ends
  have c1 := T.has C
  have c2 := T.noA C
  have c3 := T.noN C
  refine codeAny_builtinAt Fn.entry ?_; unfold Builtin.«BaseException.__new__»
  refine wpAt_bind ?_; show wpAt _ _ _ (stack >>= _) _ _ _
  refine wpAt_bind (wpAt_stack fun _ _ => wpAt_of_wpAny ?_)
  wp_walk
  refine wpAt_of_wpAny ?_
  rw [Fn.owner]
  repeat (first | with_reducible refine wpAny_madeHere_exc Fn.canon at_ ?_ | with_reducible refine wpAny_loadPart_at at_ ?_ | (with_reducible refine wpAny_isSubtype_exc at_ ?_; first | rw [c1] | rw [c2] | rw [c3]) | wp_step)
  show R _ _
  rw [Heap.size_push]
  exact z
def Finds (h : Heap) (C : Addr) (x : Str) (v : Option Value) : Prop := ∀ (M : Model) (A : Around) (E : Value → Shared → Prop) (Q : Option Value → Shared → Prop) (g : Array GenState) (d : Drawn) (t : Nat) (os : OsState), Q v ⟨h, g, d, t, os⟩ → wpAny M A (typeLookup (.ref C) x) Q E ⟨h, g, d, t, os⟩
def laid (h : Heap) (C : Addr) (us : List Value) : Heap := (h.push { cls := .type "tuple", data := .seq us.toArray }).push { cls := .ref C, data := .fields #[.ref h.objs.size, .none, .none, .none, .bool false, .none] }
theorem laid_old {h : Heap} {C : Addr} {us : List Value} {b : Addr} {o : Obj} (e : h.get? b = some o) : (laid h C us).get? b = some o := Heap.get?_push_of_some _ (Heap.get?_push_of_some _ e)
theorem laid_new {h : Heap} {C : Addr} {us : List Value} : (laid h C us).get? (h.objs.size + 1) = some { cls := .ref C, data := .fields #[.ref h.objs.size, .none, .none, .none, .bool false, .none] } := by unfold laid; heap_get
theorem typeCall (Fn : ExcBaseFacts Bn newId inN bmN) (T : Tail bm Bn) {us : List Value} {f : Addr} {of : Obj} {Q : Fin → Shared → Prop} (at_ : h.get? C = some (excClassObj nm q C N bs bm hdct sn sub ab col dd k0 k1 k2 k3 k5 newId))
    (hi : Finds (laid h C us) C "__init__" (some (.ref f))) (hf : h.get? f = some of) (hc : of.cls = .type "function") (few : us.length ≤ sizeLine)
    (z : wpAny (model prog w) A (call (.ref f) (.ref (h.objs.size + 1) :: us)) (fun r s' => r = .none ∧ Q (.done (.ret (.ref (h.objs.size + 1)))) s') E ⟨laid h C us, g, d, t, os⟩) :
    wpAny (model prog w) A (Builtin.«type.__call__» ⟨.ref C :: us, []⟩) Q E ⟨h, g, d, t, os⟩ := by
  repeat (first | with_reducible refine wpAny_loadPart_at at_ ?_ | with_reducible refine wpAny_madeBy_exc at_ ?_ | wp_step)
  refine codeAny_call_builtin_code (Code.quiet_builtin _ Fn.quiet) (newChecked Fn T at_ ?_)
  refine newRun Fn T at_ ?_ few
  show wpAny _ _ _ _ _ ⟨laid h C us, g, d, t, os⟩
  have a1 := laid_old (C := C) (us := us) at_
  have a2 := laid_new (h := h) (C := C) (us := us)
  have self : (Value.ref C :: bm).contains (.ref C) = true := by simp
  unfold isInstance
  repeat (first | with_reducible refine wpAny_loadPart_at a2 ?_ | (with_reducible refine wpAny_isSubtype_exc a1 ?_; rw [self]) | wp_step)
  refine (show wpAny _ _ (typeLookup (.ref C) _) _ _ _ from hi _ _ _ _ _ _ _ _ ?_)
  refine wpAny_holding (wpAny_bind ?_); unfold bindSpecial
  refine wpAny_bind (wpAny_typeOf (T := "function") ⟨_, laid_old hf, hc⟩ ?_)
  rw [if_pos (by decide)]
  refine wpAny_pure (wpAny_bind (wpAny_mono z (fun r s' hr => ?_) fun _ _ x => x))
  obtain ⟨rfl, y⟩ := hr
  wp_walk
  exact y
theorem callErr (Fn : ExcBaseFacts Bn newId inN bmN) (T : Tail bm Bn) {us : List Value} {f : Addr} {of : Obj} {Q : Value → Shared → Prop} (at_ : h.get? C = some (excClassObj nm q C N bs bm hdct sn sub ab col dd k0 k1 k2 k3 k5 newId))
    (hi : Finds (laid h C us) C "__init__" (some (.ref f))) (hf : h.get? f = some of) (hc : of.cls = .type "function") (few : us.length ≤ sizeLine)
    (z : wpAny (model prog w) (A.under (.builtin "type.__call__" ⟨.ref C :: us, []⟩)) (call (.ref f) (.ref (h.objs.size + 1) :: us)) (fun r s' => r = .none ∧ Q (.ref (h.objs.size + 1)) s') E ⟨laid h C us, g, d, t, os⟩) :
    wpAny (model prog w) A (call (.ref C) us) Q E ⟨h, g, d, t, os⟩ := by
  have b1 := tc_lookup
  have b2 := tc_bind (.ref C)
  have b3 : (⟨h, g, d, t, os⟩ : Shared).TypeIs (.ref C) "type" := ⟨_, at_, rfl⟩
  refine wpAny_call (codeAny_of_tree ?_); show wpAny _ _ (callAny (.ref C) _) _ _ _
  repeat (any_goals (first | assumption | with_reducible refine wpAny_loadPart_at at_ ?_ | wp_step))
  refine ⟨rfl, ?_⟩
  exact codeAny_call_builtin_at (Code.quiet_builtin _ (by decide +kernel)) entry_typeCall (wpAny_check_type_call_sub at_ (typeCall Fn T at_ hi hf hc few z))
end
end L2E
set_option Elab.async false
set_option linter.all false
set_option maxRecDepth 100000
namespace L2E
open PySem
section
variable {h : Heap} {g : Array GenState} {d : Drawn} {t : Nat} {os : OsState} {prog : Program} {w : World} {A : Around} {E : Value → Shared → Prop}
variable {nm q : Str} {C N : Addr} {bs bm bmB : List Value} {hdct : Bool} {sn : List Str} {sub : List Value} {ab : Bool} {col : Option Bool} {dd : Option Addr} {k0 k1 k2 k3 k5 : Option Value} {B nid newId initId : String}
theorem initChecked (F : ExcBaseFacts B nid initId bmB) (hB : bm.contains (.type B) = true) {M : Model} {e : Addr} {oe : Obj} {us : List Value} {Q : Unit → Shared → Prop}
    (at_ : h.get? C = some (excClassObj nm q C N bs bm hdct sn sub ab col dd k0 k1 k2 k3 k5 newId)) (he : h.get? e = some oe) (hc : oe.cls = .ref C) (z : Q () ⟨h, g, d, t, os⟩) :
    wpAny M A (checkBuiltinCall initId ⟨.ref e :: us, []⟩) Q E ⟨h, g, d, t, os⟩ := by
  have c1 : (Value.ref C :: bm).contains (.type B) = true := by rw [List.contains_cons, hB, Bool.or_true]
  have c2 := F.noStar
  simp only [F.initKind, F.initSplit, F.initRow, checkBuiltinCall]
  repeat (first | (with_reducible refine wpAny_loadPart_at he ?_; rw [hc]) | with_reducible refine wpAny_loadPart_at at_ ?_ | (with_reducible refine wpAny_isSubtype_exc at_ ?_; rw [c1]) | wp_step)
  refine wpAny_onRaise ?_
  have same : ∀ (a b : String) (n : Nat), Bind.check ⟨.positional, "*", B, .self, [⟨"args", .varPos, false⟩]⟩ a b n (List.map (fun x => x.fst) ({ pos := Value.ref e :: us } : Args).kw) = pure () := fun a b n => check_star_args _ _ _ _ _ _
  rw [same]
  exact wpAny_pure z
theorem initErr (F : ExcBaseFacts B nid initId bmB) (hB : bm.contains (.type B) = true) {e t0 : Addr} {de : Option Addr} {us : List Value} {Q : Value → Shared → Prop}
    (at_ : h.get? C = some (excClassObj nm q C N bs bm hdct sn sub ab col dd k0 k1 k2 k3 k5 newId)) (he : h.get? e = some { cls := .ref C, dict := de, data := .fields #[.ref t0, .none, .none, .none, .bool false, .none] }) (few : us.length ≤ sizeLine)
    (z : ∀ h', (∀ b o, b ≠ e → h.get? b = some o → h'.get? b = some o) → h'.get? e = some { cls := .ref C, dict := de, data := .fields #[.ref h.objs.size, .none, .none, .none, .bool false, .none] } → h'.get? h.objs.size = some { cls := .type "tuple", data := .seq us.toArray } → Q .none ⟨h', g, d, t, os⟩) :
    wpAny (model prog w) A (call (.builtin initId) (.ref e :: us)) Q E ⟨h, g, d, t, os⟩ := by
  refine wpAny_call (codeAny_call_builtin F.init.plain F.initEntry (initChecked F hB at_ he rfl ?_))
  wp_walk
  have le : e < h.objs.size := Heap.lt_size he
  have he2 := Heap.get?_push_of_some { cls := .type "tuple", data := .seq us.toArray } he
  refine z _ (fun b o n hb => ?_) ?_ ?_
  · rw [Heap.get?_update_other _ _ n.symm]
    exact Heap.get?_push_of_some _ hb
  · rw [Heap.get?_update_self _ he2 rfl]
    rfl
  · rw [Heap.get?_update_other _ _ (Nat.ne_of_lt le)]
    exact Heap.get?_push_at rfl rfl
end
end L2E
set_option Elab.async false
set_option linter.all false
set_option maxRecDepth 100000
namespace L2E
open PySem PySem.Builtin.ObjectAttr
section
variable {h : Heap} {g : Array GenState} {d : Drawn} {t : Nat} {os : OsState} {prog : Program} {w : World} {A : Around} {E : Value → Shared → Prop}
variable {nm q : Str} {C N x : Addr} {bs bm bmB : List Value} {sn : List Str} {sub : List Value} {ab : Bool} {col : Option Bool} {dd : Option Addr} {k0 k1 k2 k3 k5 : Option Value} {B newId sa owner : String} {name : Str} {v : Value}
theorem saChecked {M : Model} {o : Obj} {nameV : Value} {Q : Unit → Shared → Prop} (SF : StoreFacts B bmB sa owner) (own : bm.contains (.type owner) = true)
    (at_ : h.get? C = some (excClassObj nm q C N bs bm true sn sub ab col dd k0 k1 k2 k3 k5 newId)) (hx : h.get? x = some o) (hc : o.cls = .ref C) (z : Q () ⟨h, g, d, t, os⟩) : wpAny M A (checkBuiltinCall sa ⟨[.ref x, nameV, v], []⟩) Q E ⟨h, g, d, t, os⟩ := by
  have c1 : (Value.ref C :: bm).contains (.type owner) = true := by rw [List.contains_cons, own, Bool.or_true]
  have c2 := SF.args (.ref x) nameV v
  simp only [SF.kind, SF.split, checkBuiltinCall]
  refine wpAny_bind ?_
  unfold isInstance
  repeat (first | (with_reducible refine wpAny_loadPart_at hx ?_; rw [hc]) | (with_reducible refine wpAny_isSubtype_exc at_ ?_; rw [c1]) | wp_step)
  cases sg : Manifest.signature? sa with
  | none => exact wpAny_pure z
  | some s0 =>
    simp only [argsOk, sg] at c2
    have c3 : Bind.checkArgs sa s0 ⟨[.ref x, nameV, v], []⟩ = pure () := c2
    refine (show wpAny M A (Bind.checkArgs sa s0 ⟨[.ref x, nameV, v], []⟩) Q E _ from ?_)
    rw [c3]; exact wpAny_pure z
def dicted (o : Obj) (a : Addr) : Obj := { cls := o.cls, dict := some a, data := o.data, slots := o.slots }
theorem storeNew {tk : Tok} {Q : Fin → Shared → Prop} {o : Obj} (at_ : h.get? C = some (excClassObj nm q C N bs bm true sn sub ab col dd k0 k1 k2 k3 k5 newId)) (pass : refuseLoop (.ref x) "__setattr__" bm = pure ()) (fn : Finds h C name none)
    (hx : h.get? x = some o) (hc : o.cls = .ref C) (hd : o.dict = none) (hnc : ∀ c, o.data ≠ .cls c)
    (z : ∀ h' tk', h'.get? x = some (dicted o h.objs.size) → h'.Ns1 h.objs.size (fun y => if y = name then some v else none) → (∀ b o, b ≠ x → h.get? b = some o → h'.get? b = some o) → Q (.done (.ret .none)) ⟨h', g, d, tk', os⟩) :
    wpAny (model prog w) A (Builtin.«object.__setattr__» ⟨[.ref x, .str name tk, v], []⟩) Q E ⟨h, g, d, t, os⟩ := by
  unfold Builtin.«object.__setattr__»
  repeat (first | rw [refuse_eq] | (rw [refuseLoop_ref, pass]) | (with_reducible refine wpAny_loadPart_at hx ?_; rw [hc]) | with_reducible refine wpAny_mroOf_exc at_ ?_ | wp_step)
  refine fn _ _ _ _ _ _ _ _ ?_
  repeat (first | (with_reducible refine wpAny_loadPart_at hx ?_; rw [hc]) | with_reducible refine wpAny_loadPart_at hx ?_ | wp_step)
  rw [hd, if_neg (by simp [typeHasDict])]
  split
  · rename_i y; cases y
  split
  · rename_i c y; exact absurd y (hnc c)
  have x1 : (h.push { cls := .type "dict", data := .dict #[] }).get? x = some o := Heap.get?_push_of_some _ hx
  have ne : x ≠ h.objs.size := Nat.ne_of_lt (Heap.lt_size hx)
  refine wpAny_bind (wpAny_alloc' (wpAny_bind (wpAny_update' x1 (wpAny_pure ?_))))
  have y1 : ((h.push { cls := .type "dict", data := .dict #[] }).update x fun o => dicted o h.objs.size).get? h.objs.size = some { cls := .type "dict", data := .dict #[] } := (Heap.get?_update_ne _ _ _ _ ne.symm).trans (Heap.get?_push_at rfl rfl)
  have y2 : ((h.push { cls := .type "dict", data := .dict #[] }).update x fun o => dicted o h.objs.size).Ns h.objs.size (fun _ => none) := ⟨_, #[], _, y1, rfl, fun e he => absurd he (by simp), fun _ => rfl⟩
  refine (show wpAny _ _ (storeInDict h.objs.size (.str name tk) name v) _ _ ⟨(h.push { cls := .type "dict", data := .dict #[] }).update x fun o => dicted o h.objs.size, _, _, _, _⟩ from ?_)
  unfold storeInDict newKeyGuard
  refine wpAny_bind (wpAny_pure (wpAny_bind (wpAny_nsSet1 (Heap.Ns1.of_empty y2) fun h2 n2 s2 => ?_)))
  obtain ⟨o3, e3, p3, a3, b3, c3⟩ := n2.count (Within.cons name v Within.nil)
  refine wpAny_bind (wpAny_lookBehind a3 (by rw [b3]; exact pastItsLine_dict (Nat.le_trans c3 (by rw [List.length_cons, List.length_nil, sizeLine_eq]; omega))) ?_)
  wp_walk
  refine z h2 _ ?_ n2 fun b ob n hb => ?_
  · refine (s2.2 x ne).trans (Heap.get?_update_self _ x1 ?_)
    have fr := (Heap.get?_some_iff.mp hx).2
    obtain ⟨oc, od, odt, osl⟩ := o
    cases odt <;> first | rfl | exact fr
  · exact (s2.2 b (Nat.ne_of_lt (Heap.lt_size hb))).trans ((Heap.get?_update_ne _ _ _ _ n).trans (Heap.get?_push_of_some _ hb))
theorem setErr {Q : Unit → Shared → Prop} {o : Obj} (SF : StoreFacts B bmB sa owner) (own : bm.contains (.type owner) = true) (at_ : h.get? C = some (excClassObj nm q C N bs bm true sn sub ab col dd k0 k1 k2 k3 k5 newId)) (pass : refuseLoop (.ref x) "__setattr__" bm = pure ())
    (fs : Finds h C "__setattr__" (some (.builtin sa))) (fn : Finds h C name none) (hx : h.get? x = some o) (hc : o.cls = .ref C) (hd : o.dict = none) (hnc : ∀ c, o.data ≠ .cls c)
    (z : ∀ h' tk', h'.get? x = some (dicted o h.objs.size) → h'.Ns1 h.objs.size (fun y => if y = name then some v else none) → (∀ b o, b ≠ x → h.get? b = some o → h'.get? b = some o) → Q () ⟨h', g, d, tk', os⟩) :
    wpAny (model prog w) A (setAttr (.ref x) name v) Q E ⟨h, g, d, t, os⟩ := by
  have b1 := SF.slot.bind (.ref x)
  unfold setAttr callSpecial? specialOf
  repeat (any_goals (first | assumption | (with_reducible refine wpAny_loadPart_at hx ?_; rw [hc]) | wp_step))
  refine fs _ _ _ _ _ _ _ _ ?_
  repeat (any_goals (first | assumption | (with_reducible refine wpAny_loadPart_at hx ?_; rw [hc]) | wp_step))
  refine codeAny_call_builtin SF.slot.plain SF.entry (saChecked SF own at_ hx hc (storeNew at_ pass fn hx hc hd hnc fun h' tk' y1 y2 y3 => ?_))
  repeat (any_goals (first | assumption | wp_step))
  exact z h' tk' y1 y2 y3
end
end L2E
set_option Elab.async false
set_option linter.all false
set_option maxRecDepth 100000
namespace L2E
open PySem
section
variable {A : Around} {E : Value → Shared → Prop} {env : Env} {M : Model}
variable {nm q : Str} {C N : Addr} {bs bm : List Value} {hdct : Bool} {sn : List Str} {sub : List Value} {ab : Bool} {col : Option Bool} {dd : Option Addr} {k0 k1 k2 k3 k5 : Option Value} {newId : String}
theorem raiseErr {s : Shared} {x : Sem Value} {Q : Flow → Shared → Prop} (base : bm.contains (.type "BaseException") = true) (calm : A.handled = none)
    (h : wpAny M A x (fun v s1 => ∃ e dx ta sl, v = .ref e ∧ s1.heap.get? C = some (excClassObj nm q C N bs bm hdct sn sub ab col dd k0 k1 k2 k3 k5 newId) ∧ s1.heap.get? e = some { cls := .ref C, dict := dx, data := .fields #[.ref ta, .none, .none, .none, .bool false, .none], slots := sl } ∧ E (.ref e) s1) E s) :
    wpAny M A (raiseStmt env (some x) none) Q E s := by
  have c1 : (Value.ref C :: bm).contains (.type "BaseException") = true := by rw [List.contains_cons, base, Bool.or_true]
  unfold raiseStmt
  refine wpAny_bind (wpAny_mono h (fun v s1 h1 => ?_) fun _ _ y => y)
  obtain ⟨e, dx, ta, sl, rfl, at_, he, z⟩ := h1
  obtain ⟨hp, g, d, tk, os⟩ := s1
  repeat (first | with_reducible refine wpAny_loadPart_at he ?_ | with_reducible refine wpAny_loadPart_at at_ ?_ | (with_reducible refine wpAny_isSubtype_exc at_ ?_; rw [c1]) | wp_step)
  exact wpAny_raiseNew_none calm z
end
end L2E
set_option Elab.async false
set_option linter.all false
set_option maxRecDepth 100000
namespace L2E
open PySem
section
variable {M : Model} {A : Around} {E : Value → Shared → Prop} {s : Shared}
structure Off (h h' : Heap) (e : Addr) (oe : Obj) (vs : Array Value) (l : List Env) (T : Addr) : Prop where
  fresh : h.objs.size ≤ T
  err : h'.get? e = some { oe with data := .fields (vs.setIfInBounds 1 (.ref T)) }
  tb : ∃ oT ts, h'.get? T = some oT ∧ oT.data = .fields ts ∧ ts[3]? = some .none
  keep : ∀ b o, b ≠ e → vs[1]? ≠ some (.ref b) → b ∉ L2.frs l → h.get? b = some o → h'.get? b = some o
  slot : ∀ b o, b ∈ L2.frs l → h.get? b = some o → ∃ sl, h'.get? b = some { o with slots := sl }
theorem mapFields_eq {o : Obj} {vs : Array Value} (hd : o.data = .fields vs) (f : Array Value → Array Value) : o.mapFields f = { o with data := .fields (f vs) } := by
  obtain ⟨c, d, dt, sl⟩ := o
  simp only at hd
  subst hd
  rfl
theorem entryOff {base : Heap} {env : Env} {outer : List Env} {L e : Addr} {oe : Obj} {vs : Array Value} {head : Value} {hadNext : Bool} {Q : Unit → Shared → Prop}
    (hfr : A.frames = some (env :: outer)) (hl : s.heap.FunFrames base (env :: outer)) (hf : env.frame = some L)
    (he : s.heap.get? e = some oe) (hd : oe.data = .fields vs) (hsz : 1 < vs.size)
    (h : ∀ h' T, s.heap.objs.size ≤ T → h'.get? e = some { oe with data := .fields (vs.setIfInBounds 1 (.ref T)) } → (∃ oT ts, h'.get? T = some oT ∧ oT.data = .fields ts ∧ ts[3]? = some .none) →
      (∀ b o, b ≠ e → b ∉ L2.frs (env :: outer) → s.heap.get? b = some o → h'.get? b = some o) → (∀ b o, b ∈ L2.frs (env :: outer) → s.heap.get? b = some o → ∃ sl, h'.get? b = some { o with slots := sl }) → Q () { s with heap := h' }) :
    wpAny M A (do let a ← frameOf env; let pl ← entryPlaceOf L hadNext; let b ← EntryCells.newEntry head a .none (rawInt L) .none pl; setField (.ref e) 1 b) (fun _ s' => wpAny M A (setFlight (.ref e) none) Q E s') E s := by
  have hene : e ∉ (env :: outer).filterMap (·.frame) := fun hm => by
    obtain ⟨_, o, ho, hnf⟩ := hl.mem hm
    rw [he] at ho; injection ho with ho; subst ho; exact hnf vs hd
  refine wpAny_bind (wpAny_frameOf_fun hfr hl hf fun h₁ hs₁ => ?_)
  refine wpAny_bind (wpAny_entryPlaceOf fun pl hpl => ?_)
  unfold EntryCells.newEntry newFields
  refine wpAny_bind (wpAny_newObj_type ?_ (hpl.sizeOk5 _ _ _ _ _))
  have he₁ : h₁.get? e = some oe := (hs₁.2.1 e hene).trans he
  have he₂ := Heap.get?_push_of_some (h := h₁) { cls := .type "traceback", dict := none, data := .fields ([head, .ref L, .none, rawInt L, .none] ++ (if pl.isEmpty then List.replicate 6 Value.none else pl)).toArray } he₁
  refine wpAny_setField he₂ hd hsz ?_
  have hTe : h₁.objs.size ≠ e := Nat.ne_of_gt (Heap.lt_size he₁)
  have hd₃ := Obj.data_mapFields hd (·.setIfInBounds 1 (Value.ref h₁.objs.size))
  have he₃ := Heap.get?_update_self (Obj.mapFields (·.setIfInBounds 1 (Value.ref h₁.objs.size))) he₂ (Obj.isFreed_of_fields hd₃)
  have hT₃ := (Heap.get?_update_other (h₁.push { cls := .type "traceback", dict := none, data := .fields ([head, .ref L, .none, rawInt L, .none] ++ (if pl.isEmpty then List.replicate 6 Value.none else pl)).toArray })
    (Obj.mapFields (·.setIfInBounds 1 (Value.ref h₁.objs.size))) (Ne.symm hTe)).trans (Heap.get?_push_size h₁ rfl)
  unfold setFlight
  refine wpAny_bind (wpAny_field he₃ hd₃ (x := .ref h₁.objs.size) (by simp [hsz]) ?_)
  rw [if_pos (show (Value.ref h₁.objs.size != Value.none) = true from by simp)]
  have hsz1 : s.heap.objs.size ≤ h₁.objs.size := Nat.le_of_eq hs₁.1.symm
  have keep : ∀ b o, b ≠ e → h₁.get? b = some o →
      (((h₁.push { cls := .type "traceback", dict := none, data := .fields ([head, .ref L, .none, rawInt L, .none] ++ (if pl.isEmpty then List.replicate 6 Value.none else pl)).toArray }).update e (Obj.mapFields (·.setIfInBounds 1 (Value.ref h₁.objs.size)))).update h₁.objs.size
        (Obj.mapFields (·.setIfInBounds 3 ((none : Option Addr).elim Value.none fun f => rawInt f)))).get? b = some o := fun b o hbe hb => by
    have hbT : h₁.objs.size ≠ b := Nat.ne_of_gt (Heap.lt_size hb)
    rw [Heap.get?_update_other _ _ hbT, Heap.get?_update_other _ _ (Ne.symm hbe)]
    exact Heap.get?_push_of_some _ hb
  refine wpAny_setField hT₃ rfl (by simp only [List.size_toArray, List.length_append, List.length_cons, List.length_nil] <;> omega) (h _ h₁.objs.size hsz1 ?_ ?_ (fun b o hb hn q => ?_) fun b o hb q => ?_)
  · rw [Heap.get?_update_other _ _ hTe, he₃, mapFields_eq hd]
  · exact ⟨_, _, Heap.get?_update_self _ hT₃ (Obj.isFreed_of_fields (Obj.data_mapFields rfl _)), Obj.data_mapFields rfl _, by first | (simp; done) | (rcases hpl with rfl | ⟨_, _, _, _, _, _, _, rfl⟩ <;> simp)⟩
  · exact keep b o hb ((hs₁.2.1 b hn).trans q)
  · obtain ⟨sl, hs⟩ := hs₁.2.2 b o q
    exact ⟨sl, keep b _ (fun z => hene (z ▸ hb)) hs⟩
theorem noteOff {base : Heap} {env : Env} {outer : List Env} {L e : Addr} {oe : Obj} {vs : Array Value} {Q : Unit → Shared → Prop}
    (hfr : A.frames = some (env :: outer)) (hl : s.heap.FunFrames base (env :: outer)) (hf : env.frame = some L)
    (he : s.heap.get? e = some oe) (hd : oe.data = .fields vs)
    (hv : vs[1]? = some .none ∨ ∃ T oT ts, vs[1]? = some (.ref T) ∧ T ≠ e ∧ s.heap.get? T = some oT ∧ oT.data = .fields ts ∧ ts[3]? = some .none)
    (h : ∀ h' T, Off s.heap h' e oe vs (env :: outer) T → Q () { s with heap := h' }) :
    wpAny M A (noteFrame (.ref e) env) (fun _ s' => wpAny M A (setFlight (.ref e) none) Q E s') E s := by
  unfold noteFrame
  simp only [hf]
  rcases hv with h1 | ⟨T, oT, ts, h1, hTe, hT, hdT, h3⟩
  · refine wpAny_bind (wpAny_field he hd h1 ?_)
    rw [if_neg (by decide)]
    exact entryOff hfr hl hf he hd (Array.getElem?_eq_some_iff.mp h1).1 fun h' T a1 a2 a3 a4 a5 => h h' T ⟨a1, a2, a3, fun b o hb _ hn q => a4 b o hb hn q, a5⟩
  · refine wpAny_bind (wpAny_field he hd h1 ?_)
    rw [if_pos (show (Value.ref T != Value.none) = true from by simp)]
    refine wpAny_bind (wpAny_field hT hdT h3 ?_)
    rw [if_neg (show ¬ ((Value.none == rawInt L) = true) from by simp [rawInt])]
    refine wpAny_bind (wpAny_setField hT hdT (Array.getElem?_eq_some_iff.mp h3).1 ?_)
    have other : ∀ b, b ≠ T → (s.heap.update T (Obj.mapFields (·.setIfInBounds 3 Value.none))).get? b = s.heap.get? b := fun b hb => Heap.get?_update_other _ _ (Ne.symm hb)
    have noRecord : ∀ b o, s.heap.get? b = some o → (∀ vs, o.data ≠ .fields vs) → b ≠ T := fun b o hb hnf q => by
      rw [q, hT] at hb; injection hb with hb; subst hb; exact hnf ts hdT
    have frT : ∀ b, b ∈ L2.frs (env :: outer) → b ≠ T := fun b hb => by
      obtain ⟨_, o, ho, hnf⟩ := hl.mem hb
      exact noRecord b o ho hnf
    refine entryOff (s := { s with heap := s.heap.update T (Obj.mapFields (·.setIfInBounds 3 Value.none)) }) hfr (hl.of_keeps fun b o hb hnf => ⟨o, (other b (noRecord b o hb hnf)).trans hb, rfl⟩) hf ((other e (Ne.symm hTe)).trans he) hd (Array.getElem?_eq_some_iff.mp h1).1
      fun h' T' a1 a2 a3 a4 a5 => h h' T' ⟨by rw [Heap.size_update] at a1; exact a1, a2, a3, fun b o hb hbT hn q => a4 b o hb hn ((other b fun z => hbT (by rw [h1, z])).trans q), fun b o hb q => a5 b o hb ((other b (frT b hb)).trans q)⟩
theorem leaveOff {base : Heap} {env : Env} {outer : List Env} {L e : Addr} {oe : Obj} {vs : Array Value} {Q : Unit → Shared → Prop}
    (hfr : A.frames = some (env :: outer)) (hl : s.heap.FunFrames base (env :: outer)) (hf : env.frame = some L)
    (he : s.heap.get? e = some oe) (hd : oe.data = .fields vs)
    (hv : vs[1]? = some .none ∨ ∃ T oT ts, vs[1]? = some (.ref T) ∧ T ≠ e ∧ s.heap.get? T = some oT ∧ oT.data = .fields ts ∧ ts[3]? = some .none)
    (h : ∀ h' T, Off s.heap h' e oe vs (env :: outer) T → Q () { s with heap := h' }) : wpAny M A (leaving env (.ref e)) Q E s := by
  unfold leaving
  exact wpAny_bind (noteOff hfr hl hf he hd hv h)
end
end L2E
set_option Elab.async false
set_option linter.all false
set_option maxRecDepth 100000
namespace L2
open PySem PySem.Spec PyProof.Rows
structure Fly (h : Heap) (e C dx T : Addr) : Prop where
  ex : ∃ vs sl, h.get? e = some { cls := .ref C, dict := some dx, data := .fields vs, slots := sl } ∧ vs[1]? = some (.ref T)
  ne : T ≠ e
  tb : ∃ oT ts, h.get? T = some oT ∧ oT.data = .fields ts ∧ ts[3]? = some .none
def CXE (P : Program) (w : World) : CXT := fun outer H s E ev s' => ∃ (e C dx T : Addr) (H' : Hp), ev = .ref e ∧ s'.os = s.os ∧ AllBare s'.gens ∧ Un (frs outer) [] H H' s.heap s'.heap ∧ HOk P w H' s'.heap ∧
  Fly s'.heap e C dx T ∧ s.heap.objs.size ≤ e ∧ s.heap.objs.size ≤ T ∧ H' e = none ∧ H' T = none ∧ E (.ref C) (some dx) H'
section
variable {X : Cx} {pins : List (Addr × Obj)} {σ : St} {H : Hp} {s : Shared} {h' : Heap}
structure Own (X : Cx) (pins : List (Addr × Obj)) (H : Hp) (h : Heap) (b : Addr) : Prop where
  new : X.s₀.heap.objs.size ≤ b
  free : H b = none
  recd : ∃ o vs, h.get? b = some o ∧ o.data = .fields vs
  pin : ∀ p ∈ X.pn ++ pins, p.1 ≠ b
theorem Inv.off {e T' : Addr} {oe : Obj} {vs : Array Value} (I : Inv X pins σ H s) (hst : X.stack = X.env :: X.outer) (hfr : X.env.frame = some X.env.locals)
    (O : L2E.Off s.heap h' e oe vs X.stack T') (oe' : Own X pins H s.heap e) (oT : ∀ T, vs[1]? = some (.ref T) → Own X pins H s.heap T) : Inv X pins σ H { s with heap := h' } := by
  let ch : List Addr := e :: (match (vs[1]? : Option Value) with | some (Value.ref T) => [T] | _ => [])
  have hch : ∀ b ∈ ch, Own X pins H s.heap b := fun b hb => by
    rcases List.mem_cons.mp hb with rfl | hb
    · exact oe'
    · split at hb
      · rename_i T hT
        rw [List.mem_singleton.mp hb]
        exact oT T hT
      · cases hb
  have nch : ∀ b, b ∉ ch → b ≠ e ∧ vs[1]? ≠ some (.ref b) := fun b hb => ⟨fun z => hb (z ▸ List.mem_cons_self ..), fun z => hb (by
    refine List.mem_cons_of_mem _ ?_
    rw [z]; exact List.mem_singleton.mpr rfl)⟩
  have frL : frs X.stack = X.env.locals :: X.fs := by
    rw [hst]
    unfold frs
    rw [List.filterMap_cons, hfr]; rfl
  have neL : ∀ b, Own X pins H s.heap b → b ≠ X.env.locals := fun b ob z => by
    obtain ⟨m, ⟨o, es, ep, ho, hd, _⟩, _⟩ := I.loc
    obtain ⟨o', vs', ho', hd'⟩ := ob.recd
    rw [z, ho] at ho'; cases ho'; rw [hd] at hd'; cases hd'
  have neC : ∀ b, Own X pins H s.heap b → ∀ x c, X.env.cells.lookup x = some c → c ≠ b := fun b ob x c hc z => by
    obtain ⟨v, o, ho, hd⟩ := I.cell x c hc
    obtain ⟨o', vs', ho', hd'⟩ := ob.recd
    rw [z, ho'] at ho; cases ho; rw [hd'] at hd; cases hd
  refine I.step (g' := s.gens) (d' := s.drawn) (t' := s.toks) (ch := ch) (fun b hb => ⟨.inr (hch b hb).new, neL b (hch b hb), neC b (hch b hb), (hch b hb).pin⟩)
    (fun b o hL hb hc q _ => O.keep b o (nch b hc).1 (nch b hc).2 (by rw [frL]; exact fun z => (List.mem_cons.mp z).elim hL hb) q)
    (fun b o hL hb hc q _ => O.slot b o (by rw [frL]; exact List.mem_cons_of_mem _ hb) q) (fun _ _ _ _ n => n) (fun b o hc q => ?_) (fun _ _ q => q) (fun _ _ _ q => q) (fun b ps q => ⟨#[], by rw [q]; simp⟩) (fun m hm => ?_) (fun b u q => ?_) I.bare
  · by_cases hb : b ∈ frs X.stack
    · obtain ⟨sl, z⟩ := O.slot b o hb q
      exact ⟨_, z⟩
    · exact ⟨o, O.keep b o (nch b hc).1 (nch b hc).2 hb q⟩
  · obtain ⟨o, es, ep, ho, r⟩ := hm
    obtain ⟨sl, z⟩ := O.slot _ o (by rw [frL]; exact List.mem_cons_self ..) ho
    exact ⟨_, es, ep, z, r⟩
  · refine (I.hok b u q).stay (fun c v hc z => ?_) (fun _ z => z) fun _ _ z => z
    have hcn : H c ≠ none := by
      rcases hc with rfl | hc
      · rw [q]; simp
      · rw [hc]; simp
    refine O.keep c v (fun y => hcn (y ▸ oe'.free)) (fun y => hcn (oT c y).free) (fun y => hcn (I.stkFree c y)) z
end
theorem passE {P : Program} {w : World} {K : PySem.W.Frag} {mg : Str → Option Value} {base : Heap} {N : List Str} {qual : Str} {scope : Scope} {f : Addr} {cd : Value} {A : Around} {outer : List Env} {s0 : Shared} {H0 : Hp} {E : XK} :
    Passes (CXE P w) (cxOf (CXE P w) P w K mg base N qual scope f cd A outer s0 H0 E) E := by
  intro pins σ H s ev s' I hc
  obtain ⟨e, C, dx, T, H', rfl, os, bare, un, hok, fly, e1, t1, he, hT, hE⟩ := hc
  obtain ⟨hh, g, d, t, os'⟩ := s'
  obtain rfl : os' = s.os := os
  have I' := I.call (h' := hh) (g' := g) (d' := d) (t' := t) (ch := []) un hok bare (fun b z => absurd z (by simp))
  obtain ⟨vs, sl, hx, h1⟩ := fly.ex
  obtain ⟨oT, ts, hT1, hT2, hT3⟩ := fly.tb
  have sz := I.sz
  have pl : ∀ b, s.heap.objs.size ≤ b → ∀ p ∈ (cxOf (CXE P w) P w K mg base N qual scope f cd A outer s0 H0 E).pn ++ pins, p.1 ≠ b := fun b hb p hp z => by
    have := Heap.lt_size (I.pin p hp).1
    rw [z] at this
    exact absurd (Nat.lt_of_lt_of_le this hb) (Nat.lt_irrefl _)
  have le := Heap.lt_size hx
  show wpAny _ _ (leaving _ (.ref e)) _ _ _
  refine L2E.leaveOff (base := base) I'.ok.frames I'.stack rfl hx rfl (.inr ⟨T, oT, ts, h1, fly.ne, hT1, hT2, hT3⟩) fun h' T' O => ?_
  have J := I'.off (h' := h') rfl rfl O ⟨Nat.le_trans sz e1, he, ⟨_, vs, hx, rfl⟩, pl e e1⟩ fun T2 hT2' => by
    rw [h1] at hT2'; cases hT2'
    exact ⟨Nat.le_trans sz t1, hT, ⟨oT, ts, hT1, hT2⟩, pl T t1⟩
  have hv1 : 1 < vs.size := (Array.getElem?_eq_some_iff.mp h1).1
  refine ⟨e, C, dx, T', H', rfl, J.os, J.bare, J.base, J.hok, ⟨⟨_, sl, O.err, by simp [hv1]⟩, Nat.ne_of_gt (Nat.lt_of_lt_of_le le O.fresh), O.tb⟩, Nat.le_trans sz e1, Nat.le_trans I'.sz O.fresh, he, hok.fresh O.fresh, hE⟩
end L2
set_option Elab.async false
set_option linter.all false
set_option maxRecDepth 100000
namespace L2E
open PySem PySem.Builtin.ObjectAttr
section
variable {prog : Program} {w : World} {A : Around} {E : Value → Shared → Prop} {h : Heap} {g : Array GenState} {d : Drawn} {t : Nat} {os : OsState} {a dx : Addr} {o : Obj} {name : Str} {v : Value} {m : Str → Option Value}
  {nm q : Str} {C N : Addr} {bs bm : List Value} {hdct : Bool} {sn : List Str} {sub : List Value} {ab : Bool} {col : Option Bool} {dd : Option Addr} {k0 k1 k2 k3 k5 : Option Value} {newId : String}
theorem gaChecked {M : Model} {nameV : Value} {Q : Unit → Shared → Prop} (base : bm.contains (.type "BaseException") = true) (at_ : h.get? C = some (excClassObj nm q C N bs bm hdct sn sub ab col dd k0 k1 k2 k3 k5 newId))
    (hx : h.get? a = some o) (hc : o.cls = .ref C) (hq : Q () ⟨h, g, d, t, os⟩) : wpAny M A (checkBuiltinCall "BaseException.__getattribute__" ⟨[.ref a, nameV], []⟩) Q E ⟨h, g, d, t, os⟩ := by
  have hk : builtinKind "BaseException.__getattribute__" = some .slot := by decide +kernel
  have hsplit : splitId "BaseException.__getattribute__" = some ("BaseException", "__getattribute__") := by decide +kernel
  have hcB : (Value.ref C :: bm).contains (.type "BaseException") = true := by rw [List.contains_cons, base, Bool.or_true]
  have ha := F.args_bexc_ga (.ref a) nameV
  simp only [checkBuiltinCall, hk, hsplit]
  refine wpAny_bind ?_
  · unfold isInstance
    repeat (first | (with_reducible refine wpAny_loadPart_at hx ?_; rw [hc]) | (with_reducible refine wpAny_isSubtype_exc at_ ?_; rw [hcB]) | wp_step)
    exact hq
theorem foundEntry {tk : Tok} {Q : Fin → Shared → Prop} (at_ : h.get? C = some (excClassObj nm q C N bs bm true sn sub ab col dd k0 k1 k2 k3 k5 newId)) (fn : Finds h C name none)
    (hx : h.get? a = some o) (hc : o.cls = .ref C) (hnc : ∀ c, o.data ≠ .cls c) (hd : o.dict = some dx) (hns : h.Ns dx m) (hv : m name = some v) (hq : Q (.done (.ret v)) ⟨h, g, d, t, os⟩) :
    wpAny (model prog w) A (Builtin.«object.__getattribute__» ⟨[.ref a, .str name tk], []⟩) Q E ⟨h, g, d, t, os⟩ := by
  unfold Builtin.«object.__getattribute__»
  repeat (any_goals (first | assumption | (with_reducible refine wpAny_loadPart_at hx ?_; rw [hc]) | wp_step))
  refine fn _ _ _ _ _ _ _ _ ?_
  repeat (any_goals (first | assumption | (with_reducible refine wpAny_loadPart_at hx ?_; rw [hc]) | with_reducible refine wpAny_loadPart_at at_ ?_ | wp_step))
  split
  · rename_i c hcd
    exact absurd hcd (hnc c)
  unfold instanceDict
  repeat (first | (with_reducible refine wpAny_loadPart_at hx ?_; rw [hc]) | (with_reducible refine wpAny_loadPart_at hx ?_; rw [hd]) | with_reducible refine wpAny_loadPart_at hx ?_ | with_reducible refine wpAny_loadPart_at at_ ?_ | wp_step)
  rw [hd]
  repeat (first | (with_reducible refine wpAny_nsGet hns ?_; rw [hv]) | wp_step)
  exact hq
theorem foundBy {tk : Tok} {fill expr : Bool} {Q : Value → Shared → Prop} (base : bm.contains (.type "BaseException") = true) (at_ : h.get? C = some (excClassObj nm q C N bs bm true sn sub ab col dd k0 k1 k2 k3 k5 newId)) (fn : Finds h C name none)
    (fg : Finds h C "__getattribute__" (some (.builtin "BaseException.__getattribute__"))) (fh : Finds h C "__getattr__" none) (bind : ∀ x : Value, bindSpecial (.builtin "BaseException.__getattribute__") x = pure (.builtin "BaseException.__getattribute__", [x]))
    (hx : h.get? a = some o) (hc : o.cls = .ref C) (hnc : ∀ c, o.data ≠ .cls c) (hd : o.dict = some dx) (hns : h.Ns dx m) (hv : m name = some v) (hh : handedOut v = pure v) (hq : Q v ⟨h, g, d, t, os⟩) :
    wpAny (model prog w) A (getAttrBy (.ref a) (.str name tk) fill expr) Q E ⟨h, g, d, t, os⟩ := by
  have f3 := bind (.ref a)
  have hx0 : (expr && onTheHeap (Value.builtin "BaseException.__getattribute__")) = false := by cases expr <;> rfl
  have hx2 : (Value.builtin "BaseException.__getattribute__" == Value.builtin "object.__getattribute__") = false := by decide +kernel
  have hx1 : (onTheHeap (Value.ref C) && Value.builtin "BaseException.__getattribute__" == Value.builtin "object.__getattribute__") = false := by rw [hx2]; rfl
  unfold getAttrBy
  repeat (any_goals (first | assumption | (with_reducible refine wpAny_loadPart_at hx ?_; rw [hc]) | wp_step))
  refine fg _ _ _ _ _ _ _ _ ?_
  repeat (any_goals (first | assumption | (with_reducible refine wpAny_loadPart_at hx ?_; rw [hc]) | wp_step))
  refine fh _ _ _ _ _ _ _ _ ?_
  repeat (any_goals (first | assumption | (with_reducible refine wpAny_loadPart_at hx ?_; rw [hc]) | wp_step))
  refine codeAny_call_builtin (by decide +kernel) F.entry_bexc_ga (gaChecked base at_ hx hc (foundEntry at_ fn hx hc hnc hd hns hv ?_))
  repeat (any_goals (first | assumption | wp_step))
theorem bga_bind (x : Value) : bindSpecial (.builtin "BaseException.__getattribute__") x = pure (.builtin "BaseException.__getattribute__", [x]) := by kernel_rfl
theorem getErr {expr : Bool} {Q : Value → Shared → Prop} (base : bm.contains (.type "BaseException") = true) (at_ : h.get? C = some (excClassObj nm q C N bs bm true sn sub ab col dd k0 k1 k2 k3 k5 newId)) (fn : Finds h C name none)
    (fg : Finds h C "__getattribute__" (some (.builtin "BaseException.__getattribute__"))) (fh : Finds h C "__getattr__" none)
    (hx : h.get? a = some o) (hc : o.cls = .ref C) (hnc : ∀ c, o.data ≠ .cls c) (hd : o.dict = some dx) (hns : h.Ns dx m) (hv : m name = some v) (hh : handedOut v = pure v) (hq : Q v ⟨h, g, d, t + 1, os⟩) :
    wpAny (model prog w) A (getAttr (.ref a) name expr) Q E ⟨h, g, d, t, os⟩ := by
  unfold getAttr
  repeat (any_goals (first | assumption | with_reducible apply foundBy base at_ fn fg fh bga_bind hx hc hnc hd hns hv hh | wp_step))
end
end L2E
set_option Elab.async false
set_option linter.all false
set_option maxRecDepth 100000
namespace L2
open PySem PySem.Spec PyProof.Rows
structure ErrC (K : PySem.W.Frag) (C f : Addr) (bm : List Value) : Prop where
  obj : ∃ nm q N bs sn sub ab col dd k0 k1 k2 k3 k5, K.lookup C = some (excClassObj nm q C N bs bm true sn sub ab col dd k0 k1 k2 k3 k5 "ValueError.__new__")
  init : PySem.W.findIn K (.ref C) "__init__" = some (some (.ref f))
  fn : PySem.W.isFn K (.ref f) = true
  kp : PySem.W.keepIn K (.ref C) = true
  sa : PySem.W.findIn K (.ref C) "__setattr__" = some (some (.builtin "object.__setattr__"))
  ga : PySem.W.findIn K (.ref C) "__getattribute__" = some (some (.builtin "BaseException.__getattribute__"))
  gh : PySem.W.findIn K (.ref C) "__getattr__" = some none
  tail : L2E.Tail bm "ValueError"
  base : bm.contains (.type "BaseException") = true
  own : bm.contains (.type "object") = true
  pass : ∀ x, refuseLoop x "__setattr__" bm = pure ()
theorem finds_K {K : PySem.W.Frag} {h : Heap} {C : Addr} {x : Str} {v : Option Value} (X : K.In h) (e : PySem.W.findIn K (.ref C) x = some v) : L2E.Finds h C x v := fun _ _ _ _ _ _ _ _ z => (PySem.W.looks_findIn X e).here z
theorem isFn_at {K : PySem.W.Frag} {h : Heap} {f : Addr} (X : K.In h) (e : PySem.W.isFn K (.ref f) = true) : ∃ o, h.get? f = some o ∧ o.cls = .type "function" := by
  have e : (K.lookup f).map (·.cls) = some (.type "function") := beq_iff_eq.mp e
  cases q : K.lookup f with
  | none => rw [q] at e; cases e
  | some o => rw [q] at e; exact ⟨o, X _ _ q, by injection e⟩
def errO (e C : Addr) (dx : Option Addr) : HO := .ext fun h => ∃ t0, h.get? e = some { cls := .ref C, dict := dx, data := .fields #[.ref t0, .none, .none, .none, .bool false, .none] }
theorem errO_ok {P : Program} {w : World} {H : Hp} {h : Heap} {e C t0 : Addr} {dx : Option Addr} (he : h.get? e = some { cls := .ref C, dict := dx, data := .fields #[.ref t0, .none, .none, .none, .bool false, .none] }) : ObjOk P w H h e (errO e C dx) :=
  ⟨⟨t0, he⟩, ⟨_, he⟩, fun _ _ ⟨t, q⟩ k => ⟨t, k _ q⟩⟩
theorem errO_at {P : Program} {w : World} {H : Hp} {h : Heap} {e C : Addr} {dx : Option Addr} (ok : HOk P w H h) (he : H e = some (errO e C dx)) : ∃ t0, h.get? e = some { cls := .ref C, dict := dx, data := .fields #[.ref t0, .none, .none, .none, .bool false, .none] } := (ok e _ he).1
theorem upd_self {H : Hp} {a : Addr} {o : HO} (h : H a = some o) : upd H a o = H := funext fun b => by
  by_cases e : b = a
  · subst e; rw [upd_same, h]
  · rw [upd_ne e]
section
variable {X : Cx} {p ap pos : Pos} {a b : Expr} {ta : TA}
theorem ve_find {K : PySem.W.Frag} : PySem.W.findCls K (.type "ValueError") (.type "type") "__init__" = some (.val (.builtin "ValueError.__init__")) := by
  kernel_rfl
def tInitB (K : PySem.W.Frag) (ta : TA) : TE := fun σ H Q => ta σ H fun vs H1 => ∃ e C u f bm, vs = [.ref e, u] ∧ ErrC K C f bm ∧ H1 e = some (errO e C none) ∧ Q .non H1
theorem pe_initB {pl : Sem Bool} (hg : Gl X "ValueError") (hm : X.mg "ValueError" = none) (ha : PA X [a, b] ta)
    (ht : eval (.Call (.Attribute (.Name "ValueError" p) "__init__" ap) [a, b] [] pos) X.env = (do
      let ov ← eval (.Name "ValueError" p) X.env
      standAt ap.atName
      let (f, first) ← holding [ov] (getMethod ov "__init__" pl)
      callWith pos f first (backTo pos (starEach [a, b] X.env)) (backToKw pos (keywordEach [] X.env))) := by rfl)
    (he : starEach [a, b] X.env = (false, eval a X.env) :: starEach [b] X.env := by rfl) (hpl : (backTo pos (starEach [b] X.env)).any (·.1) = false := by rfl) :
    PE X (.Call (.Attribute (.Name "ValueError" p) "__init__" ap) [a, b] [] pos) (tInitB X.K ta) := by
  intro pins s σ H Q I h
  refine PySem.W.methodCall_KW (pl := pl) (ld_blt I hg hm (by decide +kernel : bootBuiltins "ValueError" = some (.type "ValueError")) ?_) ht
  have L0 : ∀ {M : Model} {h : Heap}, PySem.W.Looks M h (typeOf (.type "ValueError")) (.type "type") := PySem.W.Looks.of_pure (PySem.W.kitMeta_of (by decide +kernel))
  have hg0 : PySem.W.findIn X.K (.type "type") "__getattribute__" = some (some (.builtin "type.__getattribute__")) := PySem.W.type_tga
  have L1 : PySem.W.Looks (model X.prog X.w) s.heap (specialOf (.type "ValueError") "__getattribute__") (some (.builtin "type.__getattribute__")) := L0.andThen (PySem.W.looks_findIn I.kIn hg0)
  unfold getMethod
  refine wpAny_bind (L1.here ?_)
  dsimp only
  rw [if_pos PySem.W.canon_tga]
  refine wpAny_bind (PySem.W.cls_open I.kIn (PySem.W.Looks.of_pure (by kernel_rfl)) L0 hg0 (PySem.W.looks_hook I.kIn (r := none) (by rfl)) (by show PySem.W.subIn X.K _ _ = _; rfl) ve_find (wpAny_pure ?_))
  show wpAny _ _ (handedOut _) _ _ _
  rw [PySem.W.handedOut_of (by decide +kernel)]
  refine wpAny_pure (wpAny_pure ?_)
  have I0 := I.tok (s.toks + 1)
  refine PyProof.Rows.callWith_builtin1 (thn (ha pos pins _ σ H _ I0 h) fun us s1 ⟨vs, H1, I1, r1, q1⟩ => ?_) he hpl
  obtain ⟨e, C, u, f, bm, rfl, ec, hH, q⟩ := q1
  cases r1 with
  | cons ra rb =>
    cases rb with
    | cons rc rd =>
      cases rd
      cases ra
      rename_i u'
      obtain ⟨nm, q0, N, bs, sn, sub, ab, col, dd, k0, k1, k2, k3, k5, lk⟩ := ec.obj
      have at_ := I1.kIn _ _ lk
      obtain ⟨t0, hx⟩ := errO_at I1.hok hH
      obtain ⟨hh, g, d, t, os⟩ := s1
      refine L2E.initErr PySem.F.excBase_ValueError ec.tail.base at_ hx (by show 1 ≤ sizeLine; decide) fun h' z1 z2 z3 => ?_
      have J := I1.write (h' := h') (x := e) (e := e) (o := errO e C none) (t' := t) (by rw [hH]; exact True.intro) (.inl rfl) z1 ⟨_, z2⟩ (errO_ok z2)
      rw [upd_self hH] at J
      exact ⟨.non, H1, J, rfl, q⟩
structure ClsFn (K : PySem.W.Frag) (C f : Addr) : Prop where
  sp : PySem.W.specialIn K (.ref C) "__getattribute__" = some (some (.builtin "type.__getattribute__"))
  rd : PySem.W.readsIn K C (.type "type") = true
  fc : PySem.W.findCls K (.ref C) (.type "type") "__init__" = some (.val (.ref f))
  kp : PySem.W.keepIn K (.ref f) = true
theorem pe_initM {pl : Sem Bool} {CX : CXT} {E : XK} {k : Nat} {C f : Addr} {fd : FuncData} {ps : List Str} {sp : Sp} {x : Str} {es : List Expr} (cf : ClsFn X.K C f) (F : FnOk X.prog X.w X.K X.mg X.base CX k f fd ps sp) (hr : Room k X.A) (hb : Binds X.K fd ps []) (hx : Passes CX X E)
    (hg : Gl X x) (hm : X.mg x = some (.ref C)) (ha : PA X (a :: es) ta)
    (ht : eval (.Call (.Attribute (.Name x p) "__init__" ap) (a :: es) [] pos) X.env = (do
      let ov ← eval (.Name x p) X.env
      standAt ap.atName
      let (f, first) ← holding [ov] (getMethod ov "__init__" pl)
      callWith pos f first (backTo pos (starEach (a :: es) X.env)) (backToKw pos (keywordEach [] X.env))) := by rfl)
    (hdb : (x == ("__debug__" : Str)) = false := by decide) (he : starEach (a :: es) X.env = (false, eval a X.env) :: starEach es X.env := by rfl) (hpl : (backTo pos (starEach es X.env)).any (·.1) = false := by rfl) :
    PE X (.Call (.Attribute (.Name x p) "__init__" ap) (a :: es) [] pos) (tCall sp [] E ta) := by
  intro pins s σ H Q I h
  refine PySem.W.methodCall_KW (pl := pl) (ld_glob I hg hm ?_ hdb) ht
  refine PySem.W.method_cls I.kIn cf.sp (PySem.W.cls_value I.kIn cf.rd cf.fc rfl ?_)
  have I0 := I.tok (s.toks + 1)
  refine PySem.W.callWith_K (h₀ := X.base) I.ok.mod.kin cf.kp (thn (ha pos pins _ σ H _ I0 h) fun us s1 ⟨vs, H1, I1, r, q⟩ => ⟨I1.kIn, ?_⟩) he hpl
  exact run_fn F hr hb .nil hx I1 r q
end
end L2
set_option Elab.async false
set_option linter.all false
set_option maxRecDepth 100000
namespace L2
open PySem PySem.Spec PyProof.Rows
section
variable {X : Cx} {pins : List (Addr × Obj)} {σ : St} {H : Hp} {s : Shared} {pos pos' : Pos} {o value : Expr} {fld : Str} {ta tv : TE}
def sSetE (K : PySem.W.Frag) (ta tv : TE) (fld : Str) : TS := fun D σ H => tv σ H fun y H1 => ta σ H1 fun x H2 => ∃ e C f bm, x = .ref e ∧ ErrC K C f bm ∧ PySem.W.findIn K (.ref C) fld = some none ∧ H2 e = some (errO e C none) ∧
  ∀ dx, H2 dx = none → dx ≠ e → D.nx σ (upd (upd H2 e (errO e C (some dx))) dx (.xd [(fld, y)]))
theorem ps_setE (ha : PE X o ta) (hv : PE X value tv) (hs : swapsWith value (some (.Attribute o fld pos')) pos.line X.env = pure false) : PS X (.Assign [.Attribute o fld pos'] value pos) (sSetE X.K ta tv fld) := by
  intro pins s σ H D I h
  refine plainObj_wpAny_Assign_Attribute (thn (hv pins s σ H _ I h) fun u s1 ⟨y, H1, I1, ry, q⟩ => thn (ha pins s1 σ H1 _ I1 q) fun ov s2 ⟨x, H2, I2, rx, e, C, f, bm, ex, ec, nf, hH, q2⟩ => ?_) hs
  subst ex
  obtain rfl : ov = Value.ref e := rx
  obtain ⟨nm, q0, N, bs, sn, sub, ab, col, dd, k0, k1, k2, k3, k5, lk⟩ := ec.obj
  have at_ := I2.kIn _ _ lk
  obtain ⟨t0, hx⟩ := errO_at I2.hok hH
  obtain ⟨hh, g, d, t, os⟩ := s2
  refine L2E.setErr PySem.F.store_ValueError ec.own at_ (ec.pass _) (finds_K I2.kIn ec.sa) (finds_K I2.kIn nf) hx rfl rfl (fun c z => nomatch z) fun h' tk' z1 z2 z3 => ?_
  have lt := Heap.lt_size hx
  have hn : H2 hh.objs.size = none := I2.hok.fresh (Nat.le_refl _)
  have J := I2.write (h' := h') (x := e) (e := e) (o := errO e C (some hh.objs.size)) (t' := tk') (by rw [hH]; exact True.intro) (.inl rfl) z3 ⟨_, z1⟩ (errO_ok z1)
  have ne : hh.objs.size ≠ e := Nat.ne_of_gt lt
  have hn' : upd H2 e (errO e C (some hh.objs.size)) hh.objs.size = none := by rw [upd_ne ne]; exact hn
  have J2 := J.take (D := hh.objs.size) (o := .xd [(fld, y)]) (I2.fpOk (Nat.le_refl _) hn') I2.sz ⟨_, z2, fun n => ?_⟩
  · exact ⟨σ, _, J2, q2 _ hn ne⟩
  · show RelO (List.lookup n [(fld, y)]) _
    rw [List.lookup_cons]
    by_cases c : n = fld
    · subst c
      simp only [beq_self_eq_true, if_true]
      exact ry
    · have : (n == fld) = false := by simpa using c
      rw [this, if_neg c]
      exact True.intro
def del (H : Hp) (e : Addr) : Hp := fun b => if b = e then none else H b
theorem del_same {H : Hp} {e : Addr} : del H e e = none := if_pos rfl
theorem del_ne {H : Hp} {e b : Addr} (n : b ≠ e) : del H e b = H b := if_neg n
theorem del_upd {H : Hp} {e : Addr} {o : HO} : del (upd H e o) e = del H e := funext fun b => by
  by_cases c : b = e
  · subst c; rw [del_same, del_same]
  · rw [del_ne c, del_ne c, upd_ne c]
theorem del_updN {H : Hp} {e a : Addr} {o : HO} (n : a ≠ e) : del (upd H a o) e = upd (del H e) a o := funext fun b => by
  by_cases c : b = e
  · subst c; rw [del_same, upd_ne n.symm, del_same]
  · rw [del_ne c]
    by_cases d : b = a
    · subst d; rw [upd_same, upd_same]
    · rw [upd_ne d, upd_ne d, del_ne c]
theorem del_none {H : Hp} {e : Addr} (h : H e = none) : del H e = H := funext fun b => by
  by_cases c : b = e
  · subst c; rw [del_same, h]
  · rw [del_ne c]
theorem Inv.drop {e C : Addr} {dx : Option Addr} (I : Inv X pins σ H s) (he : H e = some (errO e C dx)) : Inv X pins σ (del H e) s := by
  have nt : ∀ b u, H b = some u → (∀ φ, u ≠ .ext φ) → del H e b = some u := fun b u q n => by
    rw [del_ne]
    · exact q
    · rintro rfl
      rw [he] at q; cases q
      exact n _ rfl
  have nn : ∀ b, H b = none → del H e b = none := fun b q => by
    by_cases c : b = e
    · subst c; exact del_same
    · rw [del_ne c]; exact q
  refine ⟨I.ok, I.os, I.bare, ⟨I.base.keep, I.base.slot, fun b o q n hx => nn b (I.base.free b o q n hx), I.base.there, fun b xs q => nt b _ (I.base.tups b xs q) (fun _ z => nomatch z), fun b o u q => nt b _ (I.base.frzs b o u q) (fun _ z => nomatch z), fun b ps q => ?_⟩, I.loc, I.cell, nn _ I.free, fun x c q => nn c (I.freeC x c q), fun p hp => ?_, fun b u q => ?_, I.len⟩
  · obtain ⟨m, z⟩ := I.base.tbls b ps q
    exact ⟨m, nt b _ z (fun _ y => nomatch y)⟩
  · obtain ⟨z1, z2, z3⟩ := I.pin p hp
    exact ⟨z1, nn _ z2, z3⟩
  · have c : b ≠ e := by rintro rfl; rw [del_same] at q; cases q
    rw [del_ne c] at q
    exact (I.hok b u q).stay (fun _ _ _ z => z) (fun a z => nt a _ z (fun _ y => nomatch y)) fun a xs z => nt a _ z (fun _ y => nomatch y)
theorem run_err {CX : CXT} {E : XK} {k : Nat} {C f : Addr} {bm : List Value} {fd : FuncData} {ps : List Str} {sp : Sp} {Q : Value → Shared → Prop} {us : List Value} {vs : List V} (M : ErrC X.K C f bm) (F : FnOk X.prog X.w X.K X.mg X.base CX k f fd ps sp) (hr : Room (k + 1) X.A) (hb : Binds X.K fd ps [])
    (hx : Passes CX X E) (I : Inv X pins σ H s) (r : Vals vs us) (few : us.length ≤ sizeLine)
    (h : ∀ e, s.heap.objs.size ≤ e → H e = none → sp (.ref e :: vs) (upd H e (errO e C none)) (fun v H2 => v = .non ∧ ∀ s', Inv X pins σ H2 s' → Q (.ref e) s') E) :
    wpAny (model X.prog X.w) X.A (call (.ref C) us) Q X.xe s := by
  obtain ⟨nm, q0, N, bs, sn, sub, ab, col, dd, k0, k1, k2, k3, k5, lk⟩ := M.obj
  have at_ := I.kIn _ _ lk
  obtain ⟨of, hf, hc⟩ := isFn_at I.kIn M.fn
  obtain ⟨hh, g, d, t, os⟩ := s
  have hq := h (hh.objs.size + 1) (Nat.le_succ _) (I.hok.fresh (Nat.le_succ _))
  have kl : PySem.W.Frag.In X.K (L2E.laid hh C us) := I.kIn.keeps fun _ _ z => L2E.laid_old z
  have I2 : Inv X pins σ (upd H (hh.objs.size + 1) (errO (hh.objs.size + 1) C none)) ⟨L2E.laid hh C us, g, d, t, os⟩ := I.laid (h' := L2E.laid hh C us) (a := hh.objs.size + 1) (o := errO (hh.objs.size + 1) C none) (t' := t) (fun _ _ z => L2E.laid_old z) (Nat.le_succ _) (errO_ok L2E.laid_new)
  have r2 : Vals (V.ref (hh.objs.size + 1) :: vs) (Value.ref (hh.objs.size + 1) :: us) := .cons rfl r
  have hl : (Value.ref (hh.objs.size + 1) :: us ++ []).length = ps.length := by
    rw [List.append_nil, ← r2.length]
    exact F.len _ _ _ _ hq
  refine L2E.callErr PySem.F.excBase_ValueError M.tail at_ (finds_K kl M.init) hf hc few ?_
  refine wpAny_call (codeAny_mono (F.run _ X.stack _ _ ⟨Value.ref (hh.objs.size + 1) :: us, []⟩ (Value.ref (hh.objs.size + 1) :: us) _ _ E (hr.make C us []) (I2.env0.make C us []) (by have := hb _ (Value.ref (hh.objs.size + 1) :: us) I2.kIn hl; rw [List.append_nil] at this; exact this) r2 hq) fun r s' hq' => ?_)
  cases r with
  | error e => exact hx pins σ _ _ e s' I2 hq'
  | ok fl =>
    cases fl with
    | ret u =>
      obtain ⟨v, H', I3, rv, ev, q3⟩ := I2.after hq'
      subst ev
      exact ⟨rv, q3 _ I3⟩
    | next => exact False.elim hq'
    | brk => exact False.elim hq'
    | cont => exact False.elim hq'
def Throws (X : Cx) (E : XK) : Prop := ∀ (pins : List (Addr × Obj)) (σ : St) (H : Hp) (s : Shared) (e C dx : Addr) (vs : Array Value), Inv X pins σ H s → s.heap.get? e = some { cls := .ref C, dict := some dx, data := .fields vs } → vs[1]? = some .none → Own X pins H s.heap e → E (.ref C) (some dx) H → X.xe (.ref e) s
end
theorem throwE {P : Program} {w : World} {K : PySem.W.Frag} {mg : Str → Option Value} {base : Heap} {N : List Str} {qual : Str} {scope : Scope} {f : Addr} {cd : Value} {A : Around} {outer : List Env} {s0 : Shared} {H0 : Hp} {E : XK} :
    Throws (cxOf (CXE P w) P w K mg base N qual scope f cd A outer s0 H0 E) E := by
  intro pins σ H s e C dx vs I hx h1 ow hE
  have le := Heap.lt_size hx
  show wpAny _ _ (leaving _ (.ref e)) _ _ _
  refine L2E.leaveOff (base := base) I.ok.frames I.stack rfl hx rfl (.inl h1) fun h' T' O => ?_
  have J := I.off (h' := h') rfl rfl O ow fun T2 hT2' => by rw [h1] at hT2'; cases hT2'
  have hv1 : 1 < vs.size := (Array.getElem?_eq_some_iff.mp h1).1
  exact ⟨e, C, dx, T', H, rfl, J.os, J.bare, J.base, J.hok, ⟨⟨_, #[], O.err, by simp [hv1]⟩, Nat.ne_of_gt (Nat.lt_of_lt_of_le le O.fresh), O.tb⟩, ow.new, Nat.le_trans I.sz O.fresh, ow.free, I.hok.fresh O.fresh, hE⟩
end L2
set_option Elab.async false
set_option linter.all false
set_option maxRecDepth 100000
namespace L2
open PySem PySem.Spec PyProof.Rows
def spMeet (K : PySem.W.Frag) : Sp := fun vs H Q _ => ∃ e C u f bm, vs = [.ref e, u] ∧ ErrC K C f bm ∧ H e = some (errO e C none) ∧ Q .non H
def spErr1 (C : Addr) (fld : Str) : Sp := fun vs H Q _ => ∃ e v, vs = [.ref e, v] ∧ H e = some (errO e C none) ∧ ∀ dx, H dx = none → dx ≠ e → Q .non (upd (upd H e (errO e C (some dx))) dx (.xd [(fld, v)]))
section
variable {X : Cx} {a : Expr} {t : TA} {E : XK} {k : Nat} {C f : Addr} {bm : List Value} {fd : FuncData} {ps : List Str} {x fld : Str} {p cpos pos : Pos}
def tRaise (C : Addr) (fld : Str) (E : XK) (t : TA) : TS := fun _ σ H => t σ H fun vs H1 => ∃ v, vs = [v] ∧ ∀ dx, H1 dx = none → E (.ref C) (some dx) (upd H1 dx (.xd [(fld, v)]))
theorem ps_raise1 (hc : X.calm = true) (M : ErrC X.K C f bm) (F : FnOk X.prog X.w X.K X.mg X.base CX0 k f fd ps (spErr1 C fld)) (hr : Room (k + 1) X.A) (hb : Binds X.K fd ps []) (hg : Gl X x) (hm : X.mg x = some (.ref C)) (ht : Throws X E) (ha : PA X [a] t)
    (hdb : (x == ("__debug__" : Str)) = false := by decide) (he : starEach [a] X.env = (false, eval a X.env) :: starEach [] X.env := by rfl) (hpl : (backTo cpos (starEach [] X.env)).any (·.1) = false := by rfl) :
    PS X (.Raise (some (.Call (.Name x p) [a] [] cpos)) none pos) (tRaise C fld E t) := by
  intro pins s σ H D I h
  obtain ⟨nm, q0, N, bs, sn, sub, ab, col, dd, k0, k1, k2, k3, k5, lk⟩ := M.obj
  have go : wpAny (model X.prog X.w) X.A (eval (.Call (.Name x p) [a] [] cpos) X.env) (fun v s1 => ∃ e dx ta sl, v = .ref e ∧ s1.heap.get? C = some (excClassObj nm q0 C N bs bm true sn sub ab col dd k0 k1 k2 k3 k5 "ValueError.__new__") ∧ s1.heap.get? e = some { cls := .ref C, dict := dx, data := .fields #[.ref ta, .none, .none, .none, .bool false, .none], slots := sl } ∧ X.xe (.ref e) s1) X.xe s := by
    refine wpAny_Call_Name_kw (ld_glob I hg hm ?_ hdb)
    refine PySem.W.callWith_K (h₀ := X.base) I.ok.mod.kin M.kp (thn (ha cpos pins s σ H _ I h) fun us s1 ⟨vs, H1, I1, r, q⟩ => ⟨I1.kIn, ?_⟩) he hpl
    obtain ⟨v, rfl, q⟩ := q
    obtain ⟨u, rfl, ru⟩ := vals1 r
    refine run_err M F hr hb pass0 I1 r (by show 1 ≤ sizeLine; decide) fun e le hn => ⟨e, v, rfl, upd_same, fun dx hdx ne => ⟨rfl, fun s' I' => ?_⟩⟩
    rw [upd_ne ne] at hdx
    have hE := q dx hdx
    have heq : (upd (upd (upd H1 e (errO e C none)) e (errO e C (some dx))) dx (.xd [(fld, v)])) e = some (errO e C (some dx)) := by rw [upd_ne ne.symm, upd_same]
    obtain ⟨t0, hx⟩ := errO_at I'.hok heq
    have I'' := I'.drop heq
    rw [del_updN ne, del_upd, del_upd, del_none hn] at I''
    refine ⟨e, some dx, t0, #[], rfl, I'.kIn _ _ lk, hx, ht pins σ _ s' e C dx _ I'' hx rfl ⟨Nat.le_trans I1.sz le, by rw [upd_ne ne.symm]; exact hn, ⟨_, _, hx, rfl⟩, fun p hp z => ?_⟩ hE⟩
    have := Heap.lt_size (I1.pin p hp).1
    rw [z] at this
    exact absurd (Nat.lt_of_lt_of_le this le) (Nat.lt_irrefl _)
  rw [arm_exec_Raise]
  first
    | exact wpAny_bind (wpAny_standAt (L2E.raiseErr M.base (I.ok.hd hc) (wpAny_bind (wpAny_mono go (fun v s₁ h₁ => wpAny_bind (wpAny_standAt (wpAny_pure h₁))) fun _ _ x => x))))
    | (simp only [evalOpt, Option.map]; exact wpAny_bind (wpAny_standAt (L2E.raiseErr M.base (I.ok.hd hc) (wpAny_bind (wpAny_mono go (fun v s₁ h₁ => wpAny_bind (wpAny_standAt (wpAny_pure h₁))) fun _ _ x => x)))))
    | (show wpAny _ _ (do standAt pos; raiseStmt X.env (some (do let v ← eval (.Call (.Name x p) [a] [] cpos) X.env; standAt pos; pure v)) none) _ _ s; exact wpAny_bind (wpAny_standAt (L2E.raiseErr M.base (I.ok.hd hc) (wpAny_bind (wpAny_mono go (fun v s₁ h₁ => wpAny_bind (wpAny_standAt (wpAny_pure h₁))) fun _ _ x => x)))))
end
theorem Fun.okE {P : Program} {w : World} {K : PySem.W.Frag} {mg : Str → Option Value} {base : Heap} {x qual : Str} {st : Stmt} {f : Addr} {fd : FuncData} {N ps : List Str} {k : Nat} {sp : Sp} (F : Fun K x qual st f fd) (S : FnScope N ps (defScope st)) (len : ∀ vs H Q E, sp vs H Q E → vs.length = ps.length)
    (hbody : ∀ (cdv : Value) (A : Around) (outer : List Env) (s : Shared) (H : Hp) (vs : List V) (Q : VK) (E : XK), Room k (A.deeper (envOfC qual (defScope st) s.heap.objs.size f cdv)) → sp vs H Q E →
      ∃ t, PSs (cxOf (CXE P w) P w K mg base N qual (defScope st) f cdv A outer s H E) (defBody st) t ∧ t { nx := fun _ H' => Q .non H', rt := Q } (start N vs) H) : FnOk P w K mg base (CXE P w) (k + 1) f fd ps sp := by
  obtain ⟨oc, od, kV, doc, pm, an, cdv, ct, osl, rfl, lk, hcd⟩ := F.ex
  exact fn_of lk hcd S len fun A outer s H vs Q E hr hsp => hbody cdv A outer s H vs Q E hr hsp
end L2
set_option Elab.async false
set_option linter.all false
set_option maxRecDepth 100000
namespace L2
open PySem PySem.Spec PyProof.Rows
abbrev Cx.pinned (X : Cx) (pn : List (Addr × Obj)) : Cx := { X with pn := pn }
abbrev Cx.suite (X : Cx) (e : Value) : Cx := { X with A := X.A.mark (some e), calm := false, xe := fun _ _ => False }
section
variable {X : Cx} {pins : List (Addr × Obj)} {σ : St} {H : Hp} {s : Shared} {E : XK} {xe : Value → Shared → Prop} {ev : Value}
theorem Inv.pinT (I : Inv X pins σ H s) : Inv (X.pinned (X.pn ++ pins)) [] σ H s :=
  ⟨⟨I.ok.mod, I.ok.kind, I.ok.glob, I.ok.blt, I.ok.above, I.ok.inj, I.ok.has, I.ok.cab, I.ok.hd, I.ok.frames, I.ok.stk, I.ok.exf, I.ok.bs, I.ok.bsz, I.ok.noex, I.ok.exfs, I.ok.funs, I.ok.frf⟩, I.os, I.bare, I.base, I.loc, I.cell, I.free, I.freeC, fun p hp => I.pin p (by simpa using hp), I.hok, I.len⟩
theorem Inv.unpinT {ps : List (Addr × Obj)} (I : Inv (X.pinned (X.pn ++ pins)) ps σ H s) : Inv X pins σ H s :=
  ⟨⟨I.ok.mod, I.ok.kind, I.ok.glob, I.ok.blt, I.ok.above, I.ok.inj, I.ok.has, I.ok.cab, I.ok.hd, I.ok.frames, I.ok.stk, I.ok.exf, I.ok.bs, I.ok.bsz, I.ok.noex, I.ok.exfs, I.ok.funs, I.ok.frf⟩, I.os, I.bare, I.base, I.loc, I.cell, I.free, I.freeC, fun p hp => I.pin p (List.mem_append_left _ hp), I.hok, I.len⟩
theorem Inv.suite (I : Inv X pins σ H s) (e : Value) : Inv (X.suite e) pins σ H s :=
  ⟨⟨I.ok.mod, I.ok.kind, I.ok.glob, I.ok.blt, I.ok.above, I.ok.inj, I.ok.has, I.ok.cab, (fun z => absurd z (by simp)), I.ok.frames, I.ok.stk, I.ok.exf, I.ok.bs, I.ok.bsz, I.ok.noex, I.ok.exfs, I.ok.funs, I.ok.frf⟩, I.os, I.bare, I.base, I.loc, I.cell, I.free, I.freeC, I.pin, I.hok, I.len⟩
theorem Inv.unsuite (ok : X.Ok) (I : Inv (X.suite ev) pins σ H s) : Inv X pins σ H s := ⟨ok, I.os, I.bare, I.base, I.loc, I.cell, I.free, I.freeC, I.pin, I.hok, I.len⟩
theorem SP.unpinned {D : Ends} {f : Flow} (h : SP ((X.pinned (X.pn ++ pins)).wish xe) [] D f s) : SP X pins D f s := by
  cases f with
  | next => obtain ⟨σ', H', I, q⟩ := h; exact ⟨σ', H', I.unwish.unpinT, q⟩
  | brk => obtain ⟨σ', H', I, q⟩ := h; exact ⟨σ', H', I.unwish.unpinT, q⟩
  | cont => obtain ⟨σ', H', I, q⟩ := h; exact ⟨σ', H', I.unwish.unpinT, q⟩
  | ret u => obtain ⟨v, σ', H', I, r, q⟩ := h; exact ⟨v, σ', H', I.unwish.unpinT, r, q⟩
end
def XE (X : Cx) (E : XK) : Value → Shared → Prop := fun ev s' => ∃ (e C dx : Addr) (vs : Array Value) (sl : Array (Option Value)) (σ' : St) (H' : Hp), ev = .ref e ∧ Inv X [] σ' H' s' ∧ s'.heap.get? e = some { cls := .ref C, dict := some dx, data := .fields vs, slots := sl } ∧ Own X [] H' s'.heap e ∧
  (vs[1]? = some .none ∨ ∃ T oT ts, vs[1]? = some (.ref T) ∧ T ≠ e ∧ s'.heap.get? T = some oT ∧ oT.data = .fields ts ∧ ts[3]? = some .none ∧ Own X [] H' s'.heap T) ∧ E (.ref C) (some dx) H'
theorem Inv.nopins {X : Cx} {pins : List (Addr × Obj)} {σ : St} {H : Hp} {s : Shared} (I : Inv X pins σ H s) : Inv X [] σ H s := I.pins_of fun p hp => nomatch hp
theorem passT {Y : Cx} {E : XK} : Passes (CXE Y.prog Y.w) (Y.wish (XE Y E)) E := by
  intro pins σ H s ev s' I hc
  obtain ⟨e, C, dx, T, H', rfl, os, bare, un, hok, fly, e1, t1, he, hT, hE⟩ := hc
  obtain ⟨hh, g, d, t, os'⟩ := s'
  obtain rfl : os' = s.os := os
  have I' := I.call (h' := hh) (g' := g) (d' := d) (t' := t) (ch := []) un hok bare (fun b z => absurd z (by simp))
  obtain ⟨vs, sl, hx, h1⟩ := fly.ex
  obtain ⟨oT, ts, hT1, hT2, hT3⟩ := fly.tb
  have pl : ∀ b, s.heap.objs.size ≤ b → ∀ p ∈ (Y.wish (XE Y E)).pn ++ pins, p.1 ≠ b := fun b hb p hp z => by
    have := Heap.lt_size (I.pin p hp).1
    rw [z] at this
    exact absurd (Nat.lt_of_lt_of_le this hb) (Nat.lt_irrefl _)
  have own : ∀ b, s.heap.objs.size ≤ b → H' b = none → (∃ o vs, hh.get? b = some o ∧ o.data = .fields vs) → Own Y [] H' hh b := fun b hb hn hr => ⟨Nat.le_trans I.sz hb, hn, hr, fun p hp => pl b hb p (List.mem_append_left _ (by simpa using hp))⟩
  exact ⟨e, C, dx, vs, sl, σ, H', rfl, I'.unwish.nopins, hx, own e e1 he ⟨_, vs, hx, rfl⟩, .inr ⟨T, oT, ts, h1, fly.ne, hT1, hT2, hT3, own T t1 hT ⟨oT, ts, hT1, hT2⟩⟩, hE⟩
def PH (X : Cx) (hs : List ExceptHandler) (t : Addr → Addr → TS) : Prop := ∀ (pins : List (Addr × Obj)) (s : Shared) (σ : St) (H : Hp) (D : Ends) (e C dx T : Addr), Inv X pins σ H s → Fly s.heap e C dx T → Own X pins H s.heap e → Own X pins H s.heap T → t C dx D σ H →
  wpAny (model X.prog X.w) X.A (handleBy (.ref e) X.env hs) (SP X pins D) X.xe s
def tTry (tb : XK → TS) (th : Addr → Addr → TS) : TS := fun D σ H => ∃ E : XK, tb E D σ H ∧ ∀ C dx σ' H', E (.ref C) (some dx) H' → σ'.length = σ.length → th C dx D σ' H'
theorem ps_try {X : Cx} {body : List Stmt} {h₀ : ExceptHandler} {hs : List ExceptHandler} {pos : Pos} {tb : XK → TS} {th : Addr → Addr → TS} (hst : X.stack = X.env :: X.outer) (hfr : X.env.frame = some X.env.locals)
    (hb : ∀ (pn : List (Addr × Obj)) (E : XK), PSs ((X.pinned pn).wish (XE (X.pinned pn) E)) body (tb E)) (hh : PH X (h₀ :: hs) th) : PS X (.Try body (h₀ :: hs) [] [] pos) (tTry tb th) := by
  intro pins s σ H D I ⟨E, ht, hx⟩
  refine wpAny_Try_except (wpAny_mono (hb (X.pn ++ pins) E [] s σ H D (I.pinT.wish _) ht) (fun f s1 hs => ?_) (fun ev s1 hx1 => ?_))
  · have q := SP.unpinned hs
    cases f with
    | next => exact wpAny_execs_nil q
    | brk => exact q
    | cont => exact q
    | ret u => exact q
  · obtain ⟨e, C, dx, vs, sl, σ', H', rfl, I', hx', oe, fl, hE⟩ := hx1
    have le := Heap.lt_size hx'
    refine L2E.noteOff (base := X.base) (env := X.env) (outer := X.outer) (L := X.env.locals) (by rw [← hst]; exact I'.ok.frames) (by rw [← hst]; exact I'.stack) hfr hx' rfl (fl.elim .inl fun ⟨T, oT, ts, a1, a2, a3, a4, a5, _⟩ => .inr ⟨T, oT, ts, a1, a2, a3, a4, a5⟩) fun h' T' O => ?_
    rw [← hst] at O
    have J := I'.off (h' := h') hst hfr O oe fun T hT => by
      rcases fl with fl | ⟨T2, oT, ts, a1, a2, a3, a4, a5, a6⟩
      · rw [fl] at hT; cases hT
      · rw [a1] at hT; cases hT; exact a6
    have hv1 : 1 < vs.size := by
      rcases fl with fl | ⟨T2, oT, ts, a1, _⟩
      · exact (Array.getElem?_eq_some_iff.mp fl).1
      · exact (Array.getElem?_eq_some_iff.mp a1).1
    have fly : Fly h' e C dx T' := ⟨⟨_, sl, O.err, by simp [hv1]⟩, Nat.ne_of_gt (Nat.lt_of_lt_of_le le O.fresh), O.tb⟩
    have oe2 : Own X pins H' h' e := ⟨oe.new, oe.free, ⟨_, _, O.err, rfl⟩, fun p hp => oe.pin p (by simpa using hp)⟩
    obtain ⟨oT, ts, t1, t2, t3⟩ := O.tb
    have oT2 : Own X pins H' h' T' := ⟨Nat.le_trans I'.sz O.fresh, I'.hok.fresh O.fresh, ⟨oT, ts, t1, t2⟩, fun p hp z => by
      have := Heap.lt_size (I'.pin p (by simpa using hp)).1
      rw [z] at this
      exact absurd (Nat.lt_of_lt_of_le this O.fresh) (Nat.lt_irrefl _)⟩
    exact hh pins _ σ' H' D e C dx T' J.unpinT fly oe2 oT2 (hx C dx σ' H' hE (I'.len.trans I.len.symm))
end L2
set_option Elab.async false
set_option linter.all false
set_option maxRecDepth 100000
namespace L2
open PySem PySem.Spec PyProof.Rows
def errH (e C dx : Addr) : HO := .ext fun h => ∃ vs sl, h.get? e = some { cls := .ref C, dict := some dx, data := .fields vs, slots := sl }
theorem errH_ok {P : Program} {w : World} {H : Hp} {h : Heap} {e C dx : Addr} {vs : Array Value} {sl : Array (Option Value)} (he : h.get? e = some { cls := .ref C, dict := some dx, data := .fields vs, slots := sl }) : ObjOk P w H h e (errH e C dx) :=
  ⟨⟨vs, sl, he⟩, ⟨_, he⟩, fun _ _ ⟨v, s, q⟩ k => ⟨v, s, k _ q⟩⟩
section
variable {X : Cx} {pins : List (Addr × Obj)} {σ : St} {H : Hp} {s : Shared}
theorem Own.fp {b : Addr} (I : Inv X pins σ H s) (o : Own X pins H s.heap b) : FpOk X pins H b := by
  obtain ⟨ob, vs, h1, h2⟩ := o.recd
  refine ⟨o.free, ?_, ?_, .inr o.new, ?_, o.pin⟩
  · rintro rfl
    obtain ⟨m, ⟨o', es, ep, ho, hd, _⟩, _⟩ := I.loc
    rw [h1] at ho; cases ho; rw [h2] at hd; cases hd
  · intro hb
    obtain ⟨_, o', ho, hd⟩ := I.funs.mem hb
    rw [h1] at ho; cases ho; exact hd vs h2
  · rintro x c hc rfl
    obtain ⟨v, o', ho, hd⟩ := I.cell x c hc
    rw [h1] at ho; cases ho; rw [h2] at hd; cases hd
theorem Inv.goes {i : Nat} {n : Str} {m : Str → Option Value} {v : Option Value} {h' : Heap} {t' : Nat} (I : Inv X pins σ H s) (hN : X.N.Nodup) (hi : X.N[i]? = some n) (hm : s.heap.Ns X.env.locals m)
    (hl : ∀ (i : Nat) (x : Str) (v : V), X.N[i]? = some x → σ[i]? = some (some v) → Vis X.env.scope x → ∃ u, RelV v u ∧ Look X.env s.heap m x u)
    (hn : h'.Ns X.env.locals (fun x => if x = n then v else m x)) (hs : Heap.SameBut X.env.locals s.heap h') : Inv X pins (σ.set i none) H { s with heap := h', toks := t' } := by
  have hiσ : i < σ.length := by rw [I.len]; exact (List.getElem?_eq_some_iff.mp hi).1
  have cne := I.cne
  have neL : ∀ b o, X.s₀.heap.get? b = some o → b ≠ X.env.locals := fun b o e => Nat.ne_of_lt (Nat.lt_of_lt_of_le (Heap.lt_size e) I.ok.above)
  refine ⟨I.ok, I.os, I.bare, ⟨fun b o e n hb hx => ?_, fun b o e n hb hx => ?_, I.base.free, fun b o e hx => ?_, I.base.tups, I.base.frzs, I.base.tbls⟩, ⟨_, hn, fun j y v' e1 e2 e3 => ?_⟩, fun y c e => ?_, I.free, I.freeC, fun p hp => ?_, fun b ob e => ?_, by simpa using I.len⟩
  · exact (hs.2 b (neL b o e)).trans (I.base.keep b o e n hb hx)
  · obtain ⟨sl, e1⟩ := I.base.slot b o e n hb hx
    exact ⟨sl, (hs.2 b (neL b o e)).trans e1⟩
  · obtain ⟨o', e1⟩ := I.base.there b o e hx
    exact ⟨o', (hs.2 b (neL b o e)).trans e1⟩
  · by_cases hj : j = i
    · subst hj
      rw [List.getElem?_set_self hiσ] at e2
      cases e2
    · rw [List.getElem?_set_ne (Ne.symm hj)] at e2
      obtain ⟨u', r', q⟩ := hl j y v' e1 e2 e3
      refine ⟨u', r', ?_⟩
      rcases q with ⟨k, e⟩ | ⟨k, c, e, z⟩
      · refine .inl ⟨k, ?_⟩
        have : y ≠ n := fun e => hj (nodup_ix hN e1 (e ▸ hi))
        simp [this, e]
      · exact .inr ⟨k, c, e, z.sameBut hs (cne y c e)⟩
  · obtain ⟨w', z⟩ := I.cell y c e
    exact ⟨w', z.sameBut hs (cne y c e)⟩
  · obtain ⟨e, n, ne, nf, d⟩ := I.pin p hp
    exact ⟨(hs.2 p.1 ne).trans e, n, ne, nf, d⟩
  · refine (I.hok b ob e).stay (fun c w' hc q => (hs.2 c ?_).trans q) (fun _ q => q) fun _ _ q => q
    rintro rfl
    rcases hc with rfl | hc
    · rw [I.free] at e; cases e
    · rw [I.free] at hc; cases hc
theorem nameGoes {i : Nat} {n : Str} {pos : Pos} {Q : Unit → Shared → Prop} {E : Value → Shared → Prop} {A : Around} (I : Inv X pins σ H s) (hN : X.N.Nodup) (hi : X.N[i]? = some n) (hx : X.env.scope.names.lookup n = some .local)
    (h : ∀ s', Inv X pins (σ.set i none) H s' → Q () s') : wpAny (model X.prog X.w) A (do bindName X.env n .none; unbindBehindTheSuite X.env n pos) Q E s := by
  have hk : X.env.kindOf n = some .local := hx
  have hp : (X.env.scope.kind == .class || (X.env.scope.kind == .module && X.env.locals != X.env.globals)) = false := by rw [I.ok.kind]; rfl
  refine wpAny_bind (wpAny_bindName (store_ok (v := .non) I hN hi (.inl hx) rfl (fun s1 I1 => ?_) (.inr hx)))
  obtain ⟨m, hm, hl⟩ := I1.loc
  have hiσ : i < σ.length := by rw [I.len]; exact (List.getElem?_eq_some_iff.mp hi).1
  have hsome : (m n).isSome = true := by
    obtain ⟨u, r, q⟩ := hl i n .non hi (by rw [List.getElem?_set_self hiσ]) (.inl hx)
    rcases q with ⟨_, e⟩ | ⟨k, _⟩
    · rw [e]; rfl
    · rw [hk] at k; rcases k with k | k <;> cases k
  unfold unbindBehindTheSuite
  refine wpAny_onRaise ?_
  unfold unbindName
  refine wpAny_bind (wpAny_point (wpAny_bind ?_))
  unfold deleteName
  simp only [hk, hp]
  rw [if_neg (by decide)]
  refine wpAny_bind (wpAny_nsDel_keeps hm fun h₂ v hn₂ hs₂ => ?_)
  rw [hsome]
  simp only [if_true, Bool.not_true, Bool.false_eq_true, if_false]
  refine wpAny_pure (wpAny_point (h _ ?_))
  have J := I1.goes (t' := s1.toks) hN hi hm hl hn₂ hs₂
  rw [List.set_set] at J
  exact J
end
end L2
set_option Elab.async false
set_option linter.all false
set_option maxRecDepth 100000
namespace L2
open PySem PySem.Spec PyProof.Rows
section
variable {X : Cx} {i : Nat} {n k fld : Str} {kp hp pos ap : Pos} {b₀ : Stmt} {suite : List Stmt} {rest : List ExceptHandler} {Ck : Addr} {ts : TS} {tr : Addr → Addr → TS}
def hAs (K : PySem.W.Frag) (Ck : Addr) (i : Nat) (ts : TS) (tr : Addr → Addr → TS) : Addr → Addr → TS := fun C dx D σ H => ∃ b, PySem.W.exmOne K (.ref C) (.ref Ck) = some b ∧
  if b = true then (∀ e, H e = none → ts { nx := fun σ2 H2 => D.nx (σ2.set i none) H2, rt := D.rt, bk := fun σ2 H2 => D.bk (σ2.set i none) H2, ct := fun σ2 H2 => D.ct (σ2.set i none) H2 } (σ.set i (some (.ref e))) (upd H e (errH e C dx))) else tr C dx D σ H
theorem ph_as (hN : X.N.Nodup) (hi : X.N[i]? = some n) (hx : X.env.scope.names.lookup n = some .local) (hg : Gl X k) (hm : X.mg k = some (.ref Ck)) (hs : ∀ e, PSs (X.suite (.ref e)) (b₀ :: suite) ts) (hr : PH X rest tr) (hdb : (k == ("__debug__" : Str)) = false := by decide) :
    PH X (.ExceptHandler (some (.Name k kp)) (some n) (b₀ :: suite) hp :: rest) (hAs X.K Ck i ts tr) := by
  intro pins s σ H D e C dx T I fly oe oT ⟨b, hb, h⟩
  obtain ⟨vs, sl, hx', h1⟩ := fly.ex
  have LT : PySem.W.Looks (model X.prog X.w) s.heap (typeOf (.ref e)) (.ref C) := (PySem.W.Looks.ld hx').andThen .now
  refine wpAny_handleBy_cons (codeAny_handlers_test (ld_glob (X := X.suite (.ref e)) (I.suite (.ref e)) hg hm ?_ hdb)) (by intro q; cases q)
  refine (PySem.W.exm_one I.kIn LT hb).here ?_
  cases b with
  | false => exact hr pins s σ H D e C dx T I fly oe oT h
  | true =>
    obtain ⟨oT', tsv, t1, t2, t3⟩ := fly.tb
    refine codeAny_handlers_suite_as ?_
    have fT := oT.fp I
    refine wpAny_setFlight_none hx' rfl h1 t1 t2 (Array.getElem?_eq_some_iff.mp t3).1 ?_
    have I1 : Inv X pins σ H { s with heap := s.heap.update T (Obj.mapFields (·.setIfInBounds 3 .none)) } := I.turned (t' := s.toks) (it := T) (fun b o hb q => by rw [Heap.get?_update_other _ _ hb.symm]; exact q) oT.free fT.2.1 (.inr oT.new) fT.2.2.2.2.1 oT.pin
    have hx1 : (s.heap.update T (Obj.mapFields (·.setIfInBounds 3 .none))).get? e = some { cls := .ref C, dict := some dx, data := .fields vs, slots := sl } := by rw [Heap.get?_update_other _ _ fly.ne]; exact hx'
    have oe1 : Own X pins H (s.heap.update T (Obj.mapFields (·.setIfInBounds 3 .none))) e := ⟨oe.new, oe.free, ⟨_, _, hx1, rfl⟩, oe.pin⟩
    have I2 := I1.take (D := e) (o := errH e C dx) (oe1.fp I1) oe.new (errH_ok hx1)
    refine store_ok (v := .ref e) I2 hN hi (.inl hx) rfl (fun s3 I3 => ?_) (.inr hx)
    refine wpAny_mono (hs e pins s3 _ _ _ (I3.suite (.ref e)) (h e oe.free)) (fun f s4 h4 => ?_) fun x s4 z => False.elim z
    show wpAny _ _ _ _ _ _
    cases f with
    | next => obtain ⟨σ', H', I4, q⟩ := h4; exact nameGoes (I4.unsuite I.ok) hN hi hx fun s5 I5 => ⟨_, _, I5, q⟩
    | brk => obtain ⟨σ', H', I4, q⟩ := h4; exact nameGoes (I4.unsuite I.ok) hN hi hx fun s5 I5 => ⟨_, _, I5, q⟩
    | cont => obtain ⟨σ', H', I4, q⟩ := h4; exact nameGoes (I4.unsuite I.ok) hN hi hx fun s5 I5 => ⟨_, _, I5, q⟩
    | ret u => obtain ⟨v, σ', H', I4, r, q⟩ := h4; exact nameGoes (I4.unsuite I.ok) hN hi hx fun s5 I5 => ⟨v, _, _, I5, r, q⟩
theorem ph_nil : PH X [] (fun _ _ _ _ _ => False) := fun _ _ _ _ _ _ _ _ _ _ _ _ _ h => False.elim h
def tErrF (K : PySem.W.Frag) (ta : TE) (fld : Str) : TE := fun σ H Q => ta σ H fun x H1 => ∃ e C dx f bm fs v, x = .ref e ∧ H1 e = some (errH e C dx) ∧ ErrC K C f bm ∧ PySem.W.findIn K (.ref C) fld = some none ∧ H1 dx = some (.xd fs) ∧ fs.lookup fld = some v ∧ Q v H1
theorem pe_errF {e : Expr} {ta : TE} (he : PE X e ta) (hb : attributeBase e fld X.env (eval e X.env) = eval e X.env) : PE X (.Attribute e fld pos) (tErrF X.K ta fld) := by
  intro pins s σ H Q I h
  refine attr_of hb (thn (he pins s σ H _ I h) fun u s1 ⟨x, H1, I1, rx, a, C, dx, f, bm, fs, v, ex, ea, ec, nf, hd, l, q⟩ => ?_)
  subst ex
  obtain rfl : u = Value.ref a := rx
  obtain ⟨nm, q0, N, bs, sn, sub, ab, col, dd, k0, k1, k2, k3, k5, lk⟩ := ec.obj
  have at_ := I1.kIn _ _ lk
  obtain ⟨vs, sl, hx⟩ := (I1.hok a _ ea).1
  obtain ⟨mA, hn, hr⟩ := I1.hok dx _ hd
  have rv := hr fld
  rw [l] at rv
  cases hv : mA fld with
  | none => rw [hv] at rv; exact False.elim rv
  | some u' =>
    rw [hv] at rv
    obtain ⟨hh, g, d, t, os⟩ := s1
    exact L2E.getErr ec.base at_ (finds_K I1.kIn nf) (finds_K I1.kIn ec.ga) (finds_K I1.kIn ec.gh) hx rfl (fun c z => nomatch z) rfl hn.ns hv (PySem.W.handedOut_of (handed_of rv)) ⟨v, H1, I1.tok (t + 1), rv, q⟩
end
end L2
set_option Elab.async false
set_option linter.all false
set_option maxRecDepth 100000
namespace L2
open PySem PySem.Spec PyProof.Rows
section
variable {prog : Program} {w : World} {A : Around} {E : Value → Shared → Prop} {s : Shared}
end
end L2
set_option Elab.async false
set_option linter.all false
set_option maxRecDepth 100000
namespace S
open PySem L2
structure Def (P : Program) (w : World) (K : PySem.W.Frag) (mg : Str → Option Value) (base : Heap) (k : Nat) (x : Str) (ps : List Str) (sp : Sp) (g : Addr) (gd : FuncData) : Prop where
  ok : FnOk P w K mg base CX0 k g gd ps sp
  b : Binds K gd ps []
  k : PySem.W.keepIn K (.ref g) = true
  m : mg x = some (.ref g)
structure DefE (P : Program) (w : World) (K : PySem.W.Frag) (mg : Str → Option Value) (base : Heap) (k : Nat) (x : Str) (ps : List Str) (sp : Sp) (g : Addr) (gd : FuncData) : Prop where
  ok : FnOk P w K mg base (CXE P w) k g gd ps sp
  b : Binds K gd ps []
  k : PySem.W.keepIn K (.ref g) = true
  m : mg x = some (.ref g)
def BG (n : Nat) (i : Int) : Prop := 0 ≤ i ∧ i < 2 ^ n
theorem BG.mono {n m : Nat} {i : Int} (h : BG n i) (l : n ≤ m) : BG m i := ⟨h.1, Int.lt_of_lt_of_le h.2 (by
  have := Nat.pow_le_pow_right (n := 2) (by decide) l
  exact_mod_cast this)⟩
theorem BG.mul {n m : Nat} {i j : Int} (h : BG n i) (g : BG m j) : BG (n + m) (i * j) := by
  obtain ⟨a, rfl⟩ := Int.eq_ofNat_of_zero_le h.1
  obtain ⟨b, rfl⟩ := Int.eq_ofNat_of_zero_le g.1
  have h1 : a < 2 ^ n := by have := h.2; exact_mod_cast this
  have h2 : b < 2 ^ m := by have := g.2; exact_mod_cast this
  refine ⟨Int.mul_nonneg h.1 g.1, ?_⟩
  have : a * b < 2 ^ (n + m) := by
    rw [Nat.pow_add]
    exact Nat.mul_lt_mul'' h1 h2
  exact_mod_cast this
theorem BG.add {n : Nat} {i j : Int} (h : BG n i) (g : BG n j) : BG (n + 1) (i + j) := by
  refine ⟨Int.add_nonneg h.1 g.1, ?_⟩
  have := h.2
  have := g.2
  rw [Int.pow_succ]
  omega
theorem BG.le {n : Nat} {i j : Int} (h : BG n i) (z : 0 ≤ j) (l : j ≤ i) : BG n j := ⟨z, Int.lt_of_le_of_lt l h.2⟩
theorem BG.div {n : Nat} {i j : Int} (h : BG n i) (z : 0 ≤ j) : BG n (i / j) := h.le (Int.ediv_nonneg h.1 z) (Int.ediv_le_self _ h.1)
theorem BG.abs {n : Nat} {i : Int} (h : BG n i) (l : n ≤ 8000) : i.natAbs < 2 ^ 8000 := by
  obtain ⟨a, rfl⟩ := Int.eq_ofNat_of_zero_le h.1
  have h1 : a < 2 ^ n := by have := h.2; exact_mod_cast this
  exact Nat.lt_of_lt_of_le h1 (Nat.pow_le_pow_right (n := 2) (by decide) l)
section
variable {X : Cx}
def CDivB (_ j : Int) : Prop := 0 < j ∧ j.natAbs < 2 ^ 8000
theorem op_fdivB : OpR X (binaryOp .FloorDiv) (rI CDivB fun i j => .int (i / j)) := opI fun i j _ _ _ _ _ hc q => by
  have h1 : (0 : Int) < j := hc.1
  refine PyProof.Rows.floordiv_int (by omega) (by rw [Int.fdiv_eq_ediv_of_nonneg i (by omega)]; exact q) (.inl (PyProof.noPylong_of_log2 ?_))
  have : j.natAbs.log2 < 8000 := (Nat.log2_lt (by omega)).mpr hc.2
  omega
end
def gc (a b : Int) : Int := ((Nat.gcd a.toNat b.toNat : Nat) : Int)
theorem gc_zero {a : Int} (h : 0 ≤ a) : gc a 0 = a := by
  unfold gc
  rw [Int.toNat_zero, Nat.gcd_zero_right]
  omega
theorem gc_step {a b : Int} (ha : 0 ≤ a) (hb : 0 < b) : gc b (a % b) = gc a b := by
  obtain ⟨x, rfl⟩ := Int.eq_ofNat_of_zero_le ha
  obtain ⟨y, rfl⟩ := Int.eq_ofNat_of_zero_le (Int.le_of_lt hb)
  unfold gc
  have e : ((x : Int) % (y : Int)).toNat = x % y := by
    rw [← Int.natCast_emod, Int.toNat_natCast]
  simp only [Int.ofNat_eq_natCast, Int.toNat_natCast] at e ⊢
  rw [e, Nat.gcd_comm y, ← Nat.gcd_rec, Nat.gcd_comm]
theorem gc_pos {a b : Int} (ha : 0 ≤ a) (hb : 0 < b) : 0 < gc a b := by
  unfold gc
  have := Nat.gcd_pos_of_pos_right a.toNat (n := b.toNat) (by omega)
  omega
theorem gc_nn (a b : Int) : 0 ≤ gc a b := by unfold gc; omega
theorem gc_le {a b : Int} (hb : 0 < b) : gc a b ≤ b := by
  unfold gc
  have := Nat.gcd_le_right a.toNat (n := b.toNat) (by omega)
  omega
section
variable {P : Program} {w : World} {K : PySem.W.Frag} {mg : Str → Option Value} {base : Heap}
theorem scMInit : FnScope ["self", "text"] ["self", "text"] (defScope sMeetErrorInit) := ⟨rfl, rfl, rfl, by decide +kernel, rfl, by decide +kernel, by decide +kernel⟩
theorem ok_mInit {f : Addr} {fd : FuncData} (F : Fun K "__init__" "MeetError.__init__" sMeetErrorInit f fd) (mv : mg "ValueError" = none) : FnOk P w K mg base CX0 1 f fd ["self", "text"] (spMeet K) := by
  refine F.ok scMInit (fun vs H Q E h => ?_) (fun cdv A outer s H vs Q E hr h => ?_)
  · obtain ⟨e, C, u, f, bm, rfl, _⟩ := h
    rfl
  obtain ⟨e, C, u, f, bm, rfl, ec, hH, q⟩ := h
  refine ⟨_, pss_one (ps_expr (pe_initB rfl mv (pa_cons (pv 0) (pa_cons (pv 1) pa_nil)))), ?_⟩
  exact ⟨_, rfl, _, rfl, e, C, u, f, bm, rfl, ec, hH, q⟩
end
end S
set_option Elab.async false
set_option linter.all false
set_option maxRecDepth 100000
namespace S
open PySem L2
def spCommon : Sp := fun vs H Q _ => ∃ a b : Int, vs = [.int a, .int b] ∧ 0 ≤ a ∧ 0 ≤ b ∧ Q (.int (gc a b)) H
section
variable {P : Program} {w : World} {K : PySem.W.Frag} {mg : Str → Option Value} {base : Heap}
theorem scWhole : FnScope ["thing"] ["thing"] (defScope sWhole) := ⟨rfl, rfl, rfl, by decide +kernel, rfl, by decide +kernel, by decide +kernel⟩
theorem scCommon : FnScope ["one", "other"] ["one", "other"] (defScope sCommon) := ⟨rfl, rfl, rfl, by decide +kernel, rfl, by decide +kernel, by decide +kernel⟩
theorem ok_common {f : Addr} {fd : FuncData} (F : Fun K "common" "common" sCommon f fd) : FnOk P w K mg base CX0 1 f fd ["one", "other"] spCommon := by
  refine F.ok scCommon (fun vs H Q E h => ?_) (fun cdv A outer s H vs Q E hr h => ?_)
  · obtain ⟨a, b, rfl, _⟩ := h
    rfl
  obtain ⟨a, b, rfl, ha, hb, q⟩ := h
  refine ⟨_, pss_cons (ps_while PassesOwn.never (pt_cmpR op_gt (pv 1) pe_int (nomark _))
      (pss_one (ps_par (i := 0) (j := 1) rfl scCommon.nd rfl rfl (by decide) rfl rfl (pa_cons (pv 1) (pa_cons (pe_op op_mod (pv 0) (pv 1)) pa_nil)) rfl)))
    (pss_one (ps_ret (pv 0))), ?_⟩
  refine ⟨fun k σ H' => ∃ x y : Int, σ = [some (.int x), some (.int y)] ∧ 0 ≤ x ∧ 0 ≤ y ∧ k = y.toNat ∧ gc x y = gc a b ∧ H' = H, ⟨_, a, b, rfl, ha, hb, rfl, rfl, rfl⟩, ?_⟩
  rintro k σ H' ⟨x, y, rfl, hx, hy, rfl, e, rfl⟩
  refine ⟨_, rfl, _, _, rfl, rfl, _, rfl, ?_⟩
  refine ite2 (fun c => ?_) (fun c => ?_)
  · have c' : 0 < y := of_decide_eq_true c
    refine ⟨fun σ' H2 => σ' = [some (.int y), some (.int (x % y))] ∧ H2 = H', fun σ' H2 ⟨e1, e2⟩ => ⟨_, ?_, y, x % y, e1, hy, Int.emod_nonneg _ (by omega), rfl, (gc_step hx c').trans e, e2⟩, ?_⟩
    · have := Int.emod_lt_of_pos x c'
      have := Int.emod_nonneg x (b := y) (by omega)
      omega
    · exact ⟨_, rfl, _, rfl, _, rfl, _, _, rfl, rfl, c', _, _, rfl, rfl, rfl⟩
  · have c' : y = 0 := by
      have : ¬ 0 < y := fun z => c (decide_eq_true z)
      omega
    subst c'
    rw [gc_zero hx] at e
    refine ⟨_, rfl, ?_⟩
    rw [e]; exact q
theorem scMakeA : FnScope ["top", "bottom"] ["top", "bottom"] (defScope sMakeA) := ⟨rfl, rfl, rfl, by decide +kernel, rfl, by decide +kernel, by decide +kernel⟩
end
end S
set_option Elab.async false
set_option linter.all false
set_option maxRecDepth 100000
namespace S
open PySem L2
def isSh (a b : Int) : Prop := 0 ≤ a ∧ 1 ≤ b ∧ gc a b = 1
def ShsAt (H : Hp) (ts : List Addr) (ps : List (Int × Int)) : Prop := ts.length = ps.length ∧ ∀ (i : Nat) t p, ts[i]? = some t → ps[i]? = some p → H t = some (.tup [.int p.1, .int p.2]) ∧ isSh p.1 p.2
theorem ShsAt.same {H H' : Hp} {ts : List Addr} {ps : List (Int × Int)} (h : ShsAt H ts ps) (g : Same H H') : ShsAt H' ts ps := ⟨h.1, fun i t p a b => ⟨g _ _ (h.2 i t p a b).1, (h.2 i t p a b).2⟩⟩
section
variable {P : Program} {w : World} {K : PySem.W.Frag} {mg : Str → Option Value} {base : Heap}
theorem scIsShare : FnScope ["thing", "top", "bottom"] ["thing"] (defScope sIsShare) := ⟨rfl, rfl, rfl, by decide +kernel, rfl, by decide +kernel, by decide +kernel⟩
theorem scShareOf : FnScope ["top", "bottom"] ["top", "bottom"] (defScope sShareOf) := ⟨rfl, rfl, rfl, by decide +kernel, rfl, by decide +kernel, by decide +kernel⟩
theorem scCheckS : FnScope ["shares", "share"] ["shares"] (defScope sCheckS) := ⟨rfl, rfl, rfl, by decide +kernel, rfl, by decide +kernel, by decide +kernel⟩
end
end S
set_option Elab.async false
set_option linter.all false
set_option maxRecDepth 100000
namespace S
open PySem L2
theorem low_nat {a b : Nat} (hb : 0 < b) : Nat.Coprime (a / Nat.gcd a b) (b / Nat.gcd a b) ∧ 0 < b / Nat.gcd a b ∧ (a / Nat.gcd a b) * b = a * (b / Nat.gcd a b) := by
  have gp := Nat.gcd_pos_of_pos_right a hb
  refine ⟨Nat.coprime_div_gcd_div_gcd gp, Nat.div_pos (Nat.gcd_le_right a hb) gp, ?_⟩
  obtain ⟨x, hx⟩ := Nat.gcd_dvd_left a b
  obtain ⟨y, hy⟩ := Nat.gcd_dvd_right a b
  generalize Nat.gcd a b = g at *
  have e1 : a / g = x := by rw [hx, Nat.mul_div_cancel_left _ gp]
  have e2 : b / g = y := by rw [hy, Nat.mul_div_cancel_left _ gp]
  rw [e1, e2, hx, hy, ← Nat.mul_assoc, Nat.mul_comm x g]
theorem gc_nat (a b : Nat) : gc (a : Int) (b : Int) = ((Nat.gcd a b : Nat) : Int) := by unfold gc; rw [Int.toNat_natCast, Int.toNat_natCast]
theorem gc_one {a b : Nat} : gc (a : Int) (b : Int) = 1 ↔ Nat.Coprime a b := by rw [gc_nat]; unfold Nat.Coprime; omega
theorem low_ok {a b : Int} (ha : 0 ≤ a) (hb : 1 ≤ b) : isSh (a / gc a b) (b / gc a b) ∧ (a / gc a b) * b = a * (b / gc a b) := by
  obtain ⟨x, rfl⟩ := Int.eq_ofNat_of_zero_le ha
  obtain ⟨y, rfl⟩ := Int.eq_ofNat_of_zero_le (show 0 ≤ b by omega)
  obtain ⟨h1, h2, h3⟩ := low_nat (a := x) (b := y) (by omega)
  try simp only [Int.ofNat_eq_natCast] at *
  rw [gc_nat, ← Int.natCast_ediv, ← Int.natCast_ediv]
  refine ⟨⟨Int.natCast_nonneg _, by omega, gc_one.mpr h1⟩, ?_⟩
  exact_mod_cast h3
end S
set_option Elab.async false
set_option linter.all false
set_option maxRecDepth 100000
namespace S
open PySem L2
theorem same_new {H : Hp} {a : Addr} (h : H a = none) (o : HO) : Same H (upd H a o) := fun b u e => by rw [upd_ne (ne_of_none e h)]; exact e
section
variable {P : Program} {w : World} {K : PySem.W.Frag} {mg : Str → Option Value} {base : Heap}
end
end S
set_option Elab.async false
set_option linter.all false
set_option maxRecDepth 100000
namespace S
open PySem L2
section
variable {P : Program} {w : World} {K : PySem.W.Frag} {mg : Str → Option Value} {base : Heap}
theorem scPlus : FnScope ["one", "other"] ["one", "other"] (defScope sPlus) := ⟨rfl, rfl, rfl, by decide +kernel, rfl, by decide +kernel, by decide +kernel⟩
theorem scTimes : FnScope ["one", "other"] ["one", "other"] (defScope sTimes) := ⟨rfl, rfl, rfl, by decide +kernel, rfl, by decide +kernel, by decide +kernel⟩
theorem scLess : FnScope ["one", "other"] ["one", "other"] (defScope sLess) := ⟨rfl, rfl, rfl, by decide +kernel, rfl, by decide +kernel, by decide +kernel⟩
theorem scMinus : FnScope ["one", "other", "top"] ["one", "other"] (defScope sMinus) := ⟨rfl, rfl, rfl, by decide +kernel, rfl, by decide +kernel, by decide +kernel⟩
end
end S
set_option Elab.async false
set_option linter.all false
set_option maxRecDepth 100000
namespace S
open PySem L2
structure Shares (H : Hp) (l : Addr) (ts : List Addr) (ps : List (Int × Int)) : Prop where
  row : H l = some (.lst (ts.map V.ref)) ∨ H l = some (.tup (ts.map V.ref))
  shs : ShsAt H ts ps
  few : ps.length ≤ 8
  bg : ∀ p ∈ ps, BG 140 p.1 ∧ BG 140 p.2
section
variable {P : Program} {w : World} {K : PySem.W.Frag} {mg : Str → Option Value} {base : Heap}
theorem kitAny2 {K : PySem.W.Frag} {t c d : Value} {a b : Bool} (h1 : PySem.W.kitOne K t c = some a) (h2 : PySem.W.kitOne K t d = some b) : PySem.W.kitAny K t [c, d] = some (a || b) := by
  unfold PySem.W.kitAny
  rw [h1]
  cases a with
  | true => rfl
  | false =>
    show PySem.W.kitAny K t [d] = _
    unfold PySem.W.kitAny
    rw [h2]
    cases b <;> rfl
end
end S
set_option Elab.async false
set_option linter.all false
set_option maxRecDepth 100000
namespace S
open PySem L2
def BoxAt (H : Hp) (b : Addr) : Prop := ∃ d s : Int, H b = some (.lst [.int d, .int s]) ∧ 0 ≤ d ∧ 0 ≤ s ∧ s < 2147483648
def But (b : Addr) (H H' : Hp) : Prop := ∀ c, c ≠ b → H' c = H c
def Away (b : Addr) (H H' : Hp) : Prop := ∀ c o, H c = some o → c ≠ b → H' c = some o
theorem But.away {b : Addr} {H H' : Hp} (x : But b H H') : Away b H H' := fun c o h n => (x c n).trans h
theorem away_of {b : Addr} {H H' : Hp} (x : Same H H') : Away b H H' := fun c o h _ => x c o h
theorem Away.refl {b : Addr} (H : Hp) : Away b H H := fun _ _ h _ => h
theorem Away.trans {b : Addr} {H H1 H2 : Hp} (x : Away b H H1) (y : Away b H1 H2) : Away b H H2 := fun c o h n => y c o (x c o h n) n
theorem BoxAt.same {H H' : Hp} {b : Addr} (g : Same H H') (h : BoxAt H b) : BoxAt H' b := let ⟨d, s, h1, h2⟩ := h; ⟨d, s, g _ _ h1, h2⟩
theorem BoxAt.ne {H : Hp} {b c : Addr} (h : BoxAt H b) (hc : H c = none) : b ≠ c := let ⟨_, _, h1, _⟩ := h; ne_of_none h1 hc
theorem Away.free {b c : Addr} {H H' : Hp} (g : Away b H H') (hb : BoxAt H' b) (h : H' c = none) : H c = none := by
  cases q : H c with
  | none => rfl
  | some o => rw [g c o q (hb.ne h).symm] at h; cases h
theorem at_int {ms : List Int} {i : Int} (h0 : 0 ≤ i) (h : i < (ms.length : Int)) : ∃ v, v ∈ ms ∧ atI (ms.map V.int) i = some (.int v) := by
  have hk : i.toNat < ms.length := by omega
  refine ⟨ms[i.toNat], List.getElem_mem hk, ?_⟩
  have q : atI (ms.map V.int) ((i.toNat : Nat) : Int) = some (.int ms[i.toNat]) := atI_nat (by rw [List.getElem?_map, List.getElem?_eq_getElem hk]; rfl)
  rw [show ((i.toNat : Nat) : Int) = i by omega] at q
  exact q
def spBox (K : PySem.W.Frag) : Sp := fun vs H Q _ => ∃ a ns k, vs = [.ref a, .int k] ∧ SqL K H a (List.map V.int ns) ∧ 0 ≤ k ∧ k < 1000 ∧ ∀ r H', Same H H' → H r = none → BoxAt H' r → Q (.ref r) H'
def spTake : Sp := fun vs H Q _ => ∃ b n, vs = [.ref b, .int n] ∧ 0 < n ∧ BG 8000 n ∧ BoxAt H b ∧ ∀ r H', 0 ≤ r → r < n → BoxAt H' b → But b H H' → Q (.int r) H'
def spPart : Sp := fun vs H Q _ => ∃ b, vs = [.ref b] ∧ BoxAt H b ∧ ∀ r H', BG 135 r → BoxAt H' b → But b H H' → Q (.int r) H'
def spShare : Sp := fun vs H Q _ => ∃ b, vs = [.ref b] ∧ BoxAt H b ∧ ∀ r x y H', H r = none → H' r = some (.tup [.int x, .int y]) → isSh x y → BG 138 x → BG 138 y → BoxAt H' b → Away b H H' → Q (.ref r) H'
section
variable {P : Program} {w : World} {K : PySem.W.Frag} {mg : Str → Option Value} {base : Heap}
theorem scBox : FnScope ["_law_script", "_law_k", "_law_cell", "_law_digits"] ["_law_script", "_law_k"] (defScope sBox) := ⟨rfl, rfl, rfl, by decide +kernel, rfl, by decide +kernel, by decide +kernel⟩
theorem ok_box {f : Addr} {fd : FuncData} (F : Fun K "_law_box" "_law_box" sBox f fd) (ml : mg "len" = none) : FnOk P w K mg base CX0 1 f fd ["_law_script", "_law_k"] (spBox K) := by
  refine F.ok scBox (fun vs H Q E h => ?_) (fun cdv A outer s H vs Q E hr h => ?_)
  · obtain ⟨a, ns, k, rfl, _⟩ := h
    rfl
  obtain ⟨a, ns, k, rfl, hS, k0, k1, q⟩ := h
  refine ⟨_, pss_cons (ps_set (i := 2) scBox.nd rfl (Or.inl rfl) pe_int)
    (pss_cons (ps_if (pt_cmpR (op_neD hr) (pv 0) (pe_lst pa_nil) (nomark _)) (pss_one (ps_set (i := 2) scBox.nd rfl (Or.inl rfl) (pe_ix ix_list (pv 0) (pe_op op_mod (pv 1) (pe_callB call_len_seq rfl ml PySem.boot_len (pa_cons (pv 0) pa_nil))) (fun _ _ => rfl)))) pss_nil)
    (pss_cons (ps_set (i := 3) scBox.nd rfl (Or.inl rfl) pe_int)
    (pss_cons (ps_if (pt_cmpR op_ge (pv 2) (pe_op op_pow pe_int pe_int) (nomark _)) (pss_one (ps_set (i := 3) scBox.nd rfl (Or.inl rfl) (pv 2))) pss_nil)
    (pss_one (ps_ret (pe_lst (pa_cons (pv 3) (pa_cons (pe_op op_add (pe_op op_mod (pe_op op_add (pv 2) (pe_op op_mul pe_int (pv 1))) pe_int) pe_int) pa_nil)))))))), ?_⟩
  refine ⟨_, rfl, (by show 0 ≤ sizeLine; decide), fun l hl => ?_⟩
  have g1 := same_new hl (.lst [])
  have c1 : (upd H l (.lst [])) l = some (.lst []) := upd_same
  generalize upd H l (.lst []) = H1 at g1 c1 ⊢
  have hS1 : SqL K H1 a (ns.map V.int) := g1.seq hS
  have fin : ∀ cell : Int, (tSeq (tIfS (tTest (tOp (rI0 fun i j => V.bl (decide (i ≥ j))) (tVar 2) (tOp (rI CPow fun i j => V.int (i ^ j.toNat)) (tC (V.int 10)) (tC (V.int 18))))) (tAsg (tVar 2) (gName 3)) tNext) (tRet (tLst (tCons (tVar 3) (tCons (tOp (rI0 fun i j => V.int (i + j)) (tOp (rI (fun _ j => 0 < j) fun i j => V.int (i % j)) (tOp (rI0 fun i j => V.int (i + j)) (tVar 2) (tOp (rI CMul fun i j => V.int (i * j)) (tC (V.int 7919)) (tVar 1))) (tC (V.int 2147483646))) (tC (V.int 1))) tNil))))) { nx := fun _ H' => Q .non H', rt := Q } [some (.ref a), some (.int k), some (.int cell), some (.int 0)] H1 := fun cell => by
    have out : ∀ d : Int, 0 ≤ d → tRet (tLst (tCons (tVar 3) (tCons (tOp (rI0 fun i j => V.int (i + j)) (tOp (rI (fun _ j => 0 < j) fun i j => V.int (i % j)) (tOp (rI0 fun i j => V.int (i + j)) (tVar 2) (tOp (rI CMul fun i j => V.int (i * j)) (tC (V.int 7919)) (tVar 1))) (tC (V.int 2147483646))) (tC (V.int 1))) tNil))) { nx := fun _ H' => Q .non H', rt := Q } [some (.ref a), some (.int k), some (.int cell), some (.int d)] H1 := fun d hd => by
      refine ⟨_, rfl, _, rfl, _, rfl, _, _, rfl, rfl, .inl ⟨by decide, by decide⟩, _, _, rfl, rfl, _, _, rfl, rfl, (by show (0 : Int) < 2147483646; decide), _, _, rfl, rfl, (by show 2 ≤ sizeLine; decide), fun r hr' => ?_⟩
      have e0 := Int.emod_nonneg (cell + 7919 * k) (b := 2147483646) (by decide)
      have e1 := Int.emod_lt_of_pos (cell + 7919 * k) (b := 2147483646) (by decide)
      exact q r _ (g1.trans (same_new hr' _)) (g1.free hr') ⟨d, _, upd_same, hd, by omega, by omega⟩
    refine ⟨_, rfl, _, _, rfl, rfl, ⟨by decide, by decide, by decide⟩, _, _, rfl, rfl, _, rfl, ?_⟩
    refine ite2 (fun c => ?_) (fun c => ?_)
    · have c' : cell ≥ 10 ^ (18 : Int).toNat := of_decide_eq_true c
      have : (0 : Int) ≤ 10 ^ (18 : Int).toNat := by decide
      exact ⟨_, rfl, out cell (by omega)⟩
    · exact out 0 (by decide)
  have lay : PyData.canLayAll0 (ns.map PyData.int) = true := canLay_ints ns
  have dep := depthAll_ints ns
  refine ⟨.list (ns.map .int), .list [], .lst hS1 (DVs.ints ns), .lst (SqL.of c1) .nil, lay, rfl, (by simp only [PyData.depth]; omega), _, rfl, ?_⟩
  have e : PyData.eqv (.list (ns.map PyData.int)) (.list []) = ns.isEmpty := by cases ns <;> rfl
  rw [e]
  refine ite2 (fun c => ?_) (fun c => ?_)
  · have hne : 0 < ns.length := by
      cases ns with
      | nil => cases c
      | cons _ _ => simp
    have lp : (0 : Int) < ((ns.map V.int).length : Nat) := by rw [List.length_map]; omega
    obtain ⟨v, _, hv⟩ := at_int (ms := ns) (i := k % ((ns.map V.int).length : Nat)) (Int.emod_nonneg _ (by omega)) (by have := Int.emod_lt_of_pos k lp; rw [List.length_map] at this ⊢; exact this)
    exact ⟨_, rfl, _, rfl, _, rfl, a, _, rfl, .inl hS1, _, _, rfl, rfl, lp, a, _, _, _, rfl, rfl, hS1, hv, fin v⟩
  · exact fin 0
end
end S
set_option Elab.async false
set_option linter.all false
set_option maxRecDepth 100000
namespace L2
open PySem PySem.Spec PyProof.Rows
def spErr0 (C : Addr) : Sp := fun vs H Q _ => ∃ e, vs = [.ref e] ∧ H e = some (errO e C none) ∧ Q .non H
def tMkErr (C : Addr) (sp : Sp) (t : TA) : TE := fun σ H Q => t σ H fun vs H1 => vs.length ≤ sizeLine ∧ ∀ e, H1 e = none → sp (.ref e :: vs) (upd H1 e (errO e C none)) (fun v H2 => v = .non ∧ Q (.ref e) H2) E0
section
variable {X : Cx} {pins : List (Addr × Obj)} {σ : St} {H : Hp} {s : Shared} {pos pos' : Pos} {o value : Expr} {fld : Str} {ta tv : TE}
theorem run_errV {CX : CXT} {E : XK} {k : Nat} {C f : Addr} {bm : List Value} {fd : FuncData} {ps : List Str} {sp : Sp} {Q : Value → Shared → Prop} {QV : VK} {us : List Value} {vs : List V} (M : ErrC X.K C f bm) (F : FnOk X.prog X.w X.K X.mg X.base CX k f fd ps sp) (hr : Room (k + 1) X.A) (hb : Binds X.K fd ps [])
    (hx : Passes CX X E) (I : Inv X pins σ H s) (r : Vals vs us) (few : us.length ≤ sizeLine)
    (h : ∀ e, H e = none → sp (.ref e :: vs) (upd H e (errO e C none)) (fun v H2 => v = .non ∧ QV (.ref e) H2) E) (hQ : ∀ e s' H', Inv X pins σ H' s' → QV (.ref e) H' → Q (.ref e) s') :
    wpAny (model X.prog X.w) X.A (call (.ref C) us) Q X.xe s := by
  obtain ⟨nm, q0, N, bs, sn, sub, ab, col, dd, k0, k1, k2, k3, k5, lk⟩ := M.obj
  have at_ := I.kIn _ _ lk
  obtain ⟨of, hf, hc⟩ := isFn_at I.kIn M.fn
  obtain ⟨hh, g, d, t, os⟩ := s
  have hq := h (hh.objs.size + 1) (I.hok.fresh (Nat.le_succ _))
  have kl : PySem.W.Frag.In X.K (L2E.laid hh C us) := I.kIn.keeps fun _ _ z => L2E.laid_old z
  have I2 : Inv X pins σ (upd H (hh.objs.size + 1) (errO (hh.objs.size + 1) C none)) ⟨L2E.laid hh C us, g, d, t, os⟩ := I.laid (h' := L2E.laid hh C us) (a := hh.objs.size + 1) (o := errO (hh.objs.size + 1) C none) (t' := t) (fun _ _ z => L2E.laid_old z) (Nat.le_succ _) (errO_ok L2E.laid_new)
  have r2 : Vals (V.ref (hh.objs.size + 1) :: vs) (Value.ref (hh.objs.size + 1) :: us) := .cons rfl r
  have hl : (Value.ref (hh.objs.size + 1) :: us ++ []).length = ps.length := by
    rw [List.append_nil, ← r2.length]
    exact F.len _ _ _ _ hq
  refine L2E.callErr PySem.F.excBase_ValueError M.tail at_ (finds_K kl M.init) hf hc few ?_
  refine wpAny_call (codeAny_mono (F.run _ X.stack _ _ ⟨Value.ref (hh.objs.size + 1) :: us, []⟩ (Value.ref (hh.objs.size + 1) :: us) _ _ E (hr.make C us []) (I2.env0.make C us []) (by have := hb _ (Value.ref (hh.objs.size + 1) :: us) I2.kIn hl; rw [List.append_nil] at this; exact this) r2 hq) fun r s' hq' => ?_)
  cases r with
  | error e => exact hx pins σ _ _ e s' I2 hq'
  | ok fl =>
    cases fl with
    | ret u =>
      obtain ⟨v, H', I3, rv, ev, q3⟩ := I2.after hq'
      subst ev
      exact ⟨rv, hQ _ _ _ I3 q3⟩
    | next => exact False.elim hq'
    | brk => exact False.elim hq'
    | cont => exact False.elim hq'
end
section
variable {X : Cx} {a : Expr} {es : List Expr} {t : TA} {k : Nat} {C f : Addr} {bm : List Value} {fd : FuncData} {ps : List Str} {sp : Sp} {x fld : Str} {p cpos pos : Pos}
theorem pe_mkErr (M : ErrC X.K C f bm) (F : FnOk X.prog X.w X.K X.mg X.base CX0 k f fd ps sp) (hr : Room (k + 1) X.A) (hb : Binds X.K fd ps []) (hg : Gl X x) (hm : X.mg x = some (.ref C)) (ha : PA X (a :: es) t)
    (hdb : (x == ("__debug__" : Str)) = false := by decide) (he : starEach (a :: es) X.env = (false, eval a X.env) :: starEach es X.env := by rfl) (hpl : (backTo cpos (starEach es X.env)).any (·.1) = false := by rfl) :
    PE X (.Call (.Name x p) (a :: es) [] cpos) (tMkErr C sp t) := by
  intro pins s σ H Q I h
  refine wpAny_Call_Name_kw (ld_glob I hg hm ?_ hdb)
  refine PySem.W.callWith_K (h₀ := X.base) I.ok.mod.kin M.kp (thn (ha cpos pins s σ H _ I h) fun us s1 ⟨vs, H1, I1, r, z, q⟩ => ⟨I1.kIn, ?_⟩) he hpl
  exact run_errV M F hr hb pass0 I1 r (by rw [List.nil_append, ← r.length]; exact z) q fun e s' H' I' hq => ⟨.ref e, H', I', rfl, hq⟩
theorem pe_mkErr0 (M : ErrC X.K C f bm) (F : FnOk X.prog X.w X.K X.mg X.base CX0 k f fd ps sp) (hr : Room (k + 1) X.A) (hb : Binds X.K fd ps []) (hg : Gl X x) (hm : X.mg x = some (.ref C)) (hdb : (x == ("__debug__" : Str)) = false := by decide) :
    PE X (.Call (.Name x p) [] [] cpos) (tMkErr C sp tNil) := by
  intro pins s σ H Q I h
  refine wpAny_Call_Name_kw (ld_glob I hg hm ?_ hdb)
  exact PySem.W.callWith_K0 I.kIn M.kp (run_errV (us := []) M F hr hb pass0 I .nil h.1 h.2 fun e s' H' I' hq => ⟨.ref e, H', I', rfl, hq⟩)
def tErrG (K : PySem.W.Frag) (ta : TE) (fld : Str) : TE := fun σ H Q => ta σ H fun x H1 => ∃ e C dx f bm fs v, x = .ref e ∧ H1 e = some (errO e C (some dx)) ∧ ErrC K C f bm ∧ PySem.W.findIn K (.ref C) fld = some none ∧ H1 dx = some (.xd fs) ∧ fs.lookup fld = some v ∧ Q v H1
theorem pe_errG {e : Expr} {ta : TE} (he : PE X e ta) (hb : attributeBase e fld X.env (eval e X.env) = eval e X.env) : PE X (.Attribute e fld pos) (tErrG X.K ta fld) := by
  intro pins s σ H Q I h
  refine attr_of hb (thn (he pins s σ H _ I h) fun u s1 ⟨x, H1, I1, rx, a, C, dx, f, bm, fs, v, ex, ea, ec, nf, hd, l, q⟩ => ?_)
  subst ex
  obtain rfl : u = Value.ref a := rx
  obtain ⟨nm, q0, N, bs, sn, sub, ab, col, dd, k0, k1, k2, k3, k5, lk⟩ := ec.obj
  have at_ := I1.kIn _ _ lk
  obtain ⟨t0, hx⟩ := errO_at I1.hok ea
  obtain ⟨mA, hn, hr⟩ := I1.hok dx _ hd
  have rv := hr fld
  rw [l] at rv
  cases hv : mA fld with
  | none => rw [hv] at rv; exact False.elim rv
  | some u' =>
    rw [hv] at rv
    obtain ⟨hh, g, d, t, os⟩ := s1
    exact L2E.getErr ec.base at_ (finds_K I1.kIn nf) (finds_K I1.kIn ec.ga) (finds_K I1.kIn ec.gh) hx rfl (fun c z => nomatch z) rfl hn.ns hv (PySem.W.handedOut_of (handed_of rv)) ⟨v, H1, I1.tok (t + 1), rv, q⟩
end
end L2
set_option Elab.async false
set_option linter.all false
set_option maxRecDepth 100000
namespace L2E
open PySem PySem.Builtin.ObjectAttr
section
variable {prog : Program} {w : World} {A : Around} {E : Value → Shared → Prop} {h : Heap} {g : Array GenState} {d : Drawn} {t : Nat} {os : OsState} {a dx : Addr} {o : Obj}
  {nm q : Str} {C N : Addr} {bs bm : List Value} {hdct : Bool} {sn : List Str} {sub : List Value} {ab : Bool} {col : Option Bool} {dd : Option Addr} {k0 k1 k2 k3 k5 : Option Value} {newId : String}
theorem classGet {R : Result → Shared → Prop} (at_ : h.get? C = some (excClassObj nm q C N bs bm hdct sn sub ab col dd k0 k1 k2 k3 k5 newId)) (ob : bm.contains (.type "object") = true) (hx : h.get? a = some o) (hc : o.cls = .ref C) (hq : R (.ok (.ret (.ref C))) ⟨h, g, d, t, os⟩) :
    codeAny (model prog w) A (.call (.builtin "getset_descriptor.__get__") ⟨[.builtin "object.__class__", .ref a, .ref C], []⟩) R ⟨h, g, d, t, os⟩ := by
  have hT5 : (⟨h, g, d, t, os⟩ : Shared).TypeIs (.builtin "object.__class__") "getset_descriptor" := F.typeOf_object_class
  have hcB : (Value.ref C :: bm).contains (.type "object") = true := by rw [List.contains_cons, ob, Bool.or_true]
  refine codeAny_call_builtin F.slot_gs_get.plain F.entry_gs_get (F.slot_gs_get.check _ _ _ _ _ _ _ _ hT5 (F.args_gs_get _ _ _) ?_)
  repeat (any_goals (first | assumption | (with_reducible refine wpAny_loadPart_at hx ?_; rw [hc]) | (rw [F.owner_object_class]; with_reducible refine wpAny_isSubtype_exc at_ ?_; rw [hcB]) | wp_step))
  refine ⟨Code.quiet_builtin _ (by decide +kernel), codeAny_builtin F.entry_object_class ?_⟩
  repeat (any_goals (first | assumption | (with_reducible refine wpAny_loadPart_at hx ?_; rw [hc]) | wp_step))
theorem classEntry {tk : Tok} {Q : Fin → Shared → Prop} (at_ : h.get? C = some (excClassObj nm q C N bs bm hdct sn sub ab col dd k0 k1 k2 k3 k5 newId)) (ob : bm.contains (.type "object") = true) (fc : Finds h C "__class__" (some (.builtin "object.__class__"))) (hx : h.get? a = some o) (hc : o.cls = .ref C) (hq : Q (.done (.ret (.ref C))) ⟨h, g, d, t, os⟩) :
    wpAny (model prog w) A (Builtin.«object.__getattribute__» ⟨[.ref a, .str "__class__" tk], []⟩) Q E ⟨h, g, d, t, os⟩ := by
  have hT5 : (⟨h, g, d, t, os⟩ : Shared).TypeIs (.builtin "object.__class__") "getset_descriptor" := F.typeOf_object_class
  have f5 := F.typeOf_object_class
  have f6 := F.slot_gs_get.lookup
  have f7 := F.slot_gs_set.lookup
  unfold Builtin.«object.__getattribute__»
  repeat (any_goals (first | assumption | (with_reducible refine wpAny_loadPart_at hx ?_; rw [hc]) | wp_step))
  refine fc _ _ _ _ _ _ _ _ ?_
  repeat (any_goals (first | assumption | (with_reducible refine wpAny_loadPart_at hx ?_; rw [hc]) | wp_step))
  refine classGet at_ ob hx hc ?_
  repeat (any_goals (first | assumption | wp_step))
theorem classBy {tk : Tok} {expr : Bool} {Q : Value → Shared → Prop} (base : bm.contains (.type "BaseException") = true) (at_ : h.get? C = some (excClassObj nm q C N bs bm hdct sn sub ab col dd k0 k1 k2 k3 k5 newId)) (ob : bm.contains (.type "object") = true) (fc : Finds h C "__class__" (some (.builtin "object.__class__")))
    (fg : Finds h C "__getattribute__" (some (.builtin "BaseException.__getattribute__"))) (fh : Finds h C "__getattr__" none) (hx : h.get? a = some o) (hc : o.cls = .ref C) (hq : Q (.ref C) ⟨h, g, d, t, os⟩) :
    wpAny (model prog w) A (getAttrBy (.ref a) (.str "__class__" tk) false expr) Q E ⟨h, g, d, t, os⟩ := by
  have f3 := bga_bind (.ref a)
  have hx0 : (expr && onTheHeap (Value.builtin "BaseException.__getattribute__")) = false := by cases expr <;> rfl
  have hx2 : (Value.builtin "BaseException.__getattribute__" == Value.builtin "object.__getattribute__") = false := by decide +kernel
  have hx1 : (onTheHeap (Value.ref C) && Value.builtin "BaseException.__getattribute__" == Value.builtin "object.__getattribute__") = false := by rw [hx2]; rfl
  unfold getAttrBy
  repeat (any_goals (first | assumption | (with_reducible refine wpAny_loadPart_at hx ?_; rw [hc]) | wp_step))
  refine fg _ _ _ _ _ _ _ _ ?_
  repeat (any_goals (first | assumption | (with_reducible refine wpAny_loadPart_at hx ?_; rw [hc]) | wp_step))
  refine fh _ _ _ _ _ _ _ _ ?_
  repeat (any_goals (first | assumption | (with_reducible refine wpAny_loadPart_at hx ?_; rw [hc]) | wp_step))
  refine codeAny_call_builtin (by decide +kernel) F.entry_bexc_ga (gaChecked base at_ hx hc (classEntry at_ ob fc hx hc ?_))
  repeat (any_goals (first | assumption | wp_step))
theorem classAttr {Q : Option Value → Shared → Prop} (base : bm.contains (.type "BaseException") = true) (at_ : h.get? C = some (excClassObj nm q C N bs bm hdct sn sub ab col dd k0 k1 k2 k3 k5 newId)) (ob : bm.contains (.type "object") = true) (fc : Finds h C "__class__" (some (.builtin "object.__class__")))
    (fg : Finds h C "__getattribute__" (some (.builtin "BaseException.__getattribute__"))) (fh : Finds h C "__getattr__" none) (hx : h.get? a = some o) (hc : o.cls = .ref C) (hq : Q (some (.ref C)) ⟨h, g, d, t + 1, os⟩) :
    wpAny (model prog w) A (getAttr? (.ref a) "__class__") Q E ⟨h, g, d, t, os⟩ := by
  unfold getAttr? getAttrBy?
  repeat (any_goals (first | assumption | with_reducible apply classBy base at_ ob fc fg fh hx hc | wp_step))
end
end L2E
namespace L2
open PySem PySem.Spec PyProof.Rows
def ErrAt (a C : Addr) (h : Heap) : Prop := ∃ o, h.get? a = some o ∧ o.cls = .ref C
theorem kitx_err {K : PySem.W.Frag} {a C f : Addr} {bm : List Value} (ec : ErrC K C f bm) (fc : PySem.W.findIn K (.ref C) "__class__" = some (some (.builtin "object.__class__"))) : PySem.W.KitX K (.ref a) (.ref C) (ErrAt a C) where
  ty := fun M h _ p => by
    obtain ⟨o, h1, h2⟩ := p
    exact h2 ▸ (PySem.W.Looks.ld h1).andThen .now
  it := fun M h X _ => by
    obtain ⟨nm, q0, N, bs, sn, sub, ab, col, dd, k0, k1, k2, k3, k5, lk⟩ := ec.obj
    intro A' Q' E' s' k q
    unfold isType loadHead
    exact wpAny_bind (wpAny_loadPart (k _ _ (X _ _ lk)) (wpAny_pure q))
  ne := fun h tp dd' its n sl X htp => by
    obtain ⟨nm, q0, N, bs, sn, sub, ab, col, dd, k0, k1, k2, k3, k5, lk⟩ := ec.obj
    refine Bool.eq_false_iff.mpr fun q => ?_
    have e : C = tp := Value.ref.inj (beq_iff_eq.mp q)
    subst e
    have z := congrArg Obj.cls (Option.some.inj ((X _ _ lk).symm.trans htp))
    have z' : ("type" : String) = "tuple" := Value.type.inj z
    exact absurd z' (by decide)
  ca := fun {prog w A E Q s} X p k => by
    obtain ⟨nm, q0, N, bs, sn, sub, ab, col, dd, k0, k1, k2, k3, k5, lk⟩ := ec.obj
    obtain ⟨o, h1, h2⟩ := p
    obtain ⟨h, g, d, t, os⟩ := s
    exact L2E.classAttr ec.base (X _ _ lk) ec.own (finds_K X fc) (finds_K X ec.ga) (finds_K X ec.gh) h1 h2 k
section
variable {X : Cx}
inductive RI (K : PySem.W.Frag) : List V → Hp → VK → Prop
  | own {a C Ck f : Addr} {dx : Option Addr} {bm : List Value} {H : Hp} {Q : VK} (b : Bool) (h : H a = some (errO a C dx)) (ec : ErrC K C f bm) (fc : PySem.W.findIn K (.ref C) "__class__" = some (some (.builtin "object.__class__"))) (e : PySem.W.kitOne K (.ref C) (.ref Ck) = some b) (q : Q (.bl b) H) : RI K [.ref a, .ref Ck] H Q
  | ty {a C f : Addr} {dx : Option Addr} {n : String} {bm : List Value} {H : Hp} {Q : VK} (b : Bool) (h : H a = some (errO a C dx)) (ec : ErrC K C f bm) (fc : PySem.W.findIn K (.ref C) "__class__" = some (some (.builtin "object.__class__"))) (e : PySem.W.kitOne K (.ref C) (.type n) = some b) (q : Q (.bl b) H) : RI K [.ref a, .ty n] H Q
theorem call_instE : CallR X (.builtin "isinstance") (RI X.K) := by
  intro pins s σ H xs us Q I r h
  cases h with
  | own b h ec fc e q =>
    obtain ⟨u, w', rfl, r1, r2⟩ := vals2 r
    cases r1
    cases r2
    obtain ⟨t0, hx⟩ := errO_at I.hok h
    exact PySem.W.kia_one (kitx_err ec fc) I.kIn ⟨_, hx, rfl⟩ e (fun z => nomatch z) fun tk => ⟨.bl b, H, I.tok _, rfl, q⟩
  | ty b h ec fc e q =>
    obtain ⟨u, w', rfl, r1, r2⟩ := vals2 r
    cases r1
    cases r2
    obtain ⟨t0, hx⟩ := errO_at I.hok h
    exact PySem.W.kia_one (kitx_err ec fc) I.kIn ⟨_, hx, rfl⟩ e (fun z => nomatch z) fun tk => ⟨.bl b, H, I.tok _, rfl, q⟩
end
end L2
set_option Elab.async false
set_option linter.all false
set_option maxRecDepth 100000
namespace L2E
open PySem PySem.Builtin.ObjectAttr
section
variable {h : Heap} {g : Array GenState} {d : Drawn} {t : Nat} {os : OsState} {prog : Program} {w : World} {A : Around} {E : Value → Shared → Prop}
variable {nm q : Str} {C N x : Addr} {bs bm bmB : List Value} {sn : List Str} {sub : List Value} {ab : Bool} {col : Option Bool} {dd : Option Addr} {k0 k1 k2 k3 k5 : Option Value} {B newId sa owner : String} {name : Str} {v : Value}
theorem storeMore {tk : Tok} {Q : Fin → Shared → Prop} {o : Obj} {dx : Addr} {m : Str → Option Value} {ns : List Str} (at_ : h.get? C = some (excClassObj nm q C N bs bm true sn sub ab col dd k0 k1 k2 k3 k5 newId)) (pass : refuseLoop (.ref x) "__setattr__" bm = pure ()) (fn : Finds h C name none)
    (hx : h.get? x = some o) (hc : o.cls = .ref C) (hd : o.dict = some dx) (hnc : ∀ c, o.data ≠ .cls c) (hm : h.Ns1 dx m) (hw : Within m ns) (few : ns.length ≤ 100)
    (z : ∀ h' tk', h'.Ns1 dx (fun y => if y = name then some v else m y) → Heap.SameBut dx h h' → Q (.done (.ret .none)) ⟨h', g, d, tk', os⟩) :
    wpAny (model prog w) A (Builtin.«object.__setattr__» ⟨[.ref x, .str name tk, v], []⟩) Q E ⟨h, g, d, t, os⟩ := by
  unfold Builtin.«object.__setattr__»
  repeat (first | rw [refuse_eq] | (rw [refuseLoop_ref, pass]) | (with_reducible refine wpAny_loadPart_at hx ?_; rw [hc]) | with_reducible refine wpAny_mroOf_exc at_ ?_ | wp_step)
  refine fn _ _ _ _ _ _ _ _ ?_
  repeat (first | (with_reducible refine wpAny_loadPart_at hx ?_; rw [hc]) | with_reducible refine wpAny_loadPart_at hx ?_ | wp_step)
  rw [hd, if_neg (by simp [typeHasDict])]
  split
  · rename_i y
    cases y
    refine wpAny_pure ?_
    refine (show wpAny _ _ (storeInDict dx (.str name tk) name v) _ _ _ from ?_)
    unfold storeInDict newKeyGuard
    refine wpAny_bind (wpAny_pure (wpAny_bind (wpAny_nsSet1 hm fun h2 n2 s2 => ?_)))
    obtain ⟨o3, e3, p3, a3, b3, c3⟩ := n2.count (Within.cons name v hw)
    refine wpAny_bind (wpAny_lookBehind a3 (by rw [b3]; exact pastItsLine_dict (Nat.le_trans c3 (by rw [List.length_cons, sizeLine_eq]; omega))) ?_)
    wp_walk
    exact z h2 _ n2 s2
  · rename_i y
    cases y
theorem setMore {Q : Unit → Shared → Prop} {o : Obj} {dx : Addr} {m : Str → Option Value} {ns : List Str} (SF : StoreFacts B bmB sa owner) (own : bm.contains (.type owner) = true) (at_ : h.get? C = some (excClassObj nm q C N bs bm true sn sub ab col dd k0 k1 k2 k3 k5 newId)) (pass : refuseLoop (.ref x) "__setattr__" bm = pure ())
    (fs : Finds h C "__setattr__" (some (.builtin sa))) (fn : Finds h C name none) (hx : h.get? x = some o) (hc : o.cls = .ref C) (hd : o.dict = some dx) (hnc : ∀ c, o.data ≠ .cls c) (hm : h.Ns1 dx m) (hw : Within m ns) (few : ns.length ≤ 100)
    (z : ∀ h' tk', h'.Ns1 dx (fun y => if y = name then some v else m y) → Heap.SameBut dx h h' → Q () ⟨h', g, d, tk', os⟩) :
    wpAny (model prog w) A (setAttr (.ref x) name v) Q E ⟨h, g, d, t, os⟩ := by
  have b1 := SF.slot.bind (.ref x)
  unfold setAttr callSpecial? specialOf
  repeat (any_goals (first | assumption | (with_reducible refine wpAny_loadPart_at hx ?_; rw [hc]) | wp_step))
  refine fs _ _ _ _ _ _ _ _ ?_
  repeat (any_goals (first | assumption | (with_reducible refine wpAny_loadPart_at hx ?_; rw [hc]) | wp_step))
  refine codeAny_call_builtin SF.slot.plain SF.entry (saChecked SF own at_ hx hc (storeMore at_ pass fn hx hc hd hnc hm hw few fun h' tk' y1 y2 => ?_))
  repeat (any_goals (first | assumption | wp_step))
  exact z h' tk' y1 y2
end
end L2E
namespace L2
open PySem PySem.Spec PyProof.Rows
section
variable {X : Cx} {pos pos' : Pos} {o value : Expr} {fld : Str} {ta tv : TE}
theorem lookup_mem {f : Str} : ∀ {fs : List (Str × V)}, fs.lookup f ≠ none → f ∈ fs.map (·.1)
  | [], h => absurd rfl h
  | (g, y) :: r, h => by
    rw [List.lookup_cons] at h
    by_cases c : f = g
    · subst c; simp
    · have : (f == g) = false := by simpa using c
      rw [this] at h
      exact List.mem_cons_of_mem _ (lookup_mem h)
def xdE (a : Addr) (fs : List (Str × V)) : HO := .ext fun h => ∃ mA, h.Ns1 a mA ∧ ∀ f, RelO (fs.lookup f) (mA f)
theorem xdE_ok {P : Program} {w : World} {H : Hp} {h : Heap} {a : Addr} {fs : List (Str × V)} {mA : Str → Option Value} (hn : h.Ns1 a mA) (hr : ∀ f, RelO (fs.lookup f) (mA f)) : ObjOk P w H h a (xdE a fs) :=
  ⟨⟨mA, hn, hr⟩, (let ⟨o', _, _, e', _⟩ := hn; ⟨o', e'⟩), fun _ _ ⟨m, ⟨od, es, ep, e, c⟩, r⟩ k => ⟨m, ⟨od, es, ep, k _ e, c⟩, r⟩⟩
def sSetX (K : PySem.W.Frag) (ta tv : TE) (fld : Str) : TS := fun D σ H => tv σ H fun y H1 => ta σ H1 fun x H2 => ∃ e C f bm, x = .ref e ∧ ErrC K C f bm ∧ PySem.W.findIn K (.ref C) fld = some none ∧ H2 e = some (errO e C none) ∧
  ∀ dx, H2 dx = none → dx ≠ e → D.nx σ (upd (upd H2 e (errO e C (some dx))) dx (xdE dx [(fld, y)]))
theorem ps_setX (ha : PE X o ta) (hv : PE X value tv) (hs : swapsWith value (some (.Attribute o fld pos')) pos.line X.env = pure false) : PS X (.Assign [.Attribute o fld pos'] value pos) (sSetX X.K ta tv fld) := by
  intro pins s σ H D I h
  refine plainObj_wpAny_Assign_Attribute (thn (hv pins s σ H _ I h) fun u s1 ⟨y, H1, I1, ry, q⟩ => thn (ha pins s1 σ H1 _ I1 q) fun ov s2 ⟨x, H2, I2, rx, e, C, f, bm, ex, ec, nf, hH, q2⟩ => ?_) hs
  subst ex
  obtain rfl : ov = Value.ref e := rx
  obtain ⟨nm, q0, N, bs, sn, sub, ab, col, dd, k0, k1, k2, k3, k5, lk⟩ := ec.obj
  have at_ := I2.kIn _ _ lk
  obtain ⟨t0, hx⟩ := errO_at I2.hok hH
  obtain ⟨hh, g, d, t, os⟩ := s2
  refine L2E.setErr PySem.F.store_ValueError ec.own at_ (ec.pass _) (finds_K I2.kIn ec.sa) (finds_K I2.kIn nf) hx rfl rfl (fun c z => nomatch z) fun h' tk' z1 z2 z3 => ?_
  have lt := Heap.lt_size hx
  have hn : H2 hh.objs.size = none := I2.hok.fresh (Nat.le_refl _)
  have J := I2.write (h' := h') (x := e) (e := e) (o := errO e C (some hh.objs.size)) (t' := tk') (by rw [hH]; exact True.intro) (.inl rfl) z3 ⟨_, z1⟩ (errO_ok z1)
  have ne : hh.objs.size ≠ e := Nat.ne_of_gt lt
  have hn' : upd H2 e (errO e C (some hh.objs.size)) hh.objs.size = none := by rw [upd_ne ne]; exact hn
  have J2 := J.take (D := hh.objs.size) (o := xdE hh.objs.size [(fld, y)]) (I2.fpOk (Nat.le_refl _) hn') I2.sz (xdE_ok z2 fun n => ?_)
  · exact ⟨σ, _, J2, q2 _ hn ne⟩
  · show RelO (List.lookup n [(fld, y)]) _
    rw [List.lookup_cons]
    by_cases c : n = fld
    · subst c
      simp only [beq_self_eq_true, if_true]
      exact ry
    · have : (n == fld) = false := by simpa using c
      rw [this, if_neg c]
      exact True.intro
def sSetE2 (K : PySem.W.Frag) (ta tv : TE) (fld : Str) : TS := fun D σ H => tv σ H fun y H1 => ta σ H1 fun x H2 => ∃ e C f bm dx fs, x = .ref e ∧ ErrC K C f bm ∧ PySem.W.findIn K (.ref C) fld = some none ∧ H2 e = some (errO e C (some dx)) ∧ H2 dx = some (xdE dx fs) ∧ fs.length ≤ 100 ∧ D.nx σ (upd H2 dx (xdE dx ((fld, y) :: fs)))
theorem ps_setE2 (ha : PE X o ta) (hv : PE X value tv) (hs : swapsWith value (some (.Attribute o fld pos')) pos.line X.env = pure false) : PS X (.Assign [.Attribute o fld pos'] value pos) (sSetE2 X.K ta tv fld) := by
  intro pins s σ H D I h
  refine plainObj_wpAny_Assign_Attribute (thn (hv pins s σ H _ I h) fun u s1 ⟨y, H1, I1, ry, q⟩ => thn (ha pins s1 σ H1 _ I1 q) fun ov s2 ⟨x, H2, I2, rx, e, C, f, bm, dx, fs, ex, ec, nf, hH, hd, few, q2⟩ => ?_) hs
  subst ex
  obtain rfl : ov = Value.ref e := rx
  obtain ⟨nm, q0, N, bs, sn, sub, ab, col, dd, k0, k1, k2, k3, k5, lk⟩ := ec.obj
  have at_ := I2.kIn _ _ lk
  obtain ⟨t0, hx⟩ := errO_at I2.hok hH
  obtain ⟨mA, hn, hr⟩ := (I2.hok dx _ hd).1
  obtain ⟨hh, g, d, t, os⟩ := s2
  have hw : Within mA (fs.map (·.1)) := fun y hy => lookup_mem fun z => by
    have := hr y
    rw [z] at this
    cases e : mA y with
    | none => exact hy e
    | some u => rw [e] at this; exact this
  refine L2E.setMore PySem.F.store_ValueError ec.own at_ (ec.pass _) (finds_K I2.kIn ec.sa) (finds_K I2.kIn nf) hx rfl rfl (fun c z => nomatch z) hn hw (by rw [List.length_map]; exact few) fun h' tk' z1 z2 => ?_
  have J := I2.write (h' := h') (x := dx) (e := dx) (o := xdE dx ((fld, y) :: fs)) (t' := tk') (by rw [hd]; exact True.intro) (.inl rfl) (fun b u nb hb => (z2.2 b nb).trans hb) (let ⟨o', _, _, e', _⟩ := z1; ⟨o', e'⟩) (xdE_ok z1 fun n => ?_)
  · exact ⟨σ, _, J, q2⟩
  · rw [List.lookup_cons]
    by_cases c : n = fld
    · subst c
      simp only [beq_self_eq_true, if_true]
      exact ry
    · have : (n == fld) = false := by simpa using c
      rw [this, if_neg c]
      exact hr n
def tErrX (K : PySem.W.Frag) (ta : TE) (fld : Str) : TE := fun σ H Q => ta σ H fun x H1 => ∃ e C dx f bm fs v, x = .ref e ∧ H1 e = some (errO e C (some dx)) ∧ ErrC K C f bm ∧ PySem.W.findIn K (.ref C) fld = some none ∧ H1 dx = some (xdE dx fs) ∧ fs.lookup fld = some v ∧ Q v H1
theorem pe_errX {e : Expr} (he : PE X e ta) (hb : attributeBase e fld X.env (eval e X.env) = eval e X.env) : PE X (.Attribute e fld pos) (tErrX X.K ta fld) := by
  intro pins s σ H Q I h
  refine attr_of hb (thn (he pins s σ H _ I h) fun u s1 ⟨x, H1, I1, rx, a, C, dx, f, bm, fs, v, ex, ea, ec, nf, hd, l, q⟩ => ?_)
  subst ex
  obtain rfl : u = Value.ref a := rx
  obtain ⟨nm, q0, N, bs, sn, sub, ab, col, dd, k0, k1, k2, k3, k5, lk⟩ := ec.obj
  have at_ := I1.kIn _ _ lk
  obtain ⟨t0, hx⟩ := errO_at I1.hok ea
  obtain ⟨mA, hn, hr⟩ := (I1.hok dx _ hd).1
  have rv := hr fld
  rw [l] at rv
  cases hv : mA fld with
  | none => rw [hv] at rv; exact False.elim rv
  | some u' =>
    rw [hv] at rv
    obtain ⟨hh, g, d, t, os⟩ := s1
    exact L2E.getErr ec.base at_ (finds_K I1.kIn nf) (finds_K I1.kIn ec.ga) (finds_K I1.kIn ec.gh) hx rfl (fun c z => nomatch z) rfl hn.ns hv (PySem.W.handedOut_of (handed_of rv)) ⟨v, H1, I1.tok (t + 1), rv, q⟩
end
end L2
set_option Elab.async false
set_option linter.all false
set_option maxRecDepth 100000
namespace S
open PySem L2
def spErr2 (C : Addr) (f1 f2 : Str) : Sp := fun vs H Q _ => ∃ e v u, vs = [.ref e, v, u] ∧ H e = some (errO e C none) ∧ ∀ dx, H dx = none → dx ≠ e → Q .non (upd (upd (upd H e (errO e C (some dx))) dx (xdE dx [(f1, v)])) dx (xdE dx [(f2, u), (f1, v)]))
section
variable {P : Program} {w : World} {K : PySem.W.Frag} {mg : Str → Option Value} {base : Heap}
theorem scNoHousesI : FnScope ["self", "found"] ["self", "found"] (defScope sNoHousesInit) := ⟨rfl, rfl, rfl, by decide +kernel, rfl, by decide +kernel, by decide +kernel⟩
theorem ok_NoHousesI {f C CM fM : Addr} {bm : List Value} {fd fdM : FuncData} (F : Fun K "__init__" "NoHouses.__init__" sNoHousesInit f fd) (ec : ErrC K C f bm) (nf : PySem.W.findIn K (.ref C) "found" = some none) (cf : ClsFn K CM fM) (OM : FnOk P w K mg base CX0 1 fM fdM ["self", "text"] (spMeet K)) (bM : Binds K fdM ["self", "text"] []) (mM : mg "MeetError" = some (.ref CM)) :
    FnOk P w K mg base CX0 2 f fd ["self", "found"] (spErr1 C "found") := by
  refine F.ok scNoHousesI (fun vs H Q E h => ?_) (fun cdv A outer s H vs Q E hr h => ?_)
  · obtain ⟨e, v, rfl, _⟩ := h
    rfl
  obtain ⟨e, v, rfl, hH, q⟩ := h
  refine ⟨_, pss_cons (ps_expr (pe_initM cf OM hr bM pass0 rfl mM (pa_cons (pv 0) (pa_cons pe_str pa_nil)))) (pss_one (ps_setE (pv 0) (pv 1) rfl)), ?_⟩
  refine ⟨_, rfl, e, C, _, f, bm, rfl, ec, hH, ?_⟩
  exact ⟨_, rfl, _, rfl, e, C, f, bm, rfl, ec, nf, hH, fun dx hdx ne => q dx hdx ne⟩
theorem scNoHouseI : FnScope ["self", "found"] ["self", "found"] (defScope sNoHouseInit) := ⟨rfl, rfl, rfl, by decide +kernel, rfl, by decide +kernel, by decide +kernel⟩
theorem ok_NoHouseI {f C CM fM : Addr} {bm : List Value} {fd fdM : FuncData} (F : Fun K "__init__" "NoHouse.__init__" sNoHouseInit f fd) (ec : ErrC K C f bm) (nf : PySem.W.findIn K (.ref C) "found" = some none) (cf : ClsFn K CM fM) (OM : FnOk P w K mg base CX0 1 fM fdM ["self", "text"] (spMeet K)) (bM : Binds K fdM ["self", "text"] []) (mM : mg "MeetError" = some (.ref CM)) :
    FnOk P w K mg base CX0 2 f fd ["self", "found"] (spErr1 C "found") := by
  refine F.ok scNoHouseI (fun vs H Q E h => ?_) (fun cdv A outer s H vs Q E hr h => ?_)
  · obtain ⟨e, v, rfl, _⟩ := h
    rfl
  obtain ⟨e, v, rfl, hH, q⟩ := h
  refine ⟨_, pss_cons (ps_expr (pe_initM cf OM hr bM pass0 rfl mM (pa_cons (pv 0) (pa_cons pe_str pa_nil)))) (pss_one (ps_setE (pv 0) (pv 1) rfl)), ?_⟩
  refine ⟨_, rfl, e, C, _, f, bm, rfl, ec, hH, ?_⟩
  exact ⟨_, rfl, _, rfl, e, C, f, bm, rfl, ec, nf, hH, fun dx hdx ne => q dx hdx ne⟩
theorem scNoSetI : FnScope ["self", "found"] ["self", "found"] (defScope sNoSetInit) := ⟨rfl, rfl, rfl, by decide +kernel, rfl, by decide +kernel, by decide +kernel⟩
theorem ok_NoSetI {f C CM fM : Addr} {bm : List Value} {fd fdM : FuncData} (F : Fun K "__init__" "NoSet.__init__" sNoSetInit f fd) (ec : ErrC K C f bm) (nf : PySem.W.findIn K (.ref C) "found" = some none) (cf : ClsFn K CM fM) (OM : FnOk P w K mg base CX0 1 fM fdM ["self", "text"] (spMeet K)) (bM : Binds K fdM ["self", "text"] []) (mM : mg "MeetError" = some (.ref CM)) :
    FnOk P w K mg base CX0 2 f fd ["self", "found"] (spErr1 C "found") := by
  refine F.ok scNoSetI (fun vs H Q E h => ?_) (fun cdv A outer s H vs Q E hr h => ?_)
  · obtain ⟨e, v, rfl, _⟩ := h
    rfl
  obtain ⟨e, v, rfl, hH, q⟩ := h
  refine ⟨_, pss_cons (ps_expr (pe_initM cf OM hr bM pass0 rfl mM (pa_cons (pv 0) (pa_cons pe_str pa_nil)))) (pss_one (ps_setE (pv 0) (pv 1) rfl)), ?_⟩
  refine ⟨_, rfl, e, C, _, f, bm, rfl, ec, hH, ?_⟩
  exact ⟨_, rfl, _, rfl, e, C, f, bm, rfl, ec, nf, hH, fun dx hdx ne => q dx hdx ne⟩
theorem scTwiceI : FnScope ["self", "found"] ["self", "found"] (defScope sTwiceInit) := ⟨rfl, rfl, rfl, by decide +kernel, rfl, by decide +kernel, by decide +kernel⟩
theorem ok_TwiceI {f C CM fM : Addr} {bm : List Value} {fd fdM : FuncData} (F : Fun K "__init__" "Twice.__init__" sTwiceInit f fd) (ec : ErrC K C f bm) (nf : PySem.W.findIn K (.ref C) "found" = some none) (cf : ClsFn K CM fM) (OM : FnOk P w K mg base CX0 1 fM fdM ["self", "text"] (spMeet K)) (bM : Binds K fdM ["self", "text"] []) (mM : mg "MeetError" = some (.ref CM)) :
    FnOk P w K mg base CX0 2 f fd ["self", "found"] (spErr1 C "found") := by
  refine F.ok scTwiceI (fun vs H Q E h => ?_) (fun cdv A outer s H vs Q E hr h => ?_)
  · obtain ⟨e, v, rfl, _⟩ := h
    rfl
  obtain ⟨e, v, rfl, hH, q⟩ := h
  refine ⟨_, pss_cons (ps_expr (pe_initM cf OM hr bM pass0 rfl mM (pa_cons (pv 0) (pa_cons pe_str pa_nil)))) (pss_one (ps_setE (pv 0) (pv 1) rfl)), ?_⟩
  refine ⟨_, rfl, e, C, _, f, bm, rfl, ec, hH, ?_⟩
  exact ⟨_, rfl, _, rfl, e, C, f, bm, rfl, ec, nf, hH, fun dx hdx ne => q dx hdx ne⟩
theorem scNoLotsI : FnScope ["self", "found"] ["self", "found"] (defScope sNoLotsInit) := ⟨rfl, rfl, rfl, by decide +kernel, rfl, by decide +kernel, by decide +kernel⟩
theorem ok_NoLotsI {f C CM fM : Addr} {bm : List Value} {fd fdM : FuncData} (F : Fun K "__init__" "NoLots.__init__" sNoLotsInit f fd) (ec : ErrC K C f bm) (nf : PySem.W.findIn K (.ref C) "found" = some none) (cf : ClsFn K CM fM) (OM : FnOk P w K mg base CX0 1 fM fdM ["self", "text"] (spMeet K)) (bM : Binds K fdM ["self", "text"] []) (mM : mg "MeetError" = some (.ref CM)) :
    FnOk P w K mg base CX0 2 f fd ["self", "found"] (spErr1 C "found") := by
  refine F.ok scNoLotsI (fun vs H Q E h => ?_) (fun cdv A outer s H vs Q E hr h => ?_)
  · obtain ⟨e, v, rfl, _⟩ := h
    rfl
  obtain ⟨e, v, rfl, hH, q⟩ := h
  refine ⟨_, pss_cons (ps_expr (pe_initM cf OM hr bM pass0 rfl mM (pa_cons (pv 0) (pa_cons pe_str pa_nil)))) (pss_one (ps_setE (pv 0) (pv 1) rfl)), ?_⟩
  refine ⟨_, rfl, e, C, _, f, bm, rfl, ec, hH, ?_⟩
  exact ⟨_, rfl, _, rfl, e, C, f, bm, rfl, ec, nf, hH, fun dx hdx ne => q dx hdx ne⟩
theorem scTooManyI : FnScope ["self", "found"] ["self", "found"] (defScope sTooManyInit) := ⟨rfl, rfl, rfl, by decide +kernel, rfl, by decide +kernel, by decide +kernel⟩
theorem ok_TooManyI {f C CM fM : Addr} {bm : List Value} {fd fdM : FuncData} (F : Fun K "__init__" "TooMany.__init__" sTooManyInit f fd) (ec : ErrC K C f bm) (nf : PySem.W.findIn K (.ref C) "found" = some none) (cf : ClsFn K CM fM) (OM : FnOk P w K mg base CX0 1 fM fdM ["self", "text"] (spMeet K)) (bM : Binds K fdM ["self", "text"] []) (mM : mg "MeetError" = some (.ref CM)) :
    FnOk P w K mg base CX0 2 f fd ["self", "found"] (spErr1 C "found") := by
  refine F.ok scTooManyI (fun vs H Q E h => ?_) (fun cdv A outer s H vs Q E hr h => ?_)
  · obtain ⟨e, v, rfl, _⟩ := h
    rfl
  obtain ⟨e, v, rfl, hH, q⟩ := h
  refine ⟨_, pss_cons (ps_expr (pe_initM cf OM hr bM pass0 rfl mM (pa_cons (pv 0) (pa_cons pe_str pa_nil)))) (pss_one (ps_setE (pv 0) (pv 1) rfl)), ?_⟩
  refine ⟨_, rfl, e, C, _, f, bm, rfl, ec, hH, ?_⟩
  exact ⟨_, rfl, _, rfl, e, C, f, bm, rfl, ec, nf, hH, fun dx hdx ne => q dx hdx ne⟩
theorem scNoPlanI : FnScope ["self", "found"] ["self", "found"] (defScope sNoPlanInit) := ⟨rfl, rfl, rfl, by decide +kernel, rfl, by decide +kernel, by decide +kernel⟩
theorem ok_NoPlanI {f C CM fM : Addr} {bm : List Value} {fd fdM : FuncData} (F : Fun K "__init__" "NoPlan.__init__" sNoPlanInit f fd) (ec : ErrC K C f bm) (nf : PySem.W.findIn K (.ref C) "found" = some none) (cf : ClsFn K CM fM) (OM : FnOk P w K mg base CX0 1 fM fdM ["self", "text"] (spMeet K)) (bM : Binds K fdM ["self", "text"] []) (mM : mg "MeetError" = some (.ref CM)) :
    FnOk P w K mg base CX0 2 f fd ["self", "found"] (spErr1 C "found") := by
  refine F.ok scNoPlanI (fun vs H Q E h => ?_) (fun cdv A outer s H vs Q E hr h => ?_)
  · obtain ⟨e, v, rfl, _⟩ := h
    rfl
  obtain ⟨e, v, rfl, hH, q⟩ := h
  refine ⟨_, pss_cons (ps_expr (pe_initM cf OM hr bM pass0 rfl mM (pa_cons (pv 0) (pa_cons pe_str pa_nil)))) (pss_one (ps_setE (pv 0) (pv 1) rfl)), ?_⟩
  refine ⟨_, rfl, e, C, _, f, bm, rfl, ec, hH, ?_⟩
  exact ⟨_, rfl, _, rfl, e, C, f, bm, rfl, ec, nf, hH, fun dx hdx ne => q dx hdx ne⟩
theorem scNoTextI : FnScope ["self", "place"] ["self", "place"] (defScope sNoTextInit) := ⟨rfl, rfl, rfl, by decide +kernel, rfl, by decide +kernel, by decide +kernel⟩
theorem ok_NoTextI {f C CM fM : Addr} {bm : List Value} {fd fdM : FuncData} (F : Fun K "__init__" "NoText.__init__" sNoTextInit f fd) (ec : ErrC K C f bm) (nf : PySem.W.findIn K (.ref C) "place" = some none) (cf : ClsFn K CM fM) (OM : FnOk P w K mg base CX0 1 fM fdM ["self", "text"] (spMeet K)) (bM : Binds K fdM ["self", "text"] []) (mM : mg "MeetError" = some (.ref CM)) :
    FnOk P w K mg base CX0 2 f fd ["self", "place"] (spErr1 C "place") := by
  refine F.ok scNoTextI (fun vs H Q E h => ?_) (fun cdv A outer s H vs Q E hr h => ?_)
  · obtain ⟨e, v, rfl, _⟩ := h
    rfl
  obtain ⟨e, v, rfl, hH, q⟩ := h
  refine ⟨_, pss_cons (ps_expr (pe_initM cf OM hr bM pass0 rfl mM (pa_cons (pv 0) (pa_cons pe_str pa_nil)))) (pss_one (ps_setE (pv 0) (pv 1) rfl)), ?_⟩
  refine ⟨_, rfl, e, C, _, f, bm, rfl, ec, hH, ?_⟩
  exact ⟨_, rfl, _, rfl, e, C, f, bm, rfl, ec, nf, hH, fun dx hdx ne => q dx hdx ne⟩
theorem scNoShareI : FnScope ["self", "found"] ["self", "found"] (defScope sNoShareInit) := ⟨rfl, rfl, rfl, by decide +kernel, rfl, by decide +kernel, by decide +kernel⟩
theorem ok_NoShareI {f C CM fM : Addr} {bm : List Value} {fd fdM : FuncData} (F : Fun K "__init__" "NoShare.__init__" sNoShareInit f fd) (ec : ErrC K C f bm) (nf : PySem.W.findIn K (.ref C) "found" = some none) (cf : ClsFn K CM fM) (OM : FnOk P w K mg base CX0 1 fM fdM ["self", "text"] (spMeet K)) (bM : Binds K fdM ["self", "text"] []) (mM : mg "MeetError" = some (.ref CM)) :
    FnOk P w K mg base CX0 2 f fd ["self", "found"] (spErr1 C "found") := by
  refine F.ok scNoShareI (fun vs H Q E h => ?_) (fun cdv A outer s H vs Q E hr h => ?_)
  · obtain ⟨e, v, rfl, _⟩ := h
    rfl
  obtain ⟨e, v, rfl, hH, q⟩ := h
  refine ⟨_, pss_cons (ps_expr (pe_initM cf OM hr bM pass0 rfl mM (pa_cons (pv 0) (pa_cons pe_str pa_nil)))) (pss_one (ps_setE (pv 0) (pv 1) rfl)), ?_⟩
  refine ⟨_, rfl, e, C, _, f, bm, rfl, ec, hH, ?_⟩
  exact ⟨_, rfl, _, rfl, e, C, f, bm, rfl, ec, nf, hH, fun dx hdx ne => q dx hdx ne⟩
theorem scNoNumberI : FnScope ["self", "found"] ["self", "found"] (defScope sNoNumberInit) := ⟨rfl, rfl, rfl, by decide +kernel, rfl, by decide +kernel, by decide +kernel⟩
theorem ok_NoNumberI {f C CM fM : Addr} {bm : List Value} {fd fdM : FuncData} (F : Fun K "__init__" "NoNumber.__init__" sNoNumberInit f fd) (ec : ErrC K C f bm) (nf : PySem.W.findIn K (.ref C) "found" = some none) (cf : ClsFn K CM fM) (OM : FnOk P w K mg base CX0 1 fM fdM ["self", "text"] (spMeet K)) (bM : Binds K fdM ["self", "text"] []) (mM : mg "MeetError" = some (.ref CM)) :
    FnOk P w K mg base CX0 2 f fd ["self", "found"] (spErr1 C "found") := by
  refine F.ok scNoNumberI (fun vs H Q E h => ?_) (fun cdv A outer s H vs Q E hr h => ?_)
  · obtain ⟨e, v, rfl, _⟩ := h
    rfl
  obtain ⟨e, v, rfl, hH, q⟩ := h
  refine ⟨_, pss_cons (ps_expr (pe_initM cf OM hr bM pass0 rfl mM (pa_cons (pv 0) (pa_cons pe_str pa_nil)))) (pss_one (ps_setE (pv 0) (pv 1) rfl)), ?_⟩
  refine ⟨_, rfl, e, C, _, f, bm, rfl, ec, hH, ?_⟩
  exact ⟨_, rfl, _, rfl, e, C, f, bm, rfl, ec, nf, hH, fun dx hdx ne => q dx hdx ne⟩
theorem scNoChanceI : FnScope ["self", "found"] ["self", "found"] (defScope sNoChanceInit) := ⟨rfl, rfl, rfl, by decide +kernel, rfl, by decide +kernel, by decide +kernel⟩
theorem ok_NoChanceI {f C CM fM : Addr} {bm : List Value} {fd fdM : FuncData} (F : Fun K "__init__" "NoChance.__init__" sNoChanceInit f fd) (ec : ErrC K C f bm) (nf : PySem.W.findIn K (.ref C) "found" = some none) (cf : ClsFn K CM fM) (OM : FnOk P w K mg base CX0 1 fM fdM ["self", "text"] (spMeet K)) (bM : Binds K fdM ["self", "text"] []) (mM : mg "MeetError" = some (.ref CM)) :
    FnOk P w K mg base CX0 2 f fd ["self", "found"] (spErr1 C "found") := by
  refine F.ok scNoChanceI (fun vs H Q E h => ?_) (fun cdv A outer s H vs Q E hr h => ?_)
  · obtain ⟨e, v, rfl, _⟩ := h
    rfl
  obtain ⟨e, v, rfl, hH, q⟩ := h
  refine ⟨_, pss_cons (ps_expr (pe_initM cf OM hr bM pass0 rfl mM (pa_cons (pv 0) (pa_cons pe_str pa_nil)))) (pss_one (ps_setE (pv 0) (pv 1) rfl)), ?_⟩
  refine ⟨_, rfl, e, C, _, f, bm, rfl, ec, hH, ?_⟩
  exact ⟨_, rfl, _, rfl, e, C, f, bm, rfl, ec, nf, hH, fun dx hdx ne => q dx hdx ne⟩
theorem scNoDealingI : FnScope ["self", "found"] ["self", "found"] (defScope sNoDealingInit) := ⟨rfl, rfl, rfl, by decide +kernel, rfl, by decide +kernel, by decide +kernel⟩
theorem ok_NoDealingI {f C CM fM : Addr} {bm : List Value} {fd fdM : FuncData} (F : Fun K "__init__" "NoDealing.__init__" sNoDealingInit f fd) (ec : ErrC K C f bm) (nf : PySem.W.findIn K (.ref C) "found" = some none) (cf : ClsFn K CM fM) (OM : FnOk P w K mg base CX0 1 fM fdM ["self", "text"] (spMeet K)) (bM : Binds K fdM ["self", "text"] []) (mM : mg "MeetError" = some (.ref CM)) :
    FnOk P w K mg base CX0 2 f fd ["self", "found"] (spErr1 C "found") := by
  refine F.ok scNoDealingI (fun vs H Q E h => ?_) (fun cdv A outer s H vs Q E hr h => ?_)
  · obtain ⟨e, v, rfl, _⟩ := h
    rfl
  obtain ⟨e, v, rfl, hH, q⟩ := h
  refine ⟨_, pss_cons (ps_expr (pe_initM cf OM hr bM pass0 rfl mM (pa_cons (pv 0) (pa_cons pe_str pa_nil)))) (pss_one (ps_setE (pv 0) (pv 1) rfl)), ?_⟩
  refine ⟨_, rfl, e, C, _, f, bm, rfl, ec, hH, ?_⟩
  exact ⟨_, rfl, _, rfl, e, C, f, bm, rfl, ec, nf, hH, fun dx hdx ne => q dx hdx ne⟩
theorem scNoKindI : FnScope ["self", "found"] ["self", "found"] (defScope sNoKindInit) := ⟨rfl, rfl, rfl, by decide +kernel, rfl, by decide +kernel, by decide +kernel⟩
theorem ok_NoKindI {f C CM fM : Addr} {bm : List Value} {fd fdM : FuncData} (F : Fun K "__init__" "NoKind.__init__" sNoKindInit f fd) (ec : ErrC K C f bm) (nf : PySem.W.findIn K (.ref C) "found" = some none) (cf : ClsFn K CM fM) (OM : FnOk P w K mg base CX0 1 fM fdM ["self", "text"] (spMeet K)) (bM : Binds K fdM ["self", "text"] []) (mM : mg "MeetError" = some (.ref CM)) :
    FnOk P w K mg base CX0 2 f fd ["self", "found"] (spErr1 C "found") := by
  refine F.ok scNoKindI (fun vs H Q E h => ?_) (fun cdv A outer s H vs Q E hr h => ?_)
  · obtain ⟨e, v, rfl, _⟩ := h
    rfl
  obtain ⟨e, v, rfl, hH, q⟩ := h
  refine ⟨_, pss_cons (ps_expr (pe_initM cf OM hr bM pass0 rfl mM (pa_cons (pv 0) (pa_cons pe_str pa_nil)))) (pss_one (ps_setE (pv 0) (pv 1) rfl)), ?_⟩
  refine ⟨_, rfl, e, C, _, f, bm, rfl, ec, hH, ?_⟩
  exact ⟨_, rfl, _, rfl, e, C, f, bm, rfl, ec, nf, hH, fun dx hdx ne => q dx hdx ne⟩
theorem scNoneStandsI : FnScope ["self", "kind"] ["self", "kind"] (defScope sNoneStandsInit) := ⟨rfl, rfl, rfl, by decide +kernel, rfl, by decide +kernel, by decide +kernel⟩
theorem ok_NoneStandsI {f C CM fM : Addr} {bm : List Value} {fd fdM : FuncData} (F : Fun K "__init__" "NoneStands.__init__" sNoneStandsInit f fd) (ec : ErrC K C f bm) (nf : PySem.W.findIn K (.ref C) "kind" = some none) (cf : ClsFn K CM fM) (OM : FnOk P w K mg base CX0 1 fM fdM ["self", "text"] (spMeet K)) (bM : Binds K fdM ["self", "text"] []) (mM : mg "MeetError" = some (.ref CM)) :
    FnOk P w K mg base CX0 2 f fd ["self", "kind"] (spErr1 C "kind") := by
  refine F.ok scNoneStandsI (fun vs H Q E h => ?_) (fun cdv A outer s H vs Q E hr h => ?_)
  · obtain ⟨e, v, rfl, _⟩ := h
    rfl
  obtain ⟨e, v, rfl, hH, q⟩ := h
  refine ⟨_, pss_cons (ps_expr (pe_initM cf OM hr bM pass0 rfl mM (pa_cons (pv 0) (pa_cons pe_str pa_nil)))) (pss_one (ps_setE (pv 0) (pv 1) rfl)), ?_⟩
  refine ⟨_, rfl, e, C, _, f, bm, rfl, ec, hH, ?_⟩
  exact ⟨_, rfl, _, rfl, e, C, f, bm, rfl, ec, nf, hH, fun dx hdx ne => q dx hdx ne⟩
theorem scFallenI : FnScope ["self", "name"] ["self", "name"] (defScope sFallenInit) := ⟨rfl, rfl, rfl, by decide +kernel, rfl, by decide +kernel, by decide +kernel⟩
theorem ok_FallenI {f C CM fM : Addr} {bm : List Value} {fd fdM : FuncData} (F : Fun K "__init__" "Fallen.__init__" sFallenInit f fd) (ec : ErrC K C f bm) (nf : PySem.W.findIn K (.ref C) "name" = some none) (cf : ClsFn K CM fM) (OM : FnOk P w K mg base CX0 1 fM fdM ["self", "text"] (spMeet K)) (bM : Binds K fdM ["self", "text"] []) (mM : mg "MeetError" = some (.ref CM)) :
    FnOk P w K mg base CX0 2 f fd ["self", "name"] (spErr1 C "name") := by
  refine F.ok scFallenI (fun vs H Q E h => ?_) (fun cdv A outer s H vs Q E hr h => ?_)
  · obtain ⟨e, v, rfl, _⟩ := h
    rfl
  obtain ⟨e, v, rfl, hH, q⟩ := h
  refine ⟨_, pss_cons (ps_expr (pe_initM cf OM hr bM pass0 rfl mM (pa_cons (pv 0) (pa_cons pe_str pa_nil)))) (pss_one (ps_setE (pv 0) (pv 1) rfl)), ?_⟩
  refine ⟨_, rfl, e, C, _, f, bm, rfl, ec, hH, ?_⟩
  exact ⟨_, rfl, _, rfl, e, C, f, bm, rfl, ec, nf, hH, fun dx hdx ne => q dx hdx ne⟩
theorem scStandingI : FnScope ["self", "name"] ["self", "name"] (defScope sStandingInit) := ⟨rfl, rfl, rfl, by decide +kernel, rfl, by decide +kernel, by decide +kernel⟩
theorem ok_StandingI {f C CM fM : Addr} {bm : List Value} {fd fdM : FuncData} (F : Fun K "__init__" "Standing.__init__" sStandingInit f fd) (ec : ErrC K C f bm) (nf : PySem.W.findIn K (.ref C) "name" = some none) (cf : ClsFn K CM fM) (OM : FnOk P w K mg base CX0 1 fM fdM ["self", "text"] (spMeet K)) (bM : Binds K fdM ["self", "text"] []) (mM : mg "MeetError" = some (.ref CM)) :
    FnOk P w K mg base CX0 2 f fd ["self", "name"] (spErr1 C "name") := by
  refine F.ok scStandingI (fun vs H Q E h => ?_) (fun cdv A outer s H vs Q E hr h => ?_)
  · obtain ⟨e, v, rfl, _⟩ := h
    rfl
  obtain ⟨e, v, rfl, hH, q⟩ := h
  refine ⟨_, pss_cons (ps_expr (pe_initM cf OM hr bM pass0 rfl mM (pa_cons (pv 0) (pa_cons pe_str pa_nil)))) (pss_one (ps_setE (pv 0) (pv 1) rfl)), ?_⟩
  refine ⟨_, rfl, e, C, _, f, bm, rfl, ec, hH, ?_⟩
  exact ⟨_, rfl, _, rfl, e, C, f, bm, rfl, ec, nf, hH, fun dx hdx ne => q dx hdx ne⟩
theorem scNoValueI : FnScope ["self", "found"] ["self", "found"] (defScope sNoValueInit) := ⟨rfl, rfl, rfl, by decide +kernel, rfl, by decide +kernel, by decide +kernel⟩
theorem ok_NoValueI {f C CM fM : Addr} {bm : List Value} {fd fdM : FuncData} (F : Fun K "__init__" "NoValue.__init__" sNoValueInit f fd) (ec : ErrC K C f bm) (nf : PySem.W.findIn K (.ref C) "found" = some none) (cf : ClsFn K CM fM) (OM : FnOk P w K mg base CX0 1 fM fdM ["self", "text"] (spMeet K)) (bM : Binds K fdM ["self", "text"] []) (mM : mg "MeetError" = some (.ref CM)) :
    FnOk P w K mg base CX0 2 f fd ["self", "found"] (spErr1 C "found") := by
  refine F.ok scNoValueI (fun vs H Q E h => ?_) (fun cdv A outer s H vs Q E hr h => ?_)
  · obtain ⟨e, v, rfl, _⟩ := h
    rfl
  obtain ⟨e, v, rfl, hH, q⟩ := h
  refine ⟨_, pss_cons (ps_expr (pe_initM cf OM hr bM pass0 rfl mM (pa_cons (pv 0) (pa_cons pe_str pa_nil)))) (pss_one (ps_setE (pv 0) (pv 1) rfl)), ?_⟩
  refine ⟨_, rfl, e, C, _, f, bm, rfl, ec, hH, ?_⟩
  exact ⟨_, rfl, _, rfl, e, C, f, bm, rfl, ec, nf, hH, fun dx hdx ne => q dx hdx ne⟩
theorem scNoSystemI : FnScope ["self", "name"] ["self", "name"] (defScope sNoSystemInit) := ⟨rfl, rfl, rfl, by decide +kernel, rfl, by decide +kernel, by decide +kernel⟩
theorem ok_NoSystemI {f C CM fM : Addr} {bm : List Value} {fd fdM : FuncData} (F : Fun K "__init__" "NoSystem.__init__" sNoSystemInit f fd) (ec : ErrC K C f bm) (nf : PySem.W.findIn K (.ref C) "name" = some none) (cf : ClsFn K CM fM) (OM : FnOk P w K mg base CX0 1 fM fdM ["self", "text"] (spMeet K)) (bM : Binds K fdM ["self", "text"] []) (mM : mg "MeetError" = some (.ref CM)) :
    FnOk P w K mg base CX0 2 f fd ["self", "name"] (spErr1 C "name") := by
  refine F.ok scNoSystemI (fun vs H Q E h => ?_) (fun cdv A outer s H vs Q E hr h => ?_)
  · obtain ⟨e, v, rfl, _⟩ := h
    rfl
  obtain ⟨e, v, rfl, hH, q⟩ := h
  refine ⟨_, pss_cons (ps_expr (pe_initM cf OM hr bM pass0 rfl mM (pa_cons (pv 0) (pa_cons pe_str pa_nil)))) (pss_one (ps_setE (pv 0) (pv 1) rfl)), ?_⟩
  refine ⟨_, rfl, e, C, _, f, bm, rfl, ec, hH, ?_⟩
  exact ⟨_, rfl, _, rfl, e, C, f, bm, rfl, ec, nf, hH, fun dx hdx ne => q dx hdx ne⟩
theorem scNoLineI : FnScope ["self", "found"] ["self", "found"] (defScope sNoLineInit) := ⟨rfl, rfl, rfl, by decide +kernel, rfl, by decide +kernel, by decide +kernel⟩
theorem ok_NoLineI {f C CM fM : Addr} {bm : List Value} {fd fdM : FuncData} (F : Fun K "__init__" "NoLine.__init__" sNoLineInit f fd) (ec : ErrC K C f bm) (nf : PySem.W.findIn K (.ref C) "found" = some none) (cf : ClsFn K CM fM) (OM : FnOk P w K mg base CX0 1 fM fdM ["self", "text"] (spMeet K)) (bM : Binds K fdM ["self", "text"] []) (mM : mg "MeetError" = some (.ref CM)) :
    FnOk P w K mg base CX0 2 f fd ["self", "found"] (spErr1 C "found") := by
  refine F.ok scNoLineI (fun vs H Q E h => ?_) (fun cdv A outer s H vs Q E hr h => ?_)
  · obtain ⟨e, v, rfl, _⟩ := h
    rfl
  obtain ⟨e, v, rfl, hH, q⟩ := h
  refine ⟨_, pss_cons (ps_expr (pe_initM cf OM hr bM pass0 rfl mM (pa_cons (pv 0) (pa_cons pe_str pa_nil)))) (pss_one (ps_setE (pv 0) (pv 1) rfl)), ?_⟩
  refine ⟨_, rfl, e, C, _, f, bm, rfl, ec, hH, ?_⟩
  exact ⟨_, rfl, _, rfl, e, C, f, bm, rfl, ec, nf, hH, fun dx hdx ne => q dx hdx ne⟩
theorem scNoUndoI : FnScope ["self"] ["self"] (defScope sNoUndoInit) := ⟨rfl, rfl, rfl, by decide +kernel, rfl, by decide +kernel, by decide +kernel⟩
theorem ok_NoUndoI {f C CM fM : Addr} {bm : List Value} {fd fdM : FuncData} (F : Fun K "__init__" "NoUndo.__init__" sNoUndoInit f fd) (ec : ErrC K C f bm) (cf : ClsFn K CM fM) (OM : FnOk P w K mg base CX0 1 fM fdM ["self", "text"] (spMeet K)) (bM : Binds K fdM ["self", "text"] []) (mM : mg "MeetError" = some (.ref CM)) :
    FnOk P w K mg base CX0 2 f fd ["self"] (spErr0 C) := by
  refine F.ok scNoUndoI (fun vs H Q E h => ?_) (fun cdv A outer s H vs Q E hr h => ?_)
  · obtain ⟨e, rfl, _⟩ := h
    rfl
  obtain ⟨e, rfl, hH, q⟩ := h
  refine ⟨_, pss_one (ps_expr (pe_initM cf OM hr bM pass0 rfl mM (pa_cons (pv 0) (pa_cons pe_str pa_nil)))), ?_⟩
  exact ⟨_, rfl, e, C, _, f, bm, rfl, ec, hH, q⟩
theorem scApartI : FnScope ["self", "one", "other"] ["self", "one", "other"] (defScope sApartInit) := ⟨rfl, rfl, rfl, by decide +kernel, rfl, by decide +kernel, by decide +kernel⟩
theorem ok_ApartI {f C CM fM : Addr} {bm : List Value} {fd fdM : FuncData} (F : Fun K "__init__" "Apart.__init__" sApartInit f fd) (ec : ErrC K C f bm) (n1 : PySem.W.findIn K (.ref C) "one" = some none) (n2 : PySem.W.findIn K (.ref C) "other" = some none) (cf : ClsFn K CM fM) (OM : FnOk P w K mg base CX0 1 fM fdM ["self", "text"] (spMeet K)) (bM : Binds K fdM ["self", "text"] []) (mM : mg "MeetError" = some (.ref CM)) :
    FnOk P w K mg base CX0 2 f fd ["self", "one", "other"] (spErr2 C "one" "other") := by
  refine F.ok scApartI (fun vs H Q E h => ?_) (fun cdv A outer s H vs Q E hr h => ?_)
  · obtain ⟨e, v, u, rfl, _⟩ := h
    rfl
  obtain ⟨e, v, u, rfl, hH, q⟩ := h
  refine ⟨_, pss_cons (ps_expr (pe_initM cf OM hr bM pass0 rfl mM (pa_cons (pv 0) (pa_cons pe_str pa_nil)))) (pss_cons (ps_setX (pv 0) (pv 1) rfl) (pss_one (ps_setE2 (pv 0) (pv 2) rfl))), ?_⟩
  refine ⟨_, rfl, e, C, _, f, bm, rfl, ec, hH, ?_⟩
  refine ⟨_, rfl, _, rfl, e, C, f, bm, rfl, ec, n1, hH, fun dx hdx ne => ?_⟩
  exact ⟨_, rfl, _, rfl, e, C, f, bm, dx, _, rfl, ec, n2, by rw [upd_ne ne.symm, upd_same], upd_same, (by show 1 ≤ 100; decide), q dx hdx ne⟩
end
end S
set_option Elab.async false
set_option linter.all false
set_option maxRecDepth 100000
namespace S
open PySem L2
def fldOf (k : Nat) : Str := if k = 7 then "place" else if k = 14 then "kind" else if k = 15 ∨ k = 16 ∨ k = 19 then "name" else "found"
inductive MadeAt (H : Hp) (e C : Addr) (k : Nat) (x y : V) : Prop
  | one {dx : Addr} (n1 : k ≠ 10) (n2 : k ≠ 18) (h : H e = some (errO e C (some dx))) (d : H dx = some (.xd [(fldOf k, x)])) : MadeAt H e C k x y
  | two {dx : Addr} (n : k = 10) (h : H e = some (errO e C (some dx))) (d : H dx = some (xdE dx [("other", y), ("one", x)])) : MadeAt H e C k x y
  | none (n : k = 18) (h : H e = some (errO e C none)) : MadeAt H e C k x y
theorem MadeAt.same {H H' : Hp} {e C : Addr} {k : Nat} {x y : V} (m : MadeAt H e C k x y) (g : Same H H') : MadeAt H' e C k x y := by
  cases m with
  | one n1 n2 h d => exact .one n1 n2 (g _ _ h) (g _ _ d)
  | two n h d => exact .two n (g _ _ h) (g _ _ d)
  | none n h => exact .none n (g _ _ h)
structure EK (P : Program) (w : World) (K : PySem.W.Frag) (mg : Str → Option Value) (base : Heap) (x : Str) (ps : List Str) (sp : Sp) (C : Addr) : Prop where
  ex : ∃ f bm fd, ErrC K C f bm ∧ FnOk P w K mg base CX0 2 f fd ps sp ∧ Binds K fd ps []
  m : mg x = some (.ref C)
def spErrK (Cs : Nat → Addr) (lo hi : Nat) : Sp := fun vs H Q _ => ∃ (k : Nat) (x y : V), vs = [.int (k : Nat), x, y] ∧ lo ≤ k ∧ k ≤ hi ∧ ∀ e H', H e = none → Same H H' → MadeAt H' e (Cs k) k x y → Q (.ref e) H'
theorem same_err {H : Hp} {e dx C : Addr} {o : HO} (he : H e = none) (hd : upd H e (errO e C none) dx = none) (ne : dx ≠ e) : Same H (upd (upd (upd H e (errO e C none)) e (errO e C (some dx))) dx o) := fun c o' hc => by
  rw [upd_ne ne] at hd
  rw [upd_ne (ne_of_none hc hd), upd_ne (ne_of_none hc he), upd_ne (ne_of_none hc he)]
  exact hc
theorem kEq {k j : Nat} (c : decide (V.int (k : Nat) = V.int ((j : Nat) : Int)) = true) : k = j := by
  have := of_decide_eq_true c
  injection this with this
  omega
theorem kNe {k j : Nat} (c : ¬ decide (V.int (k : Nat) = V.int ((j : Nat) : Int)) = true) : k ≠ j := fun e => c (by rw [e]; exact decide_eq_true rfl)
section
variable {P : Program} {w : World} {K : PySem.W.Frag} {mg : Str → Option Value} {base : Heap} {Cs : Nat → Addr}
theorem scfirst : FnScope ["_law_k", "_law_thing", "_law_other"] ["_law_k", "_law_thing", "_law_other"] (defScope s_law_first_ones) := ⟨rfl, rfl, rfl, by decide +kernel, rfl, by decide +kernel, by decide +kernel⟩
set_option maxHeartbeats 2000000 in
theorem ok_first {f : Addr} {fd : FuncData} (F : Fun K "_law_first_ones" "_law_first_ones" s_law_first_ones f fd) (M0 : EK P w K mg base "NoHouses" ["self", "found"] (spErr1 (Cs 0) "found") (Cs 0)) (M1 : EK P w K mg base "NoHouse" ["self", "found"] (spErr1 (Cs 1) "found") (Cs 1)) (M2 : EK P w K mg base "NoSet" ["self", "found"] (spErr1 (Cs 2) "found") (Cs 2)) (M3 : EK P w K mg base "Twice" ["self", "found"] (spErr1 (Cs 3) "found") (Cs 3)) (M4 : EK P w K mg base "NoLots" ["self", "found"] (spErr1 (Cs 4) "found") (Cs 4)) (M5 : EK P w K mg base "TooMany" ["self", "found"] (spErr1 (Cs 5) "found") (Cs 5)) (M6 : EK P w K mg base "NoPlan" ["self", "found"] (spErr1 (Cs 6) "found") (Cs 6)) (M7 : EK P w K mg base "NoText" ["self", "place"] (spErr1 (Cs 7) "place") (Cs 7)) (M8 : EK P w K mg base "NoShare" ["self", "found"] (spErr1 (Cs 8) "found") (Cs 8)) (M9 : EK P w K mg base "NoNumber" ["self", "found"] (spErr1 (Cs 9) "found") (Cs 9)) (M10 : EK P w K mg base "Apart" ["self", "one", "other"] (spErr2 (Cs 10) "one" "other") (Cs 10)) :
    FnOk P w K mg base CX0 4 f fd ["_law_k", "_law_thing", "_law_other"] (spErrK Cs 0 10) := by
  obtain ⟨f0, bm0, fd0, ec0, O0, b0⟩ := M0.ex
  obtain ⟨f1, bm1, fd1, ec1, O1, b1⟩ := M1.ex
  obtain ⟨f2, bm2, fd2, ec2, O2, b2⟩ := M2.ex
  obtain ⟨f3, bm3, fd3, ec3, O3, b3⟩ := M3.ex
  obtain ⟨f4, bm4, fd4, ec4, O4, b4⟩ := M4.ex
  obtain ⟨f5, bm5, fd5, ec5, O5, b5⟩ := M5.ex
  obtain ⟨f6, bm6, fd6, ec6, O6, b6⟩ := M6.ex
  obtain ⟨f7, bm7, fd7, ec7, O7, b7⟩ := M7.ex
  obtain ⟨f8, bm8, fd8, ec8, O8, b8⟩ := M8.ex
  obtain ⟨f9, bm9, fd9, ec9, O9, b9⟩ := M9.ex
  obtain ⟨f10, bm10, fd10, ec10, O10, b10⟩ := M10.ex
  refine F.ok scfirst (fun vs H Q E h => ?_) (fun cdv A outer s H vs Q E hr h => ?_)
  · obtain ⟨k, x, y, rfl, _⟩ := h
    rfl
  obtain ⟨k, x, y, rfl, k0, k1, q⟩ := h
  refine ⟨_, pss_cons (ps_if (pt_cmpR op_eq (pv 0) pe_int (nomark _)) (pss_one (ps_ret (pe_mkErr ec0 O0 hr b0 rfl M0.m (pa_cons (pv 1) pa_nil)))) pss_nil)
    (pss_cons (ps_if (pt_cmpR op_eq (pv 0) pe_int (nomark _)) (pss_one (ps_ret (pe_mkErr ec1 O1 hr b1 rfl M1.m (pa_cons (pv 1) pa_nil)))) pss_nil)
    (pss_cons (ps_if (pt_cmpR op_eq (pv 0) pe_int (nomark _)) (pss_one (ps_ret (pe_mkErr ec2 O2 hr b2 rfl M2.m (pa_cons (pv 1) pa_nil)))) pss_nil)
    (pss_cons (ps_if (pt_cmpR op_eq (pv 0) pe_int (nomark _)) (pss_one (ps_ret (pe_mkErr ec3 O3 hr b3 rfl M3.m (pa_cons (pv 1) pa_nil)))) pss_nil)
    (pss_cons (ps_if (pt_cmpR op_eq (pv 0) pe_int (nomark _)) (pss_one (ps_ret (pe_mkErr ec4 O4 hr b4 rfl M4.m (pa_cons (pv 1) pa_nil)))) pss_nil)
    (pss_cons (ps_if (pt_cmpR op_eq (pv 0) pe_int (nomark _)) (pss_one (ps_ret (pe_mkErr ec5 O5 hr b5 rfl M5.m (pa_cons (pv 1) pa_nil)))) pss_nil)
    (pss_cons (ps_if (pt_cmpR op_eq (pv 0) pe_int (nomark _)) (pss_one (ps_ret (pe_mkErr ec6 O6 hr b6 rfl M6.m (pa_cons (pv 1) pa_nil)))) pss_nil)
    (pss_cons (ps_if (pt_cmpR op_eq (pv 0) pe_int (nomark _)) (pss_one (ps_ret (pe_mkErr ec7 O7 hr b7 rfl M7.m (pa_cons (pv 1) pa_nil)))) pss_nil)
    (pss_cons (ps_if (pt_cmpR op_eq (pv 0) pe_int (nomark _)) (pss_one (ps_ret (pe_mkErr ec8 O8 hr b8 rfl M8.m (pa_cons (pv 1) pa_nil)))) pss_nil)
    (pss_cons (ps_if (pt_cmpR op_eq (pv 0) pe_int (nomark _)) (pss_one (ps_ret (pe_mkErr ec9 O9 hr b9 rfl M9.m (pa_cons (pv 1) pa_nil)))) pss_nil)
    (pss_one (ps_ret (pe_mkErr ec10 O10 hr b10 rfl M10.m (pa_cons (pv 1) (pa_cons (pv 2) pa_nil)))))))))))))), ?_⟩
  have s1 : (1 : Nat) ≤ sizeLine := by decide
  have s2 : (2 : Nat) ≤ sizeLine := by decide
  refine ⟨_, rfl, rfl, _, rfl, ?_⟩
  refine ite2 (fun c => ?_) (fun c => ?_)
  · obtain rfl : k = 0 := kEq (j := 0) c
    exact ⟨_, rfl, s1, fun e he => ⟨e, x, rfl, upd_same, fun dx hdx ne => ⟨rfl, q e _ he (same_err he hdx ne) (.one (dx := dx) (by decide) (by decide) (by rw [upd_ne ne.symm, upd_same]) upd_same)⟩⟩⟩
  have n0 : k ≠ 0 := kNe (j := 0) c
  refine ⟨_, rfl, rfl, _, rfl, ?_⟩
  refine ite2 (fun c => ?_) (fun c => ?_)
  · obtain rfl : k = 1 := kEq (j := 1) c
    exact ⟨_, rfl, s1, fun e he => ⟨e, x, rfl, upd_same, fun dx hdx ne => ⟨rfl, q e _ he (same_err he hdx ne) (.one (dx := dx) (by decide) (by decide) (by rw [upd_ne ne.symm, upd_same]) upd_same)⟩⟩⟩
  have n1 : k ≠ 1 := kNe (j := 1) c
  refine ⟨_, rfl, rfl, _, rfl, ?_⟩
  refine ite2 (fun c => ?_) (fun c => ?_)
  · obtain rfl : k = 2 := kEq (j := 2) c
    exact ⟨_, rfl, s1, fun e he => ⟨e, x, rfl, upd_same, fun dx hdx ne => ⟨rfl, q e _ he (same_err he hdx ne) (.one (dx := dx) (by decide) (by decide) (by rw [upd_ne ne.symm, upd_same]) upd_same)⟩⟩⟩
  have n2 : k ≠ 2 := kNe (j := 2) c
  refine ⟨_, rfl, rfl, _, rfl, ?_⟩
  refine ite2 (fun c => ?_) (fun c => ?_)
  · obtain rfl : k = 3 := kEq (j := 3) c
    exact ⟨_, rfl, s1, fun e he => ⟨e, x, rfl, upd_same, fun dx hdx ne => ⟨rfl, q e _ he (same_err he hdx ne) (.one (dx := dx) (by decide) (by decide) (by rw [upd_ne ne.symm, upd_same]) upd_same)⟩⟩⟩
  have n3 : k ≠ 3 := kNe (j := 3) c
  refine ⟨_, rfl, rfl, _, rfl, ?_⟩
  refine ite2 (fun c => ?_) (fun c => ?_)
  · obtain rfl : k = 4 := kEq (j := 4) c
    exact ⟨_, rfl, s1, fun e he => ⟨e, x, rfl, upd_same, fun dx hdx ne => ⟨rfl, q e _ he (same_err he hdx ne) (.one (dx := dx) (by decide) (by decide) (by rw [upd_ne ne.symm, upd_same]) upd_same)⟩⟩⟩
  have n4 : k ≠ 4 := kNe (j := 4) c
  refine ⟨_, rfl, rfl, _, rfl, ?_⟩
  refine ite2 (fun c => ?_) (fun c => ?_)
  · obtain rfl : k = 5 := kEq (j := 5) c
    exact ⟨_, rfl, s1, fun e he => ⟨e, x, rfl, upd_same, fun dx hdx ne => ⟨rfl, q e _ he (same_err he hdx ne) (.one (dx := dx) (by decide) (by decide) (by rw [upd_ne ne.symm, upd_same]) upd_same)⟩⟩⟩
  have n5 : k ≠ 5 := kNe (j := 5) c
  refine ⟨_, rfl, rfl, _, rfl, ?_⟩
  refine ite2 (fun c => ?_) (fun c => ?_)
  · obtain rfl : k = 6 := kEq (j := 6) c
    exact ⟨_, rfl, s1, fun e he => ⟨e, x, rfl, upd_same, fun dx hdx ne => ⟨rfl, q e _ he (same_err he hdx ne) (.one (dx := dx) (by decide) (by decide) (by rw [upd_ne ne.symm, upd_same]) upd_same)⟩⟩⟩
  have n6 : k ≠ 6 := kNe (j := 6) c
  refine ⟨_, rfl, rfl, _, rfl, ?_⟩
  refine ite2 (fun c => ?_) (fun c => ?_)
  · obtain rfl : k = 7 := kEq (j := 7) c
    exact ⟨_, rfl, s1, fun e he => ⟨e, x, rfl, upd_same, fun dx hdx ne => ⟨rfl, q e _ he (same_err he hdx ne) (.one (dx := dx) (by decide) (by decide) (by rw [upd_ne ne.symm, upd_same]) upd_same)⟩⟩⟩
  have n7 : k ≠ 7 := kNe (j := 7) c
  refine ⟨_, rfl, rfl, _, rfl, ?_⟩
  refine ite2 (fun c => ?_) (fun c => ?_)
  · obtain rfl : k = 8 := kEq (j := 8) c
    exact ⟨_, rfl, s1, fun e he => ⟨e, x, rfl, upd_same, fun dx hdx ne => ⟨rfl, q e _ he (same_err he hdx ne) (.one (dx := dx) (by decide) (by decide) (by rw [upd_ne ne.symm, upd_same]) upd_same)⟩⟩⟩
  have n8 : k ≠ 8 := kNe (j := 8) c
  refine ⟨_, rfl, rfl, _, rfl, ?_⟩
  refine ite2 (fun c => ?_) (fun c => ?_)
  · obtain rfl : k = 9 := kEq (j := 9) c
    exact ⟨_, rfl, s1, fun e he => ⟨e, x, rfl, upd_same, fun dx hdx ne => ⟨rfl, q e _ he (same_err he hdx ne) (.one (dx := dx) (by decide) (by decide) (by rw [upd_ne ne.symm, upd_same]) upd_same)⟩⟩⟩
  have n9 : k ≠ 9 := kNe (j := 9) c
  obtain rfl : k = 10 := by omega
  exact ⟨_, rfl, _, rfl, s2, fun e he => ⟨e, x, y, rfl, upd_same, fun dx hdx ne => ⟨rfl, by
    rw [upd_upd]
    exact q e _ he (same_err he hdx ne) (.two (dx := dx) rfl (by rw [upd_ne ne.symm, upd_same]) upd_same)⟩⟩⟩
theorem scother : FnScope ["_law_k", "_law_thing", "_law_other"] ["_law_k", "_law_thing", "_law_other"] (defScope s_law_other_ones) := ⟨rfl, rfl, rfl, by decide +kernel, rfl, by decide +kernel, by decide +kernel⟩
set_option maxHeartbeats 2000000 in
theorem ok_other {f : Addr} {fd : FuncData} (F : Fun K "_law_other_ones" "_law_other_ones" s_law_other_ones f fd) (M11 : EK P w K mg base "NoChance" ["self", "found"] (spErr1 (Cs 11) "found") (Cs 11)) (M12 : EK P w K mg base "NoDealing" ["self", "found"] (spErr1 (Cs 12) "found") (Cs 12)) (M13 : EK P w K mg base "NoKind" ["self", "found"] (spErr1 (Cs 13) "found") (Cs 13)) (M14 : EK P w K mg base "NoneStands" ["self", "kind"] (spErr1 (Cs 14) "kind") (Cs 14)) (M15 : EK P w K mg base "Fallen" ["self", "name"] (spErr1 (Cs 15) "name") (Cs 15)) (M16 : EK P w K mg base "Standing" ["self", "name"] (spErr1 (Cs 16) "name") (Cs 16)) (M17 : EK P w K mg base "NoValue" ["self", "found"] (spErr1 (Cs 17) "found") (Cs 17)) (M18 : EK P w K mg base "NoUndo" ["self"] (spErr0 (Cs 18)) (Cs 18)) (M19 : EK P w K mg base "NoSystem" ["self", "name"] (spErr1 (Cs 19) "name") (Cs 19)) (M20 : EK P w K mg base "NoLine" ["self", "found"] (spErr1 (Cs 20) "found") (Cs 20)) :
    FnOk P w K mg base CX0 4 f fd ["_law_k", "_law_thing", "_law_other"] (spErrK Cs 11 20) := by
  obtain ⟨f11, bm11, fd11, ec11, O11, b11⟩ := M11.ex
  obtain ⟨f12, bm12, fd12, ec12, O12, b12⟩ := M12.ex
  obtain ⟨f13, bm13, fd13, ec13, O13, b13⟩ := M13.ex
  obtain ⟨f14, bm14, fd14, ec14, O14, b14⟩ := M14.ex
  obtain ⟨f15, bm15, fd15, ec15, O15, b15⟩ := M15.ex
  obtain ⟨f16, bm16, fd16, ec16, O16, b16⟩ := M16.ex
  obtain ⟨f17, bm17, fd17, ec17, O17, b17⟩ := M17.ex
  obtain ⟨f18, bm18, fd18, ec18, O18, b18⟩ := M18.ex
  obtain ⟨f19, bm19, fd19, ec19, O19, b19⟩ := M19.ex
  obtain ⟨f20, bm20, fd20, ec20, O20, b20⟩ := M20.ex
  refine F.ok scother (fun vs H Q E h => ?_) (fun cdv A outer s H vs Q E hr h => ?_)
  · obtain ⟨k, x, y, rfl, _⟩ := h
    rfl
  obtain ⟨k, x, y, rfl, k0, k1, q⟩ := h
  refine ⟨_, pss_cons (ps_if (pt_cmpR op_eq (pv 0) pe_int (nomark _)) (pss_one (ps_ret (pe_mkErr ec11 O11 hr b11 rfl M11.m (pa_cons (pv 1) pa_nil)))) pss_nil)
    (pss_cons (ps_if (pt_cmpR op_eq (pv 0) pe_int (nomark _)) (pss_one (ps_ret (pe_mkErr ec12 O12 hr b12 rfl M12.m (pa_cons (pv 1) pa_nil)))) pss_nil)
    (pss_cons (ps_if (pt_cmpR op_eq (pv 0) pe_int (nomark _)) (pss_one (ps_ret (pe_mkErr ec13 O13 hr b13 rfl M13.m (pa_cons (pv 1) pa_nil)))) pss_nil)
    (pss_cons (ps_if (pt_cmpR op_eq (pv 0) pe_int (nomark _)) (pss_one (ps_ret (pe_mkErr ec14 O14 hr b14 rfl M14.m (pa_cons (pv 1) pa_nil)))) pss_nil)
    (pss_cons (ps_if (pt_cmpR op_eq (pv 0) pe_int (nomark _)) (pss_one (ps_ret (pe_mkErr ec15 O15 hr b15 rfl M15.m (pa_cons (pv 1) pa_nil)))) pss_nil)
    (pss_cons (ps_if (pt_cmpR op_eq (pv 0) pe_int (nomark _)) (pss_one (ps_ret (pe_mkErr ec16 O16 hr b16 rfl M16.m (pa_cons (pv 1) pa_nil)))) pss_nil)
    (pss_cons (ps_if (pt_cmpR op_eq (pv 0) pe_int (nomark _)) (pss_one (ps_ret (pe_mkErr ec17 O17 hr b17 rfl M17.m (pa_cons (pv 1) pa_nil)))) pss_nil)
    (pss_cons (ps_if (pt_cmpR op_eq (pv 0) pe_int (nomark _)) (pss_one (ps_ret (pe_mkErr0 ec18 O18 hr b18 rfl M18.m))) pss_nil)
    (pss_cons (ps_if (pt_cmpR op_eq (pv 0) pe_int (nomark _)) (pss_one (ps_ret (pe_mkErr ec19 O19 hr b19 rfl M19.m (pa_cons (pv 1) pa_nil)))) pss_nil)
    (pss_one (ps_ret (pe_mkErr ec20 O20 hr b20 rfl M20.m (pa_cons (pv 1) pa_nil)))))))))))), ?_⟩
  have s1 : (1 : Nat) ≤ sizeLine := by decide
  have s2 : (2 : Nat) ≤ sizeLine := by decide
  refine ⟨_, rfl, rfl, _, rfl, ?_⟩
  refine ite2 (fun c => ?_) (fun c => ?_)
  · obtain rfl : k = 11 := kEq (j := 11) c
    exact ⟨_, rfl, s1, fun e he => ⟨e, x, rfl, upd_same, fun dx hdx ne => ⟨rfl, q e _ he (same_err he hdx ne) (.one (dx := dx) (by decide) (by decide) (by rw [upd_ne ne.symm, upd_same]) upd_same)⟩⟩⟩
  have n11 : k ≠ 11 := kNe (j := 11) c
  refine ⟨_, rfl, rfl, _, rfl, ?_⟩
  refine ite2 (fun c => ?_) (fun c => ?_)
  · obtain rfl : k = 12 := kEq (j := 12) c
    exact ⟨_, rfl, s1, fun e he => ⟨e, x, rfl, upd_same, fun dx hdx ne => ⟨rfl, q e _ he (same_err he hdx ne) (.one (dx := dx) (by decide) (by decide) (by rw [upd_ne ne.symm, upd_same]) upd_same)⟩⟩⟩
  have n12 : k ≠ 12 := kNe (j := 12) c
  refine ⟨_, rfl, rfl, _, rfl, ?_⟩
  refine ite2 (fun c => ?_) (fun c => ?_)
  · obtain rfl : k = 13 := kEq (j := 13) c
    exact ⟨_, rfl, s1, fun e he => ⟨e, x, rfl, upd_same, fun dx hdx ne => ⟨rfl, q e _ he (same_err he hdx ne) (.one (dx := dx) (by decide) (by decide) (by rw [upd_ne ne.symm, upd_same]) upd_same)⟩⟩⟩
  have n13 : k ≠ 13 := kNe (j := 13) c
  refine ⟨_, rfl, rfl, _, rfl, ?_⟩
  refine ite2 (fun c => ?_) (fun c => ?_)
  · obtain rfl : k = 14 := kEq (j := 14) c
    exact ⟨_, rfl, s1, fun e he => ⟨e, x, rfl, upd_same, fun dx hdx ne => ⟨rfl, q e _ he (same_err he hdx ne) (.one (dx := dx) (by decide) (by decide) (by rw [upd_ne ne.symm, upd_same]) upd_same)⟩⟩⟩
  have n14 : k ≠ 14 := kNe (j := 14) c
  refine ⟨_, rfl, rfl, _, rfl, ?_⟩
  refine ite2 (fun c => ?_) (fun c => ?_)
  · obtain rfl : k = 15 := kEq (j := 15) c
    exact ⟨_, rfl, s1, fun e he => ⟨e, x, rfl, upd_same, fun dx hdx ne => ⟨rfl, q e _ he (same_err he hdx ne) (.one (dx := dx) (by decide) (by decide) (by rw [upd_ne ne.symm, upd_same]) upd_same)⟩⟩⟩
  have n15 : k ≠ 15 := kNe (j := 15) c
  refine ⟨_, rfl, rfl, _, rfl, ?_⟩
  refine ite2 (fun c => ?_) (fun c => ?_)
  · obtain rfl : k = 16 := kEq (j := 16) c
    exact ⟨_, rfl, s1, fun e he => ⟨e, x, rfl, upd_same, fun dx hdx ne => ⟨rfl, q e _ he (same_err he hdx ne) (.one (dx := dx) (by decide) (by decide) (by rw [upd_ne ne.symm, upd_same]) upd_same)⟩⟩⟩
  have n16 : k ≠ 16 := kNe (j := 16) c
  refine ⟨_, rfl, rfl, _, rfl, ?_⟩
  refine ite2 (fun c => ?_) (fun c => ?_)
  · obtain rfl : k = 17 := kEq (j := 17) c
    exact ⟨_, rfl, s1, fun e he => ⟨e, x, rfl, upd_same, fun dx hdx ne => ⟨rfl, q e _ he (same_err he hdx ne) (.one (dx := dx) (by decide) (by decide) (by rw [upd_ne ne.symm, upd_same]) upd_same)⟩⟩⟩
  have n17 : k ≠ 17 := kNe (j := 17) c
  refine ⟨_, rfl, rfl, _, rfl, ?_⟩
  refine ite2 (fun c => ?_) (fun c => ?_)
  · obtain rfl : k = 18 := kEq (j := 18) c
    exact ⟨(by show 0 ≤ sizeLine; decide), fun e he => ⟨e, rfl, upd_same, rfl, q e _ he (fun c o hc => by rw [upd_ne (ne_of_none hc he)]; exact hc) (.none rfl upd_same)⟩⟩
  have n18 : k ≠ 18 := kNe (j := 18) c
  refine ⟨_, rfl, rfl, _, rfl, ?_⟩
  refine ite2 (fun c => ?_) (fun c => ?_)
  · obtain rfl : k = 19 := kEq (j := 19) c
    exact ⟨_, rfl, s1, fun e he => ⟨e, x, rfl, upd_same, fun dx hdx ne => ⟨rfl, q e _ he (same_err he hdx ne) (.one (dx := dx) (by decide) (by decide) (by rw [upd_ne ne.symm, upd_same]) upd_same)⟩⟩⟩
  have n19 : k ≠ 19 := kNe (j := 19) c
  obtain rfl : k = 20 := by omega
  exact ⟨_, rfl, s1, fun e he => ⟨e, x, rfl, upd_same, fun dx hdx ne => ⟨rfl, q e _ he (same_err he hdx ne) (.one (dx := dx) (by decide) (by decide) (by rw [upd_ne ne.symm, upd_same]) upd_same)⟩⟩⟩
theorem scErr : FnScope ["_law_k", "_law_thing", "_law_other"] ["_law_k", "_law_thing", "_law_other"] (defScope s_law_error) := ⟨rfl, rfl, rfl, by decide +kernel, rfl, by decide +kernel, by decide +kernel⟩
theorem ok_error {f a1 a2 : Addr} {fd d1 d2 : FuncData} (F : Fun K "_law_error" "_law_error" s_law_error f fd) (O1 : FnOk P w K mg base CX0 4 a1 d1 ["_law_k", "_law_thing", "_law_other"] (spErrK Cs 0 10)) (b1 : Binds K d1 ["_law_k", "_law_thing", "_law_other"] []) (k1 : PySem.W.keepIn K (.ref a1) = true) (m1 : mg "_law_first_ones" = some (.ref a1))
    (O2 : FnOk P w K mg base CX0 4 a2 d2 ["_law_k", "_law_thing", "_law_other"] (spErrK Cs 11 20)) (b2 : Binds K d2 ["_law_k", "_law_thing", "_law_other"] []) (k2 : PySem.W.keepIn K (.ref a2) = true) (m2 : mg "_law_other_ones" = some (.ref a2)) :
    FnOk P w K mg base CX0 5 f fd ["_law_k", "_law_thing", "_law_other"] (spErrK Cs 0 20) := by
  refine F.ok scErr (fun vs H Q E h => ?_) (fun cdv A outer s H vs Q E hr h => ?_)
  · obtain ⟨k, x, y, rfl, _⟩ := h
    rfl
  obtain ⟨k, x, y, rfl, k0, kk, q⟩ := h
  refine ⟨_, pss_cons (ps_if (pt_cmpR op_lt (pv 0) pe_int (nomark _)) (pss_one (ps_ret (pe_call O1 hr rfl m1 k1 b1 .nil pass0 (pa_cons (pv 0) (pa_cons (pv 1) (pa_cons (pv 2) pa_nil)))))) pss_nil)
    (pss_one (ps_ret (pe_call O2 hr rfl m2 k2 b2 .nil pass0 (pa_cons (pv 0) (pa_cons (pv 1) (pa_cons (pv 2) pa_nil)))))), ?_⟩
  refine ⟨_, rfl, _, _, rfl, rfl, _, rfl, ?_⟩
  refine ite2 (fun c => ?_) (fun c => ?_)
  · have c' := of_decide_eq_true c
    exact ⟨_, rfl, _, rfl, _, rfl, k, x, y, rfl, by omega, by omega, q⟩
  · have c' : ¬ ((k : Int) < 11) := fun z => c (decide_eq_true z)
    exact ⟨_, rfl, _, rfl, _, rfl, k, x, y, rfl, by omega, by omega, q⟩
end
end S
set_option Elab.async false
set_option linter.all false
set_option maxRecDepth 100000
namespace S
open PySem L2
theorem err_cls {K : PySem.W.Frag} {C f : Addr} {bm : List Value} (ec : ErrC K C f bm) : ∃ cd, PySem.W.clsIn K C = some cd ∧ PySem.W.typeIn K (.ref C) = some (.type "type") ∧ ∀ v, PySem.W.mroIn K C v = some ((Value.ref C :: bm).contains v) := by
  obtain ⟨nm, q0, N, bs, sn, sub, ab, col, dd, k0, k1, k2, k3, k5, lk⟩ := ec.obj
  refine ⟨_, by unfold PySem.W.clsIn; rw [lk], by unfold PySem.W.typeIn; dsimp only; rw [lk]; rfl, fun v => ?_⟩
  unfold PySem.W.mroIn PySem.W.clsIn
  rw [lk]
  rfl
theorem kit_err {K : PySem.W.Frag} {C f D fD : Addr} {bm bmD : List Value} (ec : ErrC K C f bm) (ed : ErrC K D fD bmD) : PySem.W.kitOne K (.ref C) (.ref D) = some ((Value.ref C :: bm).contains (.ref D)) := by
  obtain ⟨cd, h1, h2, h3⟩ := err_cls ed
  obtain ⟨cc, k1, k2, k3⟩ := err_cls ec
  unfold PySem.W.kitOne
  split
  · rename_i e
    have e := beq_iff_eq.mp e
    rw [← e, List.contains_cons, beq_self_eq_true, Bool.true_or]
  · unfold PySem.W.kitCls
    dsimp only
    rw [h1, h2, if_pos (by simp)]
    exact k3 _
end S
set_option Elab.async false
set_option linter.all false
set_option maxRecDepth 100000
namespace L2
open PySem PySem.Spec PyProof.Rows
def litV : Expr → Option V
  | .Constant (.int i) _ _ => some (.int i)
  | .Constant (.str x) _ _ => some (.str x)
  | .Constant (.bool b) _ _ => some (.bl b)
  | .Constant .none _ _ => some .non
  | _ => none
def tPre (cs : List V) (t : TA) : TA := fun σ H Q => t σ H fun vs H1 => Q (cs ++ vs) H1
theorem pa_litc {X : Cx} {e : Expr} {es : List Expr} {c : V} {cs : List V} {t : TA} (h : litV e = some c) (hr : PA X es (tPre cs t)) : PA X (e :: es) (tPre (c :: cs) t) := by
  have main : ∀ {te : TE}, PE X e te → (∀ σ H Q, te σ H Q = Q c H) → starEach (e :: es) X.env = (false, eval e X.env) :: starEach es X.env → PA X (e :: es) (tPre (c :: cs) t) := fun {te} he hte hs => by
    have q := pa_cons he hr hs
    intro pos pins s σ H Q I hw
    refine q pos pins s σ H Q I ?_
    show te σ H _
    rw [hte]
    exact hw
  unfold litV at h
  split at h
  · cases h; exact main pe_int (fun _ _ _ => rfl) rfl
  · cases h; exact main pe_str (fun _ _ _ => rfl) rfl
  · cases h; exact main pe_bl (fun _ _ _ => rfl) rfl
  · cases h; exact main pe_non (fun _ _ _ => rfl) rfl
  · cases h
theorem pa_pre' {X : Cx} {t : TA} : ∀ (n : Nat) {es : List Expr} {cs : List V}, (es.take n).map litV = cs.map some → PA X (es.drop n) t → PA X es (tPre cs t)
  | 0, es, cs, h, hr => by
    cases cs with
    | nil => exact hr
    | cons _ _ => simp at h
  | n + 1, [], cs, h, hr => by
    cases cs with
    | nil => exact hr
    | cons _ _ => simp at h
  | n + 1, e :: es, cs, h, hr => by
    cases cs with
    | nil => simp at h
    | cons c cs =>
      simp only [List.take_succ_cons, List.map_cons, List.cons.injEq] at h
      exact pa_litc h.1 (pa_pre' n h.2 hr)
theorem pa_pre {X : Cx} {t : TA} (n : Nat) (cs : List V) {es : List Expr} (hr : PA X (es.drop n) t) (h : (es.take n).map litV = cs.map some := by rfl) : PA X es (tPre cs t) := pa_pre' n h hr
def tLits (cs : List V) : TA := fun _ H Q => Q cs H
theorem pa_lits {X : Cx} (cs : List V) {es : List Expr} (h : es.map litV = cs.map some := by rfl) : PA X es (tLits cs) := by
  have q : PA X es (tPre cs tNil) := pa_pre' es.length (by rw [List.take_of_length_le (Nat.le_refl _)]; exact h) (by rw [List.drop_of_length_le (Nat.le_refl _)]; exact pa_nil)
  intro pos pins s σ H Q I hw
  refine q pos pins s σ H Q I ?_
  show Q (cs ++ []) H
  rw [List.append_nil]
  exact hw
structure PEH (X : Cx) (e : Expr) (t : TE) : Prop where
  out : PE X e t
structure PAH (X : Cx) (es : List Expr) (t : TA) : Prop where
  out : PA X es t
structure PSH (X : Cx) (st : List Stmt) (t : TS) : Prop where
  out : PSs X st t
section
variable {X : Cx}
theorem peH_int {i j pos} : PEH X (.Constant (.int i) j pos) (tC (.int i)) := PEH.mk pe_int
theorem paH_nil : PAH X [] tNil := PAH.mk pa_nil
theorem paH_cons {e : Expr} {es : List Expr} {te : TE} {t : TA} (ha : PEH X e te) (hr : PAH X es t) (hs : starEach (e :: es) X.env = (false, eval e X.env) :: starEach es X.env := by rfl) : PAH X (e :: es) (tCons te t) := PAH.mk (pa_cons ha.out hr.out hs)
theorem peH_lst {es : List Expr} {t : TA} {pos} (h : PAH X es t) : PEH X (.List es pos) (tLst t) := PEH.mk (pe_lst h.out)
theorem peH_tup {es : List Expr} {t : TA} {x1 pos} (h : PAH X es t) : PEH X (.Tuple es x1 pos) (tTup t) := PEH.mk (pe_tup h.out)
theorem peH_dnewK {pos} : PEH X (.Dict [] [] pos) tDNewK := PEH.mk pe_dnewK
end
theorem paH_pre {X : Cx} {t : TA} (n : Nat) (cs : List V) {es : List Expr} (hr : PAH X (es.drop n) t) (h : (es.take n).map litV = cs.map some := by rfl) : PAH X es (tPre cs t) := PAH.mk (pa_pre n cs hr.out h)
theorem paH_lits {X : Cx} (cs : List V) {es : List Expr} (h : es.map litV = cs.map some := by rfl) : PAH X es (tLits cs) := PAH.mk (pa_lits cs h)
theorem Fun.okH {P : Program} {w : World} {K : PySem.W.Frag} {mg : Str → Option Value} {base : Heap} {x qual : Str} {st : Stmt} {f : Addr} {fd : FuncData} {N ps : List Str} {k : Nat} {sp : Sp} (F : Fun K x qual st f fd) (S : FnScope N ps (defScope st)) (len : ∀ vs H Q E, sp vs H Q E → vs.length = ps.length)
    (hbody : ∀ (cdv : Value) (A : Around) (outer : List Env) (s : Shared) (H : Hp) (vs : List V) (Q : VK) (E : XK), Room k (A.deeper (envOfC qual (defScope st) s.heap.objs.size f cdv)) → sp vs H Q E →
      ∃ t, PSH (cxOf CX0 P w K mg base N qual (defScope st) f cdv A outer s H E).nox (defBody st) t ∧ t { nx := fun _ H' => Q .non H', rt := Q } (start N vs) H) : FnOk P w K mg base CX0 (k + 1) f fd ps sp :=
  F.ok S len fun cdv A outer s H vs Q E hr h => let ⟨t, a, b⟩ := hbody cdv A outer s H vs Q E hr h; ⟨t, a.out, b⟩
end L2
namespace L2
open PySem PySem.Spec PyProof.Rows
theorem psH_setL {X : Cx} {sts rest : List Stmt} {es : List Expr} {x : Str} {p p1 p2 : Pos} {i : Nat} {t : TA} {t2 : TS} (h : sts = .Assign [.Name x p] (.List es p1) p2 :: rest) (nd : X.N.Nodup) (hi : X.N[i]? = some x) (hx : X.env.scope.names.lookup x = some .local ∨ X.env.scope.names.lookup x = some .cell) (ha : PAH X es t) (hr : PSs X rest t2)
    (hf : X.fn x = true ∨ X.env.scope.names.lookup x = some .local := by first | exact .inl rfl | exact .inr rfl | assumption) : PSH X sts (tSeq (tAsg (tLst t) (gName i)) t2) := by
  rw [h]
  exact PSH.mk (pss_cons (ps_set (i := i) nd hi hx (pe_lst ha.out)) hr)
end L2
namespace L2
open PySem PySem.Spec PyProof.Rows
structure PS1 (X : Cx) (st : Stmt) (t : TS) : Prop where
  out : PS X st t
structure PIH (X : Cx) (tg e : Expr) (t : TI) : Prop where
  out : PI X tg e t
section
variable {X : Cx}
theorem psH_cons {st : Stmt} {rest : List Stmt} {t u : TS} (h1 : PS1 X st t) (h2 : PSH X rest u) : PSH X (st :: rest) (tSeq t u) := PSH.mk (pss_cons h1.out h2.out)
end
end L2
set_option Elab.async false
set_option linter.all false
set_option maxRecDepth 100000
namespace L2
open PySem PySem.Spec PyProof.Rows
section
variable {X : Cx} {scope : Scope} {xs : List Str} {fv : List (Str × Nat)} {elt tg iter : Expr} {ifs : List Expr} {pos spos py : Pos} {tt : TT} {te : TE} {g : TG} {y : Str} {i : Nat}
theorem ps_setCT {wi : TI} (hN : X.N.Nodup) (hi' : X.N[i]? = some y) (hy : X.env.scope.names.lookup y = some .local) (hc : X.calm = true) (hs : compOkT scope xs fv = true) (hv : FvOk X scope fv) (hi : PI X tg iter wi) (hg : ∀ C s₀ H₀ ex pn, PG (cxT X scope xs fv C s₀ H₀ ex pn) tg g)
    (ht : ∀ C s₀ H₀ ex pn, PTl (cxT X scope xs fv C s₀ H₀ ex pn) ifs tt) (he : ∀ C s₀ H₀ ex pn, PE (cxT X scope xs fv C s₀ H₀ ex pn) elt te)
    (hsw : swapsWith (.ListComp elt [⟨tg, iter, ifs, 0⟩] scope pos) (some (.Name y py)) spos.line X.env = pure true := by rfl) (hf : ∀ x, foldedSetIterable iter X.env x = pure x := by intro _; rfl) :
    PS X (.Assign [.Name y py] (.ListComp elt [⟨tg, iter, ifs, 0⟩] scope pos) spos) (tAsg (tCompT (.lst []) wi xs fv g tt (tbL te)) (gName i)) := by
  intro pins s σ H D I h
  have S := compOkT_of hs
  rw [exec_Assign_Name_used _ _ _ _ hsw]; refine wpAny_bind (wpAny_standAt (wpAny_bind ?_))
  show wpAny _ X.A (do let _ ← comprehension (.ListComp elt [⟨tg, iter, ifs, 0⟩] scope pos) scope X.env _ (newList []) false (eval iter X.env) (some (assign (.Name y py) X.env))) _ _ s
  refine wpAny_bind (wpAny_mono (wpAny_comprehension_free (use := some (assign (.Name y py) X.env)) (Q := fun _ s' => SP X pins D .next s') rfl hf (hclT I S hv) S.kind S.names (thn (hi pins s σ H _ I h) fun v s1 h1 => thn h1 fun itv s2 h2 => ?_)) (fun _ s' h' => wpAny_pure (wpAny_pure h')) fun _ _ z => z)
  obtain ⟨it, fp, tn, J, H2, e, I2, T, st2, f2, hw⟩ := h2
  subst e
  refine comp_blockT (e := .ListComp elt [⟨tg, iter, ifs, 0⟩] scope pos) (iter := iter) (RR := fun acc C => compPost (model X.prog X.w) X.A X.xe (some (assign (.Name y py) X.env)) (fun _ s' => SP X pins D .next s') acc C) hc S hv ht hg (fun C s₀ H₀ ex pn => pb_list (he C s₀ H₀ ex pn)) new_list (fun _ _ _ => rfl) (fun _ _ _ => rfl) (fun it D env => compTurn_list ..) (fun _ _ _ _ _ a b => codeAny_compStart_list a b) I2 T st2 f2 hw ?_
  intro L C s' H' m I' q hn fC
  show wpAny _ X.A (assign (.Name y py) X.env (.ref L)) _ _ s'
  refine wpAny_assign_Name (store_ok2 I' hN hi' (.inl hy) (v := .ref L) rfl (fun s'' I'' hb => ?_) (.inr hy))
  obtain ⟨a, sb, ha⟩ := hb
  have na : C ≠ a := by
    rcases ha with z | z
    · rw [z]; exact fC.2.1
    · exact fun w => fC.2.2.2.2.1 y a z w.symm
  have hn2 : s''.heap.Ns C m := hn.sameBut sb na
  refine ⟨m, hn2, fun h' hs' => ⟨_, H', I''.turned (t' := s''.toks) (fun b o hb e => (hs'.2 b hb).trans e) fC.1 fC.2.1 fC.2.2.2.1 fC.2.2.2.2.1 fC.2.2.2.2.2, q⟩⟩
end
end L2
set_option Elab.async false
set_option linter.all false
set_option maxRecDepth 100000
namespace S
open PySem L2
structure Tab (K : PySem.W.Frag) (Cs : Nat → Addr) (bm : List Value) : Prop where
  er : ∀ j, j ≤ 20 → ∃ f, ErrC K (Cs j) f bm
  fc : ∀ j, j ≤ 20 → PySem.W.findIn K (.ref (Cs j)) "__class__" = some (some (.builtin "object.__class__"))
  inj : ∀ i j, i ≤ 20 → j ≤ 20 → Cs i = Cs j → i = j
  out : ∀ j, j ≤ 20 → bm.contains (.ref (Cs j)) = false
structure TabM (mg : Str → Option Value) (Cs : Nat → Addr) : Prop where
  m0 : mg "NoHouses" = some (.ref (Cs 0))
  m1 : mg "NoHouse" = some (.ref (Cs 1))
  m2 : mg "NoSet" = some (.ref (Cs 2))
  m3 : mg "Twice" = some (.ref (Cs 3))
  m4 : mg "NoLots" = some (.ref (Cs 4))
  m5 : mg "TooMany" = some (.ref (Cs 5))
  m6 : mg "NoPlan" = some (.ref (Cs 6))
  m7 : mg "NoText" = some (.ref (Cs 7))
  m8 : mg "NoShare" = some (.ref (Cs 8))
  m9 : mg "NoNumber" = some (.ref (Cs 9))
  m10 : mg "Apart" = some (.ref (Cs 10))
  m11 : mg "NoChance" = some (.ref (Cs 11))
  m12 : mg "NoDealing" = some (.ref (Cs 12))
  m13 : mg "NoKind" = some (.ref (Cs 13))
  m14 : mg "NoneStands" = some (.ref (Cs 14))
  m15 : mg "Fallen" = some (.ref (Cs 15))
  m16 : mg "Standing" = some (.ref (Cs 16))
  m17 : mg "NoValue" = some (.ref (Cs 17))
  m18 : mg "NoUndo" = some (.ref (Cs 18))
  m19 : mg "NoSystem" = some (.ref (Cs 19))
  m20 : mg "NoLine" = some (.ref (Cs 20))
theorem Tab.kit {K : PySem.W.Frag} {Cs : Nat → Addr} {bm : List Value} (t : Tab K Cs bm) {i j : Nat} (hi : i ≤ 20) (hj : j ≤ 20) : PySem.W.kitOne K (.ref (Cs i)) (.ref (Cs j)) = some (decide (i = j)) := by
  obtain ⟨f, ec⟩ := t.er i hi
  obtain ⟨f', ed⟩ := t.er j hj
  rw [kit_err ec ed, List.contains_cons, t.out j hj, Bool.or_false]
  congr 1
  rw [Bool.eq_iff_iff, beq_iff_eq, decide_eq_true_eq]
  exact ⟨fun e => (t.inj j i hj hi (Value.ref.inj e)).symm, fun e => by rw [e]⟩
theorem MadeAt.at_ {H : Hp} {e C : Addr} {k : Nat} {x y : V} (m : MadeAt H e C k x y) : ∃ dx, H e = some (errO e C dx) := by
  cases m with
  | one n1 n2 h d => exact ⟨_, h⟩
  | two n h d => exact ⟨_, h⟩
  | none n h => exact ⟨_, h⟩
theorem ixK_list {X : Cx} {K : PySem.W.Frag} (hK : X.K = K) : IxR X (rIxL K) := by subst hK; exact ix_list
def spKinds (Cs : Nat → Addr) : Sp := fun vs H Q _ => ∃ (e : Addr) (k : Nat) (x y : V), vs = [.ref e] ∧ k ≤ 20 ∧ MadeAt H e (Cs k) k x y ∧ ∀ D H', H D = none → Same H H' → H' D = some (.lst [.int (k : Nat)]) → Q (.ref D) H'
section
variable {P : Program} {w : World} {K : PySem.W.Frag} {mg : Str → Option Value} {base : Heap} {Cs : Nat → Addr} {bm : List Value}
theorem RI.of {H : Hp} {Q : VK} {e : Addr} {k j : Nat} {dx : Option Addr} (t : Tab K Cs bm) (h : H e = some (errO e (Cs k) dx)) (hk : k ≤ 20) (hj : j ≤ 20) (q : Q (.bl (decide (k = j))) H) : RI K [.ref e, .ref (Cs j)] H Q := by
  obtain ⟨f, ec⟩ := t.er k hk
  exact .own _ h ec (t.fc k hk) (t.kit hk hj) q
theorem scKinds : FnScope ["_law_error_here", "_law_truths"] ["_law_error_here"] (defScope s_law_kinds) := ⟨rfl, rfl, rfl, by decide +kernel, rfl, by decide +kernel, by decide +kernel⟩
set_option maxHeartbeats 4000000 in
theorem ok_kinds {f : Addr} {fd : FuncData} (F : Fun K "_law_kinds" "_law_kinds" s_law_kinds f fd) (mi : mg "isinstance" = none) (mr : mg "range" = none) (t : Tab K Cs bm) (M : TabM mg Cs) : FnOk P w K mg base CX0 1 f fd ["_law_error_here"] (spKinds Cs) := by
  refine F.ok scKinds (fun vs H Q E h => ?_) (fun cdv A outer s H vs Q E hr h => ?_)
  · obtain ⟨e, k, x, y, rfl, _⟩ := h
    rfl
  obtain ⟨e, k, x, y, rfl, hk, hM, q⟩ := h
  refine ⟨_, pss_cons (ps_set (i := 1) scKinds.nd rfl (Or.inr rfl) (pe_lst pa_nil))
    (pss_cons (ps_set (i := 1) scKinds.nd rfl (Or.inr rfl) (pe_op op_cat (pv 1) (pe_lst (pa_cons (pe_callB call_instE rfl mi PyProof.Rows.boot_isinstance (pa_cons (pv 0) (pa_cons (pe_glob (v := .ref (Cs 0)) rfl M.m0 rfl) pa_nil))) (pa_cons (pe_callB call_instE rfl mi PyProof.Rows.boot_isinstance (pa_cons (pv 0) (pa_cons (pe_glob (v := .ref (Cs 1)) rfl M.m1 rfl) pa_nil))) (pa_cons (pe_callB call_instE rfl mi PyProof.Rows.boot_isinstance (pa_cons (pv 0) (pa_cons (pe_glob (v := .ref (Cs 2)) rfl M.m2 rfl) pa_nil))) pa_nil))))))
    (pss_cons (ps_set (i := 1) scKinds.nd rfl (Or.inr rfl) (pe_op op_cat (pv 1) (pe_lst (pa_cons (pe_callB call_instE rfl mi PyProof.Rows.boot_isinstance (pa_cons (pv 0) (pa_cons (pe_glob (v := .ref (Cs 3)) rfl M.m3 rfl) pa_nil))) (pa_cons (pe_callB call_instE rfl mi PyProof.Rows.boot_isinstance (pa_cons (pv 0) (pa_cons (pe_glob (v := .ref (Cs 4)) rfl M.m4 rfl) pa_nil))) (pa_cons (pe_callB call_instE rfl mi PyProof.Rows.boot_isinstance (pa_cons (pv 0) (pa_cons (pe_glob (v := .ref (Cs 5)) rfl M.m5 rfl) pa_nil))) pa_nil))))))
    (pss_cons (ps_set (i := 1) scKinds.nd rfl (Or.inr rfl) (pe_op op_cat (pv 1) (pe_lst (pa_cons (pe_callB call_instE rfl mi PyProof.Rows.boot_isinstance (pa_cons (pv 0) (pa_cons (pe_glob (v := .ref (Cs 6)) rfl M.m6 rfl) pa_nil))) (pa_cons (pe_callB call_instE rfl mi PyProof.Rows.boot_isinstance (pa_cons (pv 0) (pa_cons (pe_glob (v := .ref (Cs 7)) rfl M.m7 rfl) pa_nil))) (pa_cons (pe_callB call_instE rfl mi PyProof.Rows.boot_isinstance (pa_cons (pv 0) (pa_cons (pe_glob (v := .ref (Cs 8)) rfl M.m8 rfl) pa_nil))) pa_nil))))))
    (pss_cons (ps_set (i := 1) scKinds.nd rfl (Or.inr rfl) (pe_op op_cat (pv 1) (pe_lst (pa_cons (pe_callB call_instE rfl mi PyProof.Rows.boot_isinstance (pa_cons (pv 0) (pa_cons (pe_glob (v := .ref (Cs 9)) rfl M.m9 rfl) pa_nil))) (pa_cons (pe_callB call_instE rfl mi PyProof.Rows.boot_isinstance (pa_cons (pv 0) (pa_cons (pe_glob (v := .ref (Cs 10)) rfl M.m10 rfl) pa_nil))) (pa_cons (pe_callB call_instE rfl mi PyProof.Rows.boot_isinstance (pa_cons (pv 0) (pa_cons (pe_glob (v := .ref (Cs 11)) rfl M.m11 rfl) pa_nil))) pa_nil))))))
    (pss_cons (ps_set (i := 1) scKinds.nd rfl (Or.inr rfl) (pe_op op_cat (pv 1) (pe_lst (pa_cons (pe_callB call_instE rfl mi PyProof.Rows.boot_isinstance (pa_cons (pv 0) (pa_cons (pe_glob (v := .ref (Cs 12)) rfl M.m12 rfl) pa_nil))) (pa_cons (pe_callB call_instE rfl mi PyProof.Rows.boot_isinstance (pa_cons (pv 0) (pa_cons (pe_glob (v := .ref (Cs 13)) rfl M.m13 rfl) pa_nil))) (pa_cons (pe_callB call_instE rfl mi PyProof.Rows.boot_isinstance (pa_cons (pv 0) (pa_cons (pe_glob (v := .ref (Cs 14)) rfl M.m14 rfl) pa_nil))) pa_nil))))))
    (pss_cons (ps_set (i := 1) scKinds.nd rfl (Or.inr rfl) (pe_op op_cat (pv 1) (pe_lst (pa_cons (pe_callB call_instE rfl mi PyProof.Rows.boot_isinstance (pa_cons (pv 0) (pa_cons (pe_glob (v := .ref (Cs 15)) rfl M.m15 rfl) pa_nil))) (pa_cons (pe_callB call_instE rfl mi PyProof.Rows.boot_isinstance (pa_cons (pv 0) (pa_cons (pe_glob (v := .ref (Cs 16)) rfl M.m16 rfl) pa_nil))) (pa_cons (pe_callB call_instE rfl mi PyProof.Rows.boot_isinstance (pa_cons (pv 0) (pa_cons (pe_glob (v := .ref (Cs 17)) rfl M.m17 rfl) pa_nil))) pa_nil))))))
    (pss_cons (ps_set (i := 1) scKinds.nd rfl (Or.inr rfl) (pe_op op_cat (pv 1) (pe_lst (pa_cons (pe_callB call_instE rfl mi PyProof.Rows.boot_isinstance (pa_cons (pv 0) (pa_cons (pe_glob (v := .ref (Cs 18)) rfl M.m18 rfl) pa_nil))) (pa_cons (pe_callB call_instE rfl mi PyProof.Rows.boot_isinstance (pa_cons (pv 0) (pa_cons (pe_glob (v := .ref (Cs 19)) rfl M.m19 rfl) pa_nil))) (pa_cons (pe_callB call_instE rfl mi PyProof.Rows.boot_isinstance (pa_cons (pv 0) (pa_cons (pe_glob (v := .ref (Cs 20)) rfl M.m20 rfl) pa_nil))) pa_nil))))))
    (pss_one (ps_ret (pe_compL (xs := ["_law_k"]) (fv := [("_law_truths", 1)]) rfl (by decide +kernel) ⟨⟨rfl, Or.inl rfl, rfl⟩, trivial⟩ (pi_range1 rfl mr (pa_cons pe_int pa_nil)) (fun _ _ _ _ _ => pg_name (i := 0) (ndT (by decide +kernel)) rfl (Or.inl rfl)) (fun _ _ _ _ _ => ptl_one (pt_val (pe_ix (ixK_list (K := K) rfl) (pv 1) (pv 0) (fun _ _ => rfl)))) (fun _ _ _ _ _ => pv 0))))))))))), ?_⟩
  obtain ⟨dx, he⟩ := hM.at_
  have s3 : (3 : Nat) ≤ sizeLine := by decide
  have s100 : (100 : Nat) ≤ sizeLine := by decide
  refine ⟨(by show 0 ≤ sizeLine; decide), fun L0 hL0 => ?_⟩
  have g0 : Same H (upd H L0 (.lst [])) := fun c o hc => by rw [upd_ne (ne_of_none hc hL0)]; exact hc
  have d0 : (upd H L0 (.lst [])) L0 = some (.lst ((List.range 0).map fun j => V.bl (decide (k = j)))) := upd_same
  generalize upd H L0 (.lst []) = H0 at g0 d0 ⊢
  have he0 := g0 _ _ he
  refine ⟨_, rfl, _, rfl, RI.of (k := k) (j := 0) t he0 hk (by decide) ⟨_, rfl, RI.of (k := k) (j := 1) t he0 hk (by decide) ⟨_, rfl, RI.of (k := k) (j := 2) t he0 hk (by decide) ⟨s3, fun A0 hA0 => ?_⟩⟩⟩⟩
  refine ⟨L0, A0, _, _, rfl, rfl, (by rw [upd_ne (ne_of_none d0 hA0)]; exact d0), upd_same, (by rw [List.length_map, List.length_range]; show 0 + 3 ≤ sizeLine; omega), fun L1 hL1 => ?_⟩
  have g1 : Same H (upd (upd H0 A0 (.lst [.bl (decide (k = 0)), .bl (decide (k = 1)), .bl (decide (k = 2))])) L1 (.lst (((List.range 0).map fun j => V.bl (decide (k = j))) ++ [.bl (decide (k = 0)), .bl (decide (k = 1)), .bl (decide (k = 2))]))) := fun c o hc => by
    rw [upd_ne (ne_of_none (by rw [upd_ne (ne_of_none (g0 _ _ hc) hA0)]; exact g0 _ _ hc) hL1), upd_ne (ne_of_none (g0 _ _ hc) hA0)]
    exact g0 _ _ hc
  have d1 : (upd (upd H0 A0 (.lst [.bl (decide (k = 0)), .bl (decide (k = 1)), .bl (decide (k = 2))])) L1 (.lst (((List.range 0).map fun j => V.bl (decide (k = j))) ++ [.bl (decide (k = 0)), .bl (decide (k = 1)), .bl (decide (k = 2))]))) L1 = some (.lst ((List.range 3).map fun j => V.bl (decide (k = j)))) := upd_same
  generalize upd (upd H0 A0 (.lst [.bl (decide (k = 0)), .bl (decide (k = 1)), .bl (decide (k = 2))])) L1 (.lst (((List.range 0).map fun j => V.bl (decide (k = j))) ++ [.bl (decide (k = 0)), .bl (decide (k = 1)), .bl (decide (k = 2))])) = H1 at g1 d1 ⊢
  have he1 := g1 _ _ he
  refine ⟨_, rfl, _, rfl, RI.of (k := k) (j := 3) t he1 hk (by decide) ⟨_, rfl, RI.of (k := k) (j := 4) t he1 hk (by decide) ⟨_, rfl, RI.of (k := k) (j := 5) t he1 hk (by decide) ⟨s3, fun A1 hA1 => ?_⟩⟩⟩⟩
  refine ⟨L1, A1, _, _, rfl, rfl, (by rw [upd_ne (ne_of_none d1 hA1)]; exact d1), upd_same, (by rw [List.length_map, List.length_range]; show 3 + 3 ≤ sizeLine; omega), fun L2 hL2 => ?_⟩
  have g2 : Same H (upd (upd H1 A1 (.lst [.bl (decide (k = 3)), .bl (decide (k = 4)), .bl (decide (k = 5))])) L2 (.lst (((List.range 3).map fun j => V.bl (decide (k = j))) ++ [.bl (decide (k = 3)), .bl (decide (k = 4)), .bl (decide (k = 5))]))) := fun c o hc => by
    rw [upd_ne (ne_of_none (by rw [upd_ne (ne_of_none (g1 _ _ hc) hA1)]; exact g1 _ _ hc) hL2), upd_ne (ne_of_none (g1 _ _ hc) hA1)]
    exact g1 _ _ hc
  have d2 : (upd (upd H1 A1 (.lst [.bl (decide (k = 3)), .bl (decide (k = 4)), .bl (decide (k = 5))])) L2 (.lst (((List.range 3).map fun j => V.bl (decide (k = j))) ++ [.bl (decide (k = 3)), .bl (decide (k = 4)), .bl (decide (k = 5))]))) L2 = some (.lst ((List.range 6).map fun j => V.bl (decide (k = j)))) := upd_same
  generalize upd (upd H1 A1 (.lst [.bl (decide (k = 3)), .bl (decide (k = 4)), .bl (decide (k = 5))])) L2 (.lst (((List.range 3).map fun j => V.bl (decide (k = j))) ++ [.bl (decide (k = 3)), .bl (decide (k = 4)), .bl (decide (k = 5))])) = H2 at g2 d2 ⊢
  have he2 := g2 _ _ he
  refine ⟨_, rfl, _, rfl, RI.of (k := k) (j := 6) t he2 hk (by decide) ⟨_, rfl, RI.of (k := k) (j := 7) t he2 hk (by decide) ⟨_, rfl, RI.of (k := k) (j := 8) t he2 hk (by decide) ⟨s3, fun A2 hA2 => ?_⟩⟩⟩⟩
  refine ⟨L2, A2, _, _, rfl, rfl, (by rw [upd_ne (ne_of_none d2 hA2)]; exact d2), upd_same, (by rw [List.length_map, List.length_range]; show 6 + 3 ≤ sizeLine; omega), fun L3 hL3 => ?_⟩
  have g3 : Same H (upd (upd H2 A2 (.lst [.bl (decide (k = 6)), .bl (decide (k = 7)), .bl (decide (k = 8))])) L3 (.lst (((List.range 6).map fun j => V.bl (decide (k = j))) ++ [.bl (decide (k = 6)), .bl (decide (k = 7)), .bl (decide (k = 8))]))) := fun c o hc => by
    rw [upd_ne (ne_of_none (by rw [upd_ne (ne_of_none (g2 _ _ hc) hA2)]; exact g2 _ _ hc) hL3), upd_ne (ne_of_none (g2 _ _ hc) hA2)]
    exact g2 _ _ hc
  have d3 : (upd (upd H2 A2 (.lst [.bl (decide (k = 6)), .bl (decide (k = 7)), .bl (decide (k = 8))])) L3 (.lst (((List.range 6).map fun j => V.bl (decide (k = j))) ++ [.bl (decide (k = 6)), .bl (decide (k = 7)), .bl (decide (k = 8))]))) L3 = some (.lst ((List.range 9).map fun j => V.bl (decide (k = j)))) := upd_same
  generalize upd (upd H2 A2 (.lst [.bl (decide (k = 6)), .bl (decide (k = 7)), .bl (decide (k = 8))])) L3 (.lst (((List.range 6).map fun j => V.bl (decide (k = j))) ++ [.bl (decide (k = 6)), .bl (decide (k = 7)), .bl (decide (k = 8))])) = H3 at g3 d3 ⊢
  have he3 := g3 _ _ he
  refine ⟨_, rfl, _, rfl, RI.of (k := k) (j := 9) t he3 hk (by decide) ⟨_, rfl, RI.of (k := k) (j := 10) t he3 hk (by decide) ⟨_, rfl, RI.of (k := k) (j := 11) t he3 hk (by decide) ⟨s3, fun A3 hA3 => ?_⟩⟩⟩⟩
  refine ⟨L3, A3, _, _, rfl, rfl, (by rw [upd_ne (ne_of_none d3 hA3)]; exact d3), upd_same, (by rw [List.length_map, List.length_range]; show 9 + 3 ≤ sizeLine; omega), fun L4 hL4 => ?_⟩
  have g4 : Same H (upd (upd H3 A3 (.lst [.bl (decide (k = 9)), .bl (decide (k = 10)), .bl (decide (k = 11))])) L4 (.lst (((List.range 9).map fun j => V.bl (decide (k = j))) ++ [.bl (decide (k = 9)), .bl (decide (k = 10)), .bl (decide (k = 11))]))) := fun c o hc => by
    rw [upd_ne (ne_of_none (by rw [upd_ne (ne_of_none (g3 _ _ hc) hA3)]; exact g3 _ _ hc) hL4), upd_ne (ne_of_none (g3 _ _ hc) hA3)]
    exact g3 _ _ hc
  have d4 : (upd (upd H3 A3 (.lst [.bl (decide (k = 9)), .bl (decide (k = 10)), .bl (decide (k = 11))])) L4 (.lst (((List.range 9).map fun j => V.bl (decide (k = j))) ++ [.bl (decide (k = 9)), .bl (decide (k = 10)), .bl (decide (k = 11))]))) L4 = some (.lst ((List.range 12).map fun j => V.bl (decide (k = j)))) := upd_same
  generalize upd (upd H3 A3 (.lst [.bl (decide (k = 9)), .bl (decide (k = 10)), .bl (decide (k = 11))])) L4 (.lst (((List.range 9).map fun j => V.bl (decide (k = j))) ++ [.bl (decide (k = 9)), .bl (decide (k = 10)), .bl (decide (k = 11))])) = H4 at g4 d4 ⊢
  have he4 := g4 _ _ he
  refine ⟨_, rfl, _, rfl, RI.of (k := k) (j := 12) t he4 hk (by decide) ⟨_, rfl, RI.of (k := k) (j := 13) t he4 hk (by decide) ⟨_, rfl, RI.of (k := k) (j := 14) t he4 hk (by decide) ⟨s3, fun A4 hA4 => ?_⟩⟩⟩⟩
  refine ⟨L4, A4, _, _, rfl, rfl, (by rw [upd_ne (ne_of_none d4 hA4)]; exact d4), upd_same, (by rw [List.length_map, List.length_range]; show 12 + 3 ≤ sizeLine; omega), fun L5 hL5 => ?_⟩
  have g5 : Same H (upd (upd H4 A4 (.lst [.bl (decide (k = 12)), .bl (decide (k = 13)), .bl (decide (k = 14))])) L5 (.lst (((List.range 12).map fun j => V.bl (decide (k = j))) ++ [.bl (decide (k = 12)), .bl (decide (k = 13)), .bl (decide (k = 14))]))) := fun c o hc => by
    rw [upd_ne (ne_of_none (by rw [upd_ne (ne_of_none (g4 _ _ hc) hA4)]; exact g4 _ _ hc) hL5), upd_ne (ne_of_none (g4 _ _ hc) hA4)]
    exact g4 _ _ hc
  have d5 : (upd (upd H4 A4 (.lst [.bl (decide (k = 12)), .bl (decide (k = 13)), .bl (decide (k = 14))])) L5 (.lst (((List.range 12).map fun j => V.bl (decide (k = j))) ++ [.bl (decide (k = 12)), .bl (decide (k = 13)), .bl (decide (k = 14))]))) L5 = some (.lst ((List.range 15).map fun j => V.bl (decide (k = j)))) := upd_same
  generalize upd (upd H4 A4 (.lst [.bl (decide (k = 12)), .bl (decide (k = 13)), .bl (decide (k = 14))])) L5 (.lst (((List.range 12).map fun j => V.bl (decide (k = j))) ++ [.bl (decide (k = 12)), .bl (decide (k = 13)), .bl (decide (k = 14))])) = H5 at g5 d5 ⊢
  have he5 := g5 _ _ he
  refine ⟨_, rfl, _, rfl, RI.of (k := k) (j := 15) t he5 hk (by decide) ⟨_, rfl, RI.of (k := k) (j := 16) t he5 hk (by decide) ⟨_, rfl, RI.of (k := k) (j := 17) t he5 hk (by decide) ⟨s3, fun A5 hA5 => ?_⟩⟩⟩⟩
  refine ⟨L5, A5, _, _, rfl, rfl, (by rw [upd_ne (ne_of_none d5 hA5)]; exact d5), upd_same, (by rw [List.length_map, List.length_range]; show 15 + 3 ≤ sizeLine; omega), fun L6 hL6 => ?_⟩
  have g6 : Same H (upd (upd H5 A5 (.lst [.bl (decide (k = 15)), .bl (decide (k = 16)), .bl (decide (k = 17))])) L6 (.lst (((List.range 15).map fun j => V.bl (decide (k = j))) ++ [.bl (decide (k = 15)), .bl (decide (k = 16)), .bl (decide (k = 17))]))) := fun c o hc => by
    rw [upd_ne (ne_of_none (by rw [upd_ne (ne_of_none (g5 _ _ hc) hA5)]; exact g5 _ _ hc) hL6), upd_ne (ne_of_none (g5 _ _ hc) hA5)]
    exact g5 _ _ hc
  have d6 : (upd (upd H5 A5 (.lst [.bl (decide (k = 15)), .bl (decide (k = 16)), .bl (decide (k = 17))])) L6 (.lst (((List.range 15).map fun j => V.bl (decide (k = j))) ++ [.bl (decide (k = 15)), .bl (decide (k = 16)), .bl (decide (k = 17))]))) L6 = some (.lst ((List.range 18).map fun j => V.bl (decide (k = j)))) := upd_same
  generalize upd (upd H5 A5 (.lst [.bl (decide (k = 15)), .bl (decide (k = 16)), .bl (decide (k = 17))])) L6 (.lst (((List.range 15).map fun j => V.bl (decide (k = j))) ++ [.bl (decide (k = 15)), .bl (decide (k = 16)), .bl (decide (k = 17))])) = H6 at g6 d6 ⊢
  have he6 := g6 _ _ he
  refine ⟨_, rfl, _, rfl, RI.of (k := k) (j := 18) t he6 hk (by decide) ⟨_, rfl, RI.of (k := k) (j := 19) t he6 hk (by decide) ⟨_, rfl, RI.of (k := k) (j := 20) t he6 hk (by decide) ⟨s3, fun A6 hA6 => ?_⟩⟩⟩⟩
  refine ⟨L6, A6, _, _, rfl, rfl, (by rw [upd_ne (ne_of_none d6 hA6)]; exact d6), upd_same, (by rw [List.length_map, List.length_range]; show 18 + 3 ≤ sizeLine; omega), fun L7 hL7 => ?_⟩
  have g7 : Same H (upd (upd H6 A6 (.lst [.bl (decide (k = 18)), .bl (decide (k = 19)), .bl (decide (k = 20))])) L7 (.lst (((List.range 18).map fun j => V.bl (decide (k = j))) ++ [.bl (decide (k = 18)), .bl (decide (k = 19)), .bl (decide (k = 20))]))) := fun c o hc => by
    rw [upd_ne (ne_of_none (by rw [upd_ne (ne_of_none (g6 _ _ hc) hA6)]; exact g6 _ _ hc) hL7), upd_ne (ne_of_none (g6 _ _ hc) hA6)]
    exact g6 _ _ hc
  have d7 : (upd (upd H6 A6 (.lst [.bl (decide (k = 18)), .bl (decide (k = 19)), .bl (decide (k = 20))])) L7 (.lst (((List.range 18).map fun j => V.bl (decide (k = j))) ++ [.bl (decide (k = 18)), .bl (decide (k = 19)), .bl (decide (k = 20))]))) L7 = some (.lst ((List.range 21).map fun j => V.bl (decide (k = j)))) := upd_same
  generalize upd (upd H6 A6 (.lst [.bl (decide (k = 18)), .bl (decide (k = 19)), .bl (decide (k = 20))])) L7 (.lst (((List.range 18).map fun j => V.bl (decide (k = j))) ++ [.bl (decide (k = 18)), .bl (decide (k = 19)), .bl (decide (k = 20))])) = H7 at g7 d7 ⊢
  refine ⟨21, rfl, by decide, by decide, ?_⟩
  refine range_comp (fun i D H' => Same H7 H' ∧ H' D = some (.lst (if k < i then [.int (k : Nat)] else []))) (fun D hD => ⟨fun c o hc => by rw [upd_ne (ne_of_none hc hD)]; exact hc, by rw [upd_same, if_neg (by omega)]⟩) (fun i D H' hD hi hP => ?_) (fun D H' hD hP => ?_)
  · obtain ⟨g, hl⟩ := hP
    have hi : i < 21 := hi
    have hat : atI ((List.range 21).map fun j => V.bl (decide (k = j))) (0 + (i : Int)) = some (.bl (decide (k = i))) := by
      rw [Int.zero_add]
      exact atI_nat (by rw [List.getElem?_map, List.getElem?_range hi]; rfl)
    refine ⟨rfl, _, rfl, _, rfl, L7, _, _, _, rfl, rfl, SqL.of (g _ _ d7), hat, _, rfl, ?_⟩
    refine ite2 (fun c => ?_) (fun c => ?_)
    · have e : k = i := of_decide_eq_true c
      refine ⟨_, rfl, _, hl, (by split <;> (show _ < sizeLine; simp; omega)), fun c' o hc => by rw [upd_ne (ne_of_none hc hD)]; exact g _ _ hc, ?_⟩
      rw [upd_same, if_neg (by omega), if_pos (by omega), e, Int.zero_add]; rfl
    · have e : k ≠ i := fun z => c (decide_eq_true z)
      refine ⟨g, ?_⟩
      rw [hl]
      by_cases z : k < i
      · rw [if_pos z, if_pos (by omega)]
      · rw [if_neg z, if_neg (by omega)]
  · obtain ⟨g, hl⟩ := hP
    refine q D H' ?_ (g7.trans g) (by rw [hl, if_pos (show k < Int.toNat 21 by show k < 21; omega)])
    cases z : H D with
    | none => rfl
    | some o => rw [g7 _ _ z] at hD; cases hD
end
end S
set_option Elab.async false
set_option linter.all false
set_option maxRecDepth 100000
namespace L2
open PySem PySem.Spec PyProof.Rows
section
variable {X : Cx}
def tLstN (t : TA) : TE := fun σ H Q => t σ H fun xs H1 => xs.length ≤ sizeLine ∧ ∀ a, H1 a = none → a ≠ sysModules → Q (.ref a) (upd H1 a (.lst xs))
theorem pe_lstN {es : List Expr} {t : TA} {pos : Pos} (h : PA X es t) : PE X (.List es pos) (tLstN t) := by
  intro pins s σ H Q I hq
  refine wpAny_List_spliced (thn (h pos pins s σ H _ I hq) fun us s1 ⟨xs, H1, I1, r, z, q⟩ => ⟨by rw [← r.length]; exact z, ?_⟩)
  exact ⟨.ref s1.heap.objs.size, _, I1.lnew (t' := s1.toks) r z, rfl, q _ I1.fresh (Nat.ne_of_gt I1.big)⟩
end
end L2
set_option Elab.async false
set_option linter.all false
set_option maxRecDepth 100000
namespace S
open PySem L2
def dueF (k : Nat) (x y : V) : List V := if k = 10 then [x, y] else if k = 18 then [] else [x]
theorem in3 : ∀ k : Nat, k < 21 → inV (V.int (k : Nat)) [.int 15, .int 16, .int 19] = decide (k = 15 ∨ k = 16 ∨ k = 19) := by decide +kernel
def spFields (Cs : Nat → Addr) : Sp := fun vs H Q _ => ∃ (e : Addr) (k : Nat) (x y : V), vs = [.int (k : Nat), .ref e] ∧ k ≤ 20 ∧ MadeAt H e (Cs k) k x y ∧ ∀ D H', H D = none → D ≠ sysModules → Same H H' → H' D = some (.lst (dueF k x y)) → Q (.ref D) H'
section
variable {P : Program} {w : World} {K : PySem.W.Frag} {mg : Str → Option Value} {base : Heap} {Cs : Nat → Addr} {bm : List Value}
theorem scFields : FnScope ["_law_k", "_law_error_here"] ["_law_k", "_law_error_here"] (defScope s_law_fields) := ⟨rfl, rfl, rfl, by decide +kernel, rfl, by decide +kernel, by decide +kernel⟩
set_option maxHeartbeats 2000000 in
theorem ok_fields {f : Addr} {fd : FuncData} (F : Fun K "_law_fields" "_law_fields" s_law_fields f fd) (t : Tab K Cs bm) (nf : ∀ j, j ≤ 20 → j ≠ 10 → j ≠ 18 → PySem.W.findIn K (.ref (Cs j)) (fldOf j) = some none) (n1 : PySem.W.findIn K (.ref (Cs 10)) "one" = some none) (n2 : PySem.W.findIn K (.ref (Cs 10)) "other" = some none) : FnOk P w K mg base CX0 1 f fd ["_law_k", "_law_error_here"] (spFields Cs) := by
  refine F.ok scFields (fun vs H Q E h => ?_) (fun cdv A outer s H vs Q E hr h => ?_)
  · obtain ⟨e, k, x, y, rfl, _⟩ := h
    rfl
  obtain ⟨e, k, x, y, rfl, hk, hM, q⟩ := h
  refine ⟨_, pss_cons (ps_if (pt_cmpR op_eq (pv 0) pe_int (nomark _)) (pss_one (ps_ret (pe_lstN (pa_cons (pe_errG (pv 1) rfl) pa_nil)))) pss_nil)
    (pss_cons (ps_if (pt_cmpR op_eq (pv 0) pe_int (nomark _)) (pss_one (ps_ret (pe_lstN (pa_cons (pe_errX (pv 1) rfl) (pa_cons (pe_errX (pv 1) rfl) pa_nil))))) pss_nil)
    (pss_cons (ps_if (pt_cmpR op_eq (pv 0) pe_int (nomark _)) (pss_one (ps_ret (pe_lstN (pa_cons (pe_errG (pv 1) rfl) pa_nil)))) pss_nil)
    (pss_cons (ps_if (pt_cmpR op_in_seq (pv 0) (pe_tup (pa_cons pe_int (pa_cons pe_int (pa_cons pe_int pa_nil)))) (by with_unfolding_all rfl)) (pss_one (ps_ret (pe_lstN (pa_cons (pe_errG (pv 1) rfl) pa_nil)))) pss_nil)
    (pss_cons (ps_if (pt_cmpR op_eq (pv 0) pe_int (nomark _)) (pss_one (ps_ret (pe_lstN pa_nil))) pss_nil)
    (pss_one (ps_ret (pe_lstN (pa_cons (pe_errG (pv 1) rfl) pa_nil)))))))), ?_⟩
  have s1 : (1 : Nat) ≤ sizeLine := by decide
  have s2 : (2 : Nat) ≤ sizeLine := by decide
  have new : ∀ {D : Addr} {o : HO}, H D = none → Same H (upd H D o) := fun hD c o hc => by rw [upd_ne (ne_of_none hc hD)]; exact hc
  obtain ⟨fI, ec⟩ := t.er k hk
  have free : ∀ {H1 : Hp} {D : Addr}, Same H H1 → H1 D = none → H D = none := fun {H1 D} g h => by
    cases z : H D with
    | none => rfl
    | some o => rw [g _ _ z] at h; cases h
  have one : ∀ {fld : Str} {H1 : Hp}, Same H H1 → fldOf k = fld → k ≠ 10 → k ≠ 18 → ∃ e' C dx f bm fs v, V.ref e = V.ref e' ∧ H1 e' = some (errO e' C (some dx)) ∧ ErrC K C f bm ∧ PySem.W.findIn K (.ref C) fld = some none ∧ H1 dx = some (.xd fs) ∧ fs.lookup fld = some v ∧ ([v].length ≤ sizeLine ∧ ∀ D, H1 D = none → D ≠ sysModules → Q (.ref D) (upd H1 D (.lst [v]))) := fun {fld H1} g ef n1 n2 => by
    cases hM.same g with
    | one _ _ h d =>
      refine ⟨e, _, _, fI, bm, _, x, rfl, h, ec, ef ▸ nf k hk n1 n2, d, ?_, s1, fun D hD nD => q D _ (free g hD) nD (g.trans fun c o hc => by rw [upd_ne (ne_of_none hc hD)]; exact hc) (by rw [upd_same]; unfold dueF; rw [if_neg n1, if_neg n2])⟩
      rw [List.lookup_cons, ef, beq_self_eq_true]
    | two n h d => exact absurd n n1
    | none n h => exact absurd n n2
  refine ⟨_, rfl, rfl, _, rfl, ?_⟩
  refine ite2 (fun c => ?_) (fun c => ?_)
  · have e7 : k = 7 := kEq (j := 7) c
    exact ⟨_, rfl, one (Same.refl _) (by rw [e7]; rfl) (by omega) (by omega)⟩
  have n7 : k ≠ 7 := kNe (j := 7) c
  refine ⟨_, rfl, rfl, _, rfl, ?_⟩
  refine ite2 (fun c => ?_) (fun c => ?_)
  · have e10 : k = 10 := kEq (j := 10) c
    subst e10
    cases hM with
    | one n _ h d => exact absurd rfl n
    | none n h => cases n
    | two n h d =>
      exact ⟨_, rfl, e, _, _, fI, bm, _, x, rfl, h, ec, n1, d, rfl, _, rfl, e, _, _, fI, bm, _, y, rfl, h, ec, n2, d, rfl, s2, fun D hD nD => q D _ hD nD (new hD) upd_same⟩
  have n10 : k ≠ 10 := kNe (j := 10) c
  refine ⟨_, rfl, rfl, _, rfl, ?_⟩
  refine ite2 (fun c => ?_) (fun c => ?_)
  · have e14 : k = 14 := kEq (j := 14) c
    exact ⟨_, rfl, one (Same.refl _) (by rw [e14]; rfl) (by omega) (by omega)⟩
  have n14 : k ≠ 14 := kNe (j := 14) c
  refine ⟨_, rfl, (by show 3 ≤ sizeLine; decide), fun T3 hT3 => ?_⟩
  have g3 : Same H (upd H T3 (.tup [.int 15, .int 16, .int 19])) := new hT3
  have d3 : (upd H T3 (.tup [.int 15, .int 16, .int 19])) T3 = some (.tup [.int 15, .int 16, .int 19]) := upd_same
  generalize upd H T3 (.tup [.int 15, .int 16, .int 19]) = H3 at g3 d3 ⊢
  refine ⟨T3, _, rfl, .inr (SqT.of d3), rfl, rfl, _, rfl, ?_⟩
  rw [if_neg Bool.false_ne_true]
  rw [in3 k (by omega)]
  refine ite2 (fun c => ?_) (fun c => ?_)
  · have ek : k = 15 ∨ k = 16 ∨ k = 19 := of_decide_eq_true c
    exact ⟨_, rfl, one g3 (by rcases ek with rfl | rfl | rfl <;> rfl) (by omega) (by omega)⟩
  have nk : ¬ (k = 15 ∨ k = 16 ∨ k = 19) := fun z => c (decide_eq_true z)
  refine ⟨_, rfl, rfl, _, rfl, ?_⟩
  refine ite2 (fun c => ?_) (fun c => ?_)
  · have e18 : k = 18 := kEq (j := 18) c
    subst e18
    exact ⟨(by show 0 ≤ sizeLine; decide), fun D hD nD => q D _ (free g3 hD) nD (g3.trans fun c o hc => by rw [upd_ne (ne_of_none hc hD)]; exact hc) upd_same⟩
  have n18 : k ≠ 18 := kNe (j := 18) c
  exact ⟨_, rfl, one g3 (by unfold fldOf; rw [if_neg n7, if_neg n14, if_neg nk]) n10 n18⟩
end
end S
set_option Elab.async false
set_option linter.all false
set_option maxRecDepth 100000
namespace S
open PySem L2
inductive Th8 (b : Addr) (H : Hp) : V → Prop
  | lst {a : Addr} {n : Int} (h : H a = some (.lst [.int n])) (g : 0 ≤ n ∧ n < 10 ^ 20) (nb : a ≠ b) (ns : a ≠ sysModules) : Th8 b H (.ref a)
  | dct {a : Addr} {n : Int} (h : H a = some (.dK [(.inr "a", .int n)])) (g : 0 ≤ n ∧ n < 10 ^ 20) (nb : a ≠ b) : Th8 b H (.ref a)
  | tup {a : Addr} {n : Int} (h : H a = some (.tup [.int n, .non])) (g : 0 ≤ n ∧ n < 10 ^ 20) (nb : a ≠ b) : Th8 b H (.ref a)
  | non : Th8 b H .non
  | tru : Th8 b H (.bl true)
  | int {n : Int} (g : 0 ≤ n ∧ n < 10 ^ 20) : Th8 b H (.int n)
  | str : Th8 b H (.str "a b")
  | two {a c : Addr} (h : H a = some (.lst [.ref c])) (h' : H c = some (.lst [])) (nb : a ≠ b) (nc : c ≠ b) (ns : a ≠ sysModules) (nt : c ≠ sysModules) : Th8 b H (.ref a)
theorem Th8.away {b : Addr} {H H' : Hp} {v : V} (t : Th8 b H v) (g : Away b H H') : Th8 b H' v := by
  cases t with
  | lst h z nb ns => exact .lst (g _ _ h nb) z nb ns
  | dct h z nb => exact .dct (g _ _ h nb) z nb
  | tup h z nb => exact .tup (g _ _ h nb) z nb
  | non => exact .non
  | tru => exact .tru
  | int z => exact .int z
  | str => exact .str
  | two h h' nb nc ns nt => exact .two (g _ _ h nb) (g _ _ h' nc) nb nc ns nt
def spThings : Sp := fun vs H Q _ => ∃ b, vs = [.ref b] ∧ BoxAt H b ∧ ∀ D H' ts, H D = none → BoxAt H' b → Away b H H' → H' D = some (.lst ts) → ts.length = 8 → (∀ v ∈ ts, Th8 b H' v) → Q (.ref D) H'
section
variable {P : Program} {w : World} {K : PySem.W.Frag} {mg : Str → Option Value} {base : Heap}
theorem scThings : FnScope ["_law_box_here", "_law_number"] ["_law_box_here"] (defScope s_law_things) := ⟨rfl, rfl, rfl, by decide +kernel, rfl, by decide +kernel, by decide +kernel⟩
theorem ok_things {f a1 : Addr} {fd d1 : FuncData} (F : Fun K "_law_things" "_law_things" s_law_things f fd) (D1 : Def P w K mg base 1 "_law_take" ["_law_box_here", "_law_many"] spTake a1 d1) : FnOk P w K mg base CX0 2 f fd ["_law_box_here"] spThings := by
  refine F.ok scThings (fun vs H Q E h => ?_) (fun cdv A outer s H vs Q E hr h => ?_)
  · obtain ⟨b, rfl, _⟩ := h
    rfl
  obtain ⟨b, rfl, hb, q⟩ := h
  refine ⟨_, pss_cons (ps_set (i := 1) scThings.nd rfl (Or.inl rfl) (pe_call D1.ok hr rfl D1.m D1.k D1.b .nil pass0 (pa_cons (pv 0) (pa_cons (pe_op op_pow pe_int pe_int) pa_nil))))
    (pss_one (ps_ret (pe_lst (pa_cons (pe_lstN (pa_cons (pv 1) pa_nil)) (pa_cons (pe_disp (pps_cons pe_str (pv 1) pps_nil) rfl rfl (by simp) (by simp)) (pa_cons (pe_tup (pa_cons (pv 1) (pa_cons pe_non pa_nil))) (pa_cons pe_non (pa_cons pe_bl (pa_cons (pv 1) (pa_cons pe_str (pa_cons (pe_lstN (pa_cons (pe_lstN pa_nil) pa_nil)) pa_nil))))))))))), ?_⟩
  have s1 : (1 : Nat) ≤ sizeLine := by decide
  refine ⟨_, rfl, _, _, rfl, rfl, ⟨by decide, by decide, by decide⟩, b, _, rfl, (by show (0 : Int) < 10 ^ 20; decide), ⟨(by show (0 : Int) ≤ 10 ^ 20; decide), (by show (10 : Int) ^ 20 < 2 ^ 8000; exact Int.lt_of_lt_of_le (show (10 : Int) ^ 20 < 2 ^ 70 by decide) (by exact_mod_cast Nat.pow_le_pow_right (n := 2) (by decide) (show 70 ≤ 8000 by decide)))⟩, hb, fun n H1 n0 n1 b1 t1 => ?_⟩
  have n1 : n < 10 ^ 20 := n1
  have new : ∀ {H : Hp} {D : Addr} {o : HO}, H D = none → Same H (upd H D o) := fun hD c o hc => by rw [upd_ne (ne_of_none hc hD)]; exact hc
  refine ⟨_, rfl, s1, fun L1 hL1 nL1 => ?_⟩
  have g2 : Same H1 (upd H1 L1 (.lst [.int n])) := new hL1
  have d2 : (upd H1 L1 (.lst [.int n])) L1 = some (.lst [.int n]) := upd_same
  generalize upd H1 L1 (.lst [.int n]) = H2 at g2 d2 ⊢
  have b2 := b1.same g2
  intro Dd hDd
  refine ⟨_, rfl, upd_same, [(.inr "a", .int n)], rfl, (by show 1 ≤ 15; decide), ?_⟩
  rw [upd_upd]
  have m1 : mergeK [] [((.inr "a" : Key), V.int n)] = [(.inr "a", .int n)] := rfl
  rw [m1]
  have g3 : Same H2 (upd H2 Dd (.dK [(.inr "a", .int n)])) := new hDd
  have d3 : (upd H2 Dd (.dK [(.inr "a", .int n)])) Dd = some (.dK [(.inr "a", .int n)]) := upd_same
  generalize upd H2 Dd (.dK [(.inr "a", .int n)]) = H3 at g3 d3 ⊢
  have b3 := b2.same g3
  refine ⟨_, rfl, (by show 2 ≤ sizeLine; decide), fun T hT => ?_⟩
  have g4 : Same H3 (upd H3 T (.tup [.int n, .non])) := new hT
  have d4 : (upd H3 T (.tup [.int n, .non])) T = some (.tup [.int n, .non]) := upd_same
  generalize upd H3 T (.tup [.int n, .non]) = H4 at g4 d4 ⊢
  have b4 := b3.same g4
  refine ⟨_, rfl, (by show 0 ≤ sizeLine; decide), fun E' hE nE => ?_⟩
  have g5 : Same H4 (upd H4 E' (.lst [])) := new hE
  have d5 : (upd H4 E' (.lst [])) E' = some (.lst []) := upd_same
  generalize upd H4 E' (.lst []) = H5 at g5 d5 ⊢
  have b5 := b4.same g5
  refine ⟨s1, fun L2 hL2 nL2 => ?_⟩
  have g6 : Same H5 (upd H5 L2 (.lst [.ref E'])) := new hL2
  have d6 : (upd H5 L2 (.lst [.ref E'])) L2 = some (.lst [.ref E']) := upd_same
  generalize upd H5 L2 (.lst [.ref E']) = H6 at g6 d6 ⊢
  have b6 := b5.same g6
  refine ⟨(by show 8 ≤ sizeLine; decide), fun D hD => ?_⟩
  have g7 : Same H6 (upd H6 D (.lst [.ref L1, .ref Dd, .ref T, .non, .bl true, .int n, .str "a b", .ref L2])) := new hD
  have aw : Away b H1 (upd H6 D (.lst [.ref L1, .ref Dd, .ref T, .non, .bl true, .int n, .str "a b", .ref L2])) := away_of (g2.trans (g3.trans (g4.trans (g5.trans (g6.trans g7)))))
  have hn : H D = none := (t1.away.trans (away_of (g2.trans (g3.trans (g4.trans (g5.trans g6)))))).free b6 hD
  refine q D _ _ hn (b6.same g7) (t1.away.trans aw) upd_same rfl fun v hv => ?_
  have gn : 0 ≤ n ∧ n < 10 ^ 20 := ⟨n0, n1⟩
  simp only [List.mem_cons, List.not_mem_nil, or_false] at hv
  rcases hv with rfl | rfl | rfl | rfl | rfl | rfl | rfl | rfl
  · exact .lst ((g3.trans (g4.trans (g5.trans (g6.trans g7)))) _ _ d2) gn (b1.ne hL1).symm nL1
  · exact .dct ((g4.trans (g5.trans (g6.trans g7))) _ _ d3) gn (b2.ne hDd).symm
  · exact .tup ((g5.trans (g6.trans g7)) _ _ d4) gn (b3.ne hT).symm
  · exact .non
  · exact .tru
  · exact .int gn
  · exact .str
  · exact .two (g7 _ _ d6) ((g6.trans g7) _ _ d5) (b5.ne hL2).symm (b4.ne hE).symm nL2 nE
end
end S
set_option Elab.async false
set_option linter.all false
set_option maxRecDepth 100000
namespace S
open PySem L2
theorem MadeAt.put {H : Hp} {e C a : Addr} {k : Nat} {x y : V} {zs zs' : List V} (m : MadeAt H e C k x y) (h : H a = some (.lst zs)) : MadeAt (upd H a (.lst zs')) e C k x y := by
  have nn : ∀ c o, H c = some o → (∀ xs, o ≠ .lst xs) → upd H a (.lst zs') c = some o := fun c o hc n => by
    rw [upd_ne fun z => by rw [z, h] at hc; cases hc; exact n _ rfl]
    exact hc
  cases m with
  | one n1 n2 h d => exact .one n1 n2 (nn _ _ h fun _ z => nomatch z) (nn _ _ d fun _ z => nomatch z)
  | two n h d => exact .two n (nn _ _ h fun _ z => nomatch z) (nn _ _ d fun _ z => nomatch z)
  | none n h => exact .none n (nn _ _ h fun _ z => nomatch z)
theorem rNe_same {K : PySem.W.Frag} {x y : V} {d : PyData} {H : Hp} {Q : VK} (h1 : DV K H x d) (h2 : DV K H y d) (hl : d.canLay0 = true) (hd : d.depth ≤ 100) (h : Q (.bl false) H) : rEqD K true x y H Q := ⟨d, d, h1, h2, hl, hl, hd, by rw [PySem.SeqAt.eqv_refl d hl]; exact h⟩
theorem cut_due {x y : V} : ∀ i : Nat, cutV [x, y] none (some ((2 - if (!decide (V.int (0 + (i : Int)) = V.int 10)) = true then 1 else 0) - if decide (V.int (0 + (i : Int)) = V.int 18) = true then 1 else 0)) = dueF i x y := fun i => by
  have e1 : decide (V.int (0 + (i : Int)) = V.int 10) = decide (i = 10) := by
    rw [Int.zero_add, Bool.eq_iff_iff, decide_eq_true_eq, decide_eq_true_eq]
    exact ⟨fun h => by injection h with h; omega, fun h => by rw [h]; rfl⟩
  have e2 : decide (V.int (0 + (i : Int)) = V.int 18) = decide (i = 18) := by
    rw [Int.zero_add, Bool.eq_iff_iff, decide_eq_true_eq, decide_eq_true_eq]
    exact ⟨fun h => by injection h with h; omega, fun h => by rw [h]; rfl⟩
  rw [e1, e2]
  unfold dueF
  by_cases a : i = 10
  · subst a; rfl
  · by_cases b : i = 18
    · subst b; rfl
    · rw [decide_eq_false a, decide_eq_false b, if_neg a, if_neg b]; rfl
theorem due_data {K : PySem.W.Frag} {H : Hp} {t o u : Addr} {n : Int} (ct : H t = some (.lst [.int n, .int 5])) (co : H o = some (.lst [.ref u])) (cu : H u = some (.lst [.int n, .int 6])) (i : Nat) : ∃ ds, DVs K H (dueF i (.ref t) (.ref o)) ds ∧ (PyData.list ds).canLay0 = true ∧ (PyData.list ds).depth ≤ 100 := by
  have dt : DV K H (.ref t) (.list [.int n, .int 5]) := .lst (SqL.of ct) (.cons (.int n) (.cons (.int 5) .nil))
  have dO : DV K H (.ref o) (.list [.list [.int n, .int 6]]) := .lst (SqL.of co) (.cons (.lst (SqL.of cu) (.cons (.int n) (.cons (.int 6) .nil))) .nil)
  unfold dueF
  split
  · exact ⟨_, .cons dt (.cons dO .nil), rfl, by simp only [PyData.depth, PyData.depthAll]; omega⟩
  · split
    · exact ⟨_, .nil, rfl, by simp only [PyData.depth, PyData.depthAll]; omega⟩
    · exact ⟨_, .cons dt .nil, rfl, by simp only [PyData.depth, PyData.depthAll]; omega⟩
def spKept : Sp := fun vs H Q _ => ∃ n : Int, vs = [.int n] ∧ ∀ H', Same H H' → Q (.bl true) H'
section
variable {P : Program} {w : World} {K : PySem.W.Frag} {mg : Str → Option Value} {base : Heap} {Cs : Nat → Addr} {bm : List Value}
theorem scKept : FnScope ["_law_number", "_law_k", "_law_thing", "_law_other", "_law_error_here", "_law_due"] ["_law_number"] (defScope s_law_kept_right) := ⟨rfl, rfl, rfl, by decide +kernel, rfl, by decide +kernel, by decide +kernel⟩
set_option maxHeartbeats 2000000 in
theorem ok_kept {f a1 a2 : Addr} {fd d1 d2 : FuncData} (F : Fun K "_law_kept_right" "_law_kept_right" s_law_kept_right f fd) (mr : mg "range" = none) (mi : mg "int" = none)
    (D1 : Def P w K mg base 5 "_law_error" ["_law_k", "_law_thing", "_law_other"] (spErrK Cs 0 20) a1 d1) (D2 : Def P w K mg base 1 "_law_fields" ["_law_k", "_law_error_here"] (spFields Cs) a2 d2) : FnOk P w K mg base CX0 6 f fd ["_law_number"] spKept := by
  refine F.ok scKept (fun vs H Q E h => ?_) (fun cdv A outer s H vs Q E hr h => ?_)
  · obtain ⟨n, rfl, _⟩ := h
    rfl
  obtain ⟨n, rfl, q⟩ := h
  have hr1 : Room 1 _ := hr.mono (by decide)
  refine ⟨_, pss_cons (ps_for PassesOwn.never rfl (pi_range1 rfl mr (pa_cons pe_int pa_nil)) (pg_name (i := 1) scKept.nd rfl (Or.inl rfl))
      (pss_cons (ps_set (i := 2) scKept.nd rfl (Or.inl rfl) (pe_lst (pa_cons (pv 0) pa_nil)))
      (pss_cons (ps_set (i := 3) scKept.nd rfl (Or.inl rfl) (pe_lst (pa_cons (pe_lst (pa_cons (pv 0) pa_nil)) pa_nil)))
      (pss_cons (ps_set (i := 4) scKept.nd rfl (Or.inl rfl) (pe_call D1.ok hr rfl D1.m D1.k D1.b .nil pass0 (pa_cons (pv 1) (pa_cons (pv 2) (pa_cons (pv 3) pa_nil)))))
      (pss_cons (ps_expr (pe_bm PySem.F.plainAttrs_list PySem.F.slot_list_append PySem.F.type_list_append mt_append (pv 2) (pa_cons pe_int pa_nil)))
      (pss_cons (ps_expr (pe_bm PySem.F.plainAttrs_list PySem.F.slot_list_append PySem.F.type_list_append mt_append (pe_ix ix_list (pv 3) pe_int (fun _ _ => rfl)) (pa_cons pe_int pa_nil)))
      (pss_cons (ps_set (i := 5) scKept.nd rfl (Or.inl rfl) (pe_slice sl_list (pe_lst (pa_cons (pv 2) (pa_cons (pv 3) pa_nil))) po_none (po_some (pe_op op_sub (pe_op op_sub pe_int (pe_callTy call_int1 rfl mi PyProof.Rows.boot_int (pa_cons (pe_cmpR op_ne (pv 1) pe_int (nomark _)) pa_nil))) (pe_callTy call_int1 rfl mi PyProof.Rows.boot_int (pa_cons (pe_cmpR op_eq (pv 1) pe_int (nomark _)) pa_nil))))))
      (pss_one (ps_if (pt_cmpR (op_neD hr) (pe_call D2.ok hr1 rfl D2.m D2.k D2.b .nil pass0 (pa_cons (pv 1) (pa_cons (pv 4) pa_nil))) (pv 5) (nomark _)) (pss_one (ps_ret pe_bl)) pss_nil)))))))))
    (pss_one (ps_ret pe_bl)), ?_⟩
  have s1 : (1 : Nat) ≤ sizeLine := by decide
  have new : ∀ {H : Hp} {D : Addr} {o : HO}, H D = none → Same H (upd H D o) := fun hD c o hc => by rw [upd_ne (ne_of_none hc hD)]; exact hc
  refine ⟨21, rfl, by decide, by decide, ?_⟩
  refine for_range (lo := 0) (fun i σ H' => Same H H' ∧ ∃ v1 v2 v3 v4 v5, σ = [some (.int n), v1, v2, v3, v4, v5]) ⟨Same.refl _, _, _, _, _, _, rfl⟩ (fun i σ H1 hi hP => ?_) (fun σ H1 hP => ?_)
  · obtain ⟨gg, v1, v2, v3, v4, v5, rfl⟩ := hP
    have hi : i < 21 := hi
    refine ⟨_, rfl, s1, fun t ht => ?_⟩
    have g2 : Same H1 (upd H1 t (.lst [.int n])) := new ht
    have d2 : (upd H1 t (.lst [.int n])) t = some (.lst [.int n]) := upd_same
    have fr2 := ht
    generalize upd H1 t (.lst [.int n]) = H2 at g2 d2 ⊢
    refine ⟨_, rfl, s1, fun u hu => ?_⟩
    have g3 : Same H2 (upd H2 u (.lst [.int n])) := new hu
    have d3 : (upd H2 u (.lst [.int n])) u = some (.lst [.int n]) := upd_same
    have ntu : t ≠ u := ne_of_none d2 hu
    generalize upd H2 u (.lst [.int n]) = H3 at g3 d3 ⊢
    refine ⟨s1, fun o ho => ?_⟩
    have g4 : Same H3 (upd H3 o (.lst [.ref u])) := new ho
    have d4 : (upd H3 o (.lst [.ref u])) o = some (.lst [.ref u]) := upd_same
    have nto : t ≠ o := ne_of_none (g3 _ _ d2) ho
    have nuo : u ≠ o := ne_of_none d3 ho
    generalize upd H3 o (.lst [.ref u]) = H4 at g4 d4 ⊢
    refine ⟨_, rfl, _, rfl, _, rfl, i, .ref t, .ref o, (by show [V.int (0 + (i : Int)), _, _] = _; rw [Int.zero_add]), by omega, by omega, fun e H5 he g5 hM => ?_⟩
    have ct := (g3.trans (g4.trans g5)) _ _ d2
    have cu := (g4.trans g5) _ _ d3
    have co := g5 _ _ d4
    refine ⟨_, rfl, .inl ⟨rfl, _, SqL.of ct⟩, t, _, _, rfl, rfl, ct, (by show 1 < sizeLine; decide), ?_⟩
    have hM6 := hM.put (zs' := [.int n, .int 5]) ct
    have k6 : ∀ c o', H1 c = some o' → upd H5 t (.lst [.int n, .int 5]) c = some o' := fun c o' hc => by rw [upd_ne (ne_of_none hc ht)]; exact (g2.trans (g3.trans (g4.trans g5))) _ _ hc
    have ct6 : (upd H5 t (.lst [.int n, .int 5])) t = some (.lst [.int n, .int 5]) := upd_same
    have cu6 : (upd H5 t (.lst [.int n, .int 5])) u = some (.lst [.int n]) := by rw [upd_ne ntu.symm]; exact cu
    have co6 : (upd H5 t (.lst [.int n, .int 5])) o = some (.lst [.ref u]) := by rw [upd_ne nto.symm]; exact co
    show tSeq _ _ _ _ (upd H5 t (.lst [.int n, .int 5]))
    generalize upd H5 t (.lst [.int n, .int 5]) = H6 at hM6 k6 ct6 cu6 co6 ⊢
    refine ⟨_, rfl, o, _, _, _, rfl, rfl, SqL.of co6, rfl, .inl ⟨rfl, _, SqL.of cu6⟩, u, _, _, rfl, rfl, cu6, (by show 1 < sizeLine; decide), ?_⟩
    have hM7 := hM6.put (zs' := [.int n, .int 6]) cu6
    have k7 : Same H1 (upd H6 u (.lst [.int n, .int 6])) := fun c o' hc => by rw [upd_ne (ne_of_none (g2 _ _ hc) hu)]; exact k6 c o' hc
    have ct7 : (upd H6 u (.lst [.int n, .int 6])) t = some (.lst [.int n, .int 5]) := by rw [upd_ne ntu]; exact ct6
    have cu7 : (upd H6 u (.lst [.int n, .int 6])) u = some (.lst [.int n, .int 6]) := upd_same
    have co7 : (upd H6 u (.lst [.int n, .int 6])) o = some (.lst [.ref u]) := by rw [upd_ne nuo.symm]; exact co6
    show tSeq _ _ _ _ (upd H6 u (.lst [.int n, .int 6]))
    generalize upd H6 u (.lst [.int n, .int 6]) = H7 at hM7 k7 ct7 cu7 co7 ⊢
    refine ⟨_, rfl, _, rfl, (by show 2 ≤ sizeLine; decide), fun L hL => ?_⟩
    have g8 : Same H7 (upd H7 L (.lst [.ref t, .ref o])) := new hL
    have d8 : (upd H7 L (.lst [.ref t, .ref o])) L = some (.lst [.ref t, .ref o]) := upd_same
    generalize upd H7 L (.lst [.ref t, .ref o]) = H8 at g8 d8 ⊢
    refine ⟨_, rfl, rfl, .inr ⟨_, rfl, _, _, rfl, rfl, _, rfl, rfl, .inr ⟨_, rfl, _, _, rfl, rfl, _, rfl, L, _, rfl, SqL.of d8, fun Du hDu => ?_⟩⟩⟩
    rw [cut_due]
    have g9 : Same H8 (upd H8 Du (.lst (dueF i (.ref t) (.ref o)))) := new hDu
    have d9 : (upd H8 Du (.lst (dueF i (.ref t) (.ref o)))) Du = some (.lst (dueF i (.ref t) (.ref o))) := upd_same
    generalize upd H8 Du (.lst (dueF i (.ref t) (.ref o))) = H9 at g9 d9 ⊢
    have g79 := g8.trans g9
    refine ⟨_, rfl, _, rfl, e, i, .ref t, .ref o, (by show [V.int (0 + (i : Int)), _] = _; rw [Int.zero_add]), by omega, hM7.same g79, fun D H10 hD nD g10 d10 => ?_⟩
    have g7a := g79.trans g10
    obtain ⟨ds, dv, hl, hdp⟩ := due_data (K := K) (g7a _ _ ct7) (g7a _ _ co7) (g7a _ _ cu7) i
    refine ⟨_, rfl, rNe_same (d := .list ds) (.lst (SqL.of d10) dv) (.lst (SqL.of (g10 _ _ d9)) dv) hl hdp ⟨_, rfl, iteF ?_⟩⟩
    exact ⟨gg.trans (k7.trans g7a), _, _, _, _, _, rfl⟩
  · obtain ⟨gg, v1, v2, v3, v4, v5, rfl⟩ := hP
    exact q H1 gg
end
end S
set_option Elab.async false
set_option linter.all false
set_option maxRecDepth 100000
namespace L2
open PySem PySem.Spec PyProof.Rows
section
variable {X : Cx}
end
end L2
set_option Elab.async false
set_option linter.all false
set_option maxRecDepth 100000
namespace L2
open PySem PySem.Spec PyProof.Rows
def keyW : Key → PyData
  | .inl i => .int i
  | .inr x => .str x
mutual
inductive DW (K : PySem.W.Frag) (H : Hp) : V → PyData → Prop
  | non : DW K H .non .none
  | bl (b : Bool) : DW K H (.bl b) (.bool b)
  | int (i : Int) : DW K H (.int i) (.int i)
  | str (x : Str) : DW K H (.str x) (.str x)
  | lst {a : Addr} {xs : List V} {ds : List PyData} : SqL K H a xs → a ≠ sysModules → DWs K H xs ds → DW K H (.ref a) (.list ds)
  | tup {a : Addr} {xs : List V} {ds : List PyData} : SqT K H a xs → DWs K H xs ds → DW K H (.ref a) (.tuple ds)
  | dct {a : Addr} {kvs : List (Key × V)} {ds : List PyData} : H a = some (.dK kvs) → DWs K H (kvs.map (·.2)) ds → DW K H (.ref a) (.dict ((kvs.map fun p => keyW p.1).zip ds))
inductive DWs (K : PySem.W.Frag) (H : Hp) : List V → List PyData → Prop
  | nil : DWs K H [] []
  | cons {x : V} {xs : List V} {d : PyData} {ds : List PyData} : DW K H x d → DWs K H xs ds → DWs K H (x :: xs) (d :: ds)
end
theorem DWs.len {K : PySem.W.Frag} {H : Hp} : ∀ {xs : List V} {ds : List PyData}, DWs K H xs ds → xs.length = ds.length
  | _, _, .nil => rfl
  | _, _, .cons _ t => congrArg (· + 1) t.len
section
variable {X : Cx} {pins : List (Addr × Obj)} {σ : St} {H : Hp} {s : Shared}
theorem vals_kv : ∀ {kvs : List (Key × V)} {vs : List (Key × Value)}, KV kvs vs → Vals (kvs.map (·.2)) (vs.map (·.2))
  | _, _, .nil => .nil
  | _, _, .cons r t => .cons r.2 (vals_kv t)
theorem pairs_vals {P : Program} {w : World} : ∀ {es : List DictEntry} {vs : List (Key × Value)}, Pairs (mixKind P w) es vs → es.map (·.val) = vs.map (·.2)
  | _, _, .nil => rfl
  | _, _, .cons _ e t => by rw [List.map_cons, List.map_cons, e, pairs_vals t]
theorem key_reads {P : Program} {w : World} {h : Heap} {k : Key} {v : Value} (e : (mixKind P w).is k v = true) : Reads h v (keyW k) [] := by
  rw [mixKind_is] at e
  rcases keyIs_shape e with ⟨i, t, rfl, rfl⟩ | ⟨x, t, rfl, rfl⟩
  · exact .int i t
  · exact .str x t
theorem pairs_keys {P : Program} {w : World} {h : Heap} : ∀ {es : List DictEntry} {kvs : List (Key × V)} {vs : List (Key × Value)}, Pairs (mixKind P w) es vs → KV kvs vs → ReadsAll h (es.map (·.key)) (kvs.map fun p => keyW p.1) []
  | _, _, _, .nil, .nil => .nil
  | _, _, _, .cons a _ t, .cons r u => by
    have q := key_reads (h := h) a
    rw [← r.1] at q
    exact .cons q (pairs_keys t u)
mutual
theorem DW.reads (I : Inv X pins σ H s) : ∀ {v : V} {d : PyData} {u : Value}, DW X.K H v d → RelV v u → ∃ as, Reads s.heap u d as ∧ sysModules ∉ as
  | _, _, _, .non, r => by cases r; exact ⟨_, .none, by simp⟩
  | _, _, _, .bl b, r => by cases r; exact ⟨_, .bool b, by simp⟩
  | _, _, _, .int i, r => by obtain ⟨t, rfl⟩ := r; exact ⟨_, .int i t, by simp⟩
  | _, _, _, .str x, r => by obtain ⟨t, rfl⟩ := r; exact ⟨_, .str x t, by simp⟩
  | _, _, _, .lst hq ne hs, r => by
    cases r
    obtain ⟨its, rv, ⟨o, n, e, c, _, d⟩, _⟩ := I.list hq
    obtain ⟨as, q, z⟩ := DWs.reads I hs rv
    exact ⟨_, .list e c d (by simpa using q), fun m => by
      rcases List.mem_cons.mp m with m | m
      · exact ne m.symm
      · exact z m⟩
  | _, _, _, .tup hq hs, r => by
    cases r
    obtain ⟨its, rv, p, _⟩ := I.tuple hq
    obtain ⟨as, q, z⟩ := DWs.reads I hs rv
    obtain ⟨o, e, c, n, d⟩ := p
    exact ⟨_, .tuple e c d (by simpa using q), z⟩
  | _, _, _, @DW.dct _ _ a kvs ds hq hs, r => by
    cases r
    obtain ⟨_, ne, vs, kv, o, es, ep, e, ex, dd, _, ps, _⟩ := I.hok _ _ hq
    obtain ⟨as, q, z⟩ := DWs.reads I hs (vals_kv kv)
    have hl : ds.length = kvs.length := by have := hs.len; rw [List.length_map] at this; exact this.symm
    rw [← pairs_vals ps] at q
    have e1 : ((kvs.map fun p => keyW p.1).zip ds).map (·.1) = kvs.map fun p => keyW p.1 := List.map_fst_zip (by rw [List.length_map]; omega)
    have e2 : ((kvs.map fun p => keyW p.1).zip ds).map (·.2) = ds := List.map_snd_zip (by rw [List.length_map]; omega)
    refine ⟨_, .dict e ex.1 dd (by rw [e1]; exact pairs_keys ps kv) (by rw [e2]; exact q), fun m => ?_⟩
    rcases List.mem_append.mp m with m | m
    · rcases List.mem_cons.mp m with m | m
      · rw [← m] at ne; simp at ne
      · cases m
    · exact z m
theorem DWs.reads (I : Inv X pins σ H s) : ∀ {vs : List V} {ds : List PyData} {us : List Value}, DWs X.K H vs ds → Vals vs us → ∃ as, ReadsAll s.heap us ds as ∧ sysModules ∉ as
  | _, _, _, .nil, .nil => ⟨_, .nil, by simp⟩
  | _, _, _, .cons h t, .cons r rs => by
    obtain ⟨as, q, z⟩ := DW.reads I h r
    obtain ⟨bs, q', z'⟩ := DWs.reads I t rs
    exact ⟨_, .cons q q', fun m => (List.mem_append.mp m).elim z z'⟩
end
end
section
variable {X : Cx} {k : Nat}
def rReprD (K : PySem.W.Frag) : List V → Hp → VK → Prop := fun xs H Q => ∃ x d, xs = [x] ∧ DW K H x d ∧ d.showable = true ∧ d.depth ≤ 100 ∧ d.shown.length ≤ sizeLine ∧ Q (.str d.shown) H
theorem call_reprD (hr : Room k X.A) : CallR X (.builtin "repr") (rReprD X.K) := by
  intro pins s σ H xs us Q I r h
  obtain ⟨x, d, rfl, hd, h1, h3, h4, q⟩ := h
  obtain ⟨u, rfl, ru⟩ := vals1 r
  obtain ⟨as, rd, z⟩ := hd.reads I ru
  have fin : ∀ t : Tok, ∀ tk, EP X pins σ Q (.str d.shown t) { s with toks := tk } := fun t tk => ⟨.str d.shown, H, I.tok _, ⟨_, rfl⟩, q⟩
  cases hd with
  | non => cases ru; exact PySem.P.repr_of_none (fin _ _)
  | bl b =>
    cases ru
    refine PySem.P.repr_of_bool ?_
    have e : (PyData.bool b).shown = (if b then "True" else "False" : Str) := PyData.shown_bool b
    rw [e] at fin
    cases b <;> exact fin _ _
  | int i => obtain ⟨t, rfl⟩ := ru; exact PySem.P.repr_of_int (by simpa [PyData.showable] using h1) (by have := fin s.toks (s.toks + 1); rw [PyData.shown_int] at this; exact this)
  | str y => obtain ⟨t, rfl⟩ := ru; exact PySem.P.repr_of_str (by have := fin s.toks (s.toks + 1); rw [PyData.shown_str] at this; exact this) (by rw [PyData.shown_str] at h4; exact h4)
  | @lst a xs ds hq _ hs =>
    cases ru
    exact repr_of_reads' rd h1 (fun _ => z) hr.gd (by have := hr.un; omega) (fun _ _ e => e) (fun h' u tk hk => ⟨.str _, H, I.kept (t' := tk) hk, ⟨_, rfl⟩, q⟩) h4
  | @tup a xs ds hq hs =>
    cases ru
    exact repr_of_reads' rd h1 (fun _ => z) hr.gd (by have := hr.un; omega) (fun _ _ e => e) (fun h' u tk hk => ⟨.str _, H, I.kept (t' := tk) hk, ⟨_, rfl⟩, q⟩) h4
  | @dct a kvs ds hq hs =>
    cases ru
    exact repr_of_reads' rd h1 (fun _ => z) hr.gd (by have := hr.un; omega) (fun _ _ e => e) (fun h' u tk hk => ⟨.str _, H, I.kept (t' := tk) hk, ⟨_, rfl⟩, q⟩) h4
end
end L2
set_option Elab.async false
set_option linter.all false
set_option maxRecDepth 100000
namespace L2
open PySem PySem.Spec PyProof.Rows
theorem vals_take : ∀ {xs : List V} {us : List Value}, Vals xs us → ∀ n, Vals (xs.take n) (us.take n)
  | _, _, .nil, n => by rw [List.take_nil, List.take_nil]; exact .nil
  | _, _, .cons r t, 0 => .nil
  | _, _, .cons r t, n + 1 => .cons r (vals_take t n)
theorem vals_drop : ∀ {xs : List V} {us : List Value}, Vals xs us → ∀ n, Vals (xs.drop n) (us.drop n)
  | _, _, .nil, n => by rw [List.drop_nil, List.drop_nil]; exact .nil
  | _, _, .cons r t, 0 => .cons r t
  | _, _, .cons r t, n + 1 => vals_drop t n
def insV (xs : List V) (k : Nat) (y : V) : List V := xs.take k ++ y :: xs.drop k
theorem insV_len (xs : List V) (k : Nat) (y : V) : (insV xs k y).length = xs.length + 1 := by
  unfold insV
  rw [List.length_append, List.length_cons, List.length_take, List.length_drop]
  omega
theorem insV_mem {xs : List V} {k : Nat} {y v : V} (h : v ∈ insV xs k y) : v = y ∨ v ∈ xs := by
  unfold insV at h
  rcases List.mem_append.mp h with h | h
  · exact .inr (List.mem_of_mem_take h)
  · rcases List.mem_cons.mp h with h | h
    · exact .inl h
    · exact .inr (List.mem_of_mem_drop h)
section
variable {X : Cx} {k : Nat}
def rInsert : V → List V → Hp → VK → Prop := fun x vs H Q => ∃ l xs i y, x = .ref l ∧ vs = [.int i, y] ∧ H l = some (.lst xs) ∧ 0 ≤ i ∧ i ≤ (xs.length : Int) ∧ xs.length ≤ 1000 ∧ Q .non (upd H l (.lst (insV xs i.toNat y)))
theorem mt_insert : MtM X "list.insert" rInsert := by
  intro pins s σ H x vs v us Q I rx rv h
  obtain ⟨l, xs, i, y, rfl, rfl, hH, i0, i1, h1, q⟩ := h
  cases rx
  cases rv with
  | cons ru rv =>
    cases rv with
    | cons rw' rv =>
      cases rv
      obtain ⟨t, rfl⟩ := ru
      obtain ⟨z, its, n, r, hl, e⟩ := I.lstM hH
      have fi : ¬ (!Builtin.List.listFitsIndex i) = true := by
        have := fitsIndex_both (k := i) (by omega) (by omega)
        rw [this]; simp
      refine call_meets PySem.F.slot_list_insert ⟨_, e, rfl⟩ PySem.F.entry_list_insert (PySem.F.args_list_insert_3 _ _ _) (AutoSeq1.list_insert_list_int_val_1 l its.toArray n i t _ fi (by rw [List.size_toArray]; have : 1000 < sizeLine := by decide
                                                                                                                                                                                            omega)) ⟨e, ?_⟩
      refine ⟨.non, _, I.lset (its' := its.take i.toNat ++ _ :: its.drop i.toNat) hH e ?_ ((vals_take r i.toNat).append (.cons rw' (vals_drop r i.toNat))) ?_, rfl, q⟩
      · have hk : (if i < 0 then (i + ((its.toArray).size : Int)).toNat else min i.toNat its.toArray.size) = i.toNat := by
          rw [if_neg (by omega), List.size_toArray]
          omega
        show ((its.toArray.extract 0 (if i < 0 then (i + ((its.toArray).size : Int)).toNat else min i.toNat its.toArray.size)).push _ ++ its.toArray.extract (if i < 0 then (i + ((its.toArray).size : Int)).toNat else min i.toNat its.toArray.size)) = _
        rw [hk]
        apply Array.toList_inj.mp
        simp [List.take_of_length_le]
      · have := insV_len xs i.toNat y
        unfold insV at this
        rw [this]
        have : 10000 < sizeLine := by decide
        omega
inductive RX (K : PySem.W.Frag) (xs : List V) (H : Hp) (Q : VK) : Prop
  | mk (h : rRepr K xs H Q ∨ rReprD K xs H Q)
theorem call_reprX (hr : Room k X.A) : CallR X (.builtin "repr") (RX X.K) := by
  intro pins s σ H xs us Q I r h
  cases h with
  | mk h =>
    rcases h with h | h
    · exact call_repr hr pins s σ H xs us Q I r h
    · exact call_reprD hr pins s σ H xs us Q I r h
inductive RN (K : PySem.W.Frag) (x y : V) (H : Hp) (Q : VK) : Prop
  | flat (h : rIn K true x y H Q)
  | big (p : Addr) (zs : List Str) (d : PyData) (ey : y = .ref p) (hq : SqL K H p (zs.map V.str)) (hz : ∀ z ∈ zs, PyData.strOk z = true) (hd : DV K H x d ∨ DW K H x d) (hl : d.canLay0 = true) (hn : ∀ z, PyData.eqv (.str z) d = false) (q : Q (.bl true) H)
  | dct (p a : Addr) (zs : List Str) (kvs : List (Key × V)) (ey : y = .ref p) (ex : x = .ref a) (hq : SqL K H p (zs.map V.str)) (hd : H a = some (.dK kvs)) (q : Q (.bl true) H)
end
end L2
set_option Elab.async false
set_option linter.all false
set_option maxRecDepth 100000
namespace L2
open PySem PySem.Spec PyProof.Rows
section
variable {X : Cx}
def rSlN (K : PySem.W.Frag) : V → Option Int → Option Int → Hp → VK → Prop := fun x lo hi H Q => ∃ a xs, x = .ref a ∧ SqL K H a xs ∧ ∀ p, H p = none → p ≠ sysModules → Q (.ref p) (upd H p (.lst (cutV xs lo hi)))
theorem sl_listN : SlR X (rSlN X.K) := by
  intro pins s σ H x v vl vu lo hi sl Q I rx hs pl pu h
  obtain ⟨a, xs, rfl, hx, q⟩ := h
  cases rx
  obtain ⟨its, r, ht, hz⟩ := I.list hx
  have hlen := r.length
  refine ⟨"list", _, slot_list_getitem.lookup, ht.isList.typeIs, ?_⟩
  refine wpAny_getItem_list_slice ht.isList hs pl pu .none (by simp) ?_ (by rw [List.size_toArray] <;> omega)
  rw [slicePick_cut, ← hlen]
  refine ⟨.ref s.heap.objs.size, _, I.laid (t' := s.toks) (o := .lst (cutV xs lo hi)) (fun b ob q => Heap.get?_push_of_some _ q) (Nat.le_refl _) ?_, rfl, q _ (I.hok.fresh (Nat.le_refl _)) (Nat.ne_of_gt I.big)⟩
  exact ⟨Nat.le_trans (cutV_length xs lo hi) hz, _, 0, (r.drop (HT.sIx xs.length 0 lo)).take (HT.sIx xs.length xs.length hi - HT.sIx xs.length 0 lo), Heap.get?_push_size _ rfl⟩
end
end L2
namespace S
open PySem L2
def Th (H : Hp) (x : V) : Prop := match x with
  | .non => True
  | .bl _ => True
  | .int _ => True
  | .str z => z.length ≤ 100000
  | .ref a => (∃ xs, H a = some (.lst xs)) ∨ (∃ xs, H a = some (.tup xs)) ∨ ∃ kvs, H a = some (.dK kvs)
  | _ => False
theorem Th.same {H H' : Hp} {x : V} (g : Same H H') (h : Th H x) : Th H' x := by
  cases x with
  | ref a =>
    rcases h with ⟨xs, h⟩ | ⟨xs, h⟩ | ⟨kvs, h⟩
    · exact .inl ⟨xs, g _ _ h⟩
    · exact .inr (.inl ⟨xs, g _ _ h⟩)
    · exact .inr (.inr ⟨kvs, g _ _ h⟩)
  | _ => exact h
structure KitS (K : PySem.W.Frag) : Prop where
  i_non : PySem.W.kitOne K (.type "NoneType") (.type "int") = some false
  i_bool : PySem.W.kitOne K (.type "bool") (.type "int") = some true
  i_str : PySem.W.kitOne K (.type "str") (.type "int") = some false
  i_list : PySem.W.kitOne K (.type "list") (.type "int") = some false
  i_tup : PySem.W.kitOne K (.type "tuple") (.type "int") = some false
  i_dict : PySem.W.kitOne K (.type "dict") (.type "int") = some false
  b_non : PySem.W.kitOne K (.type "NoneType") (.type "bool") = some false
  b_int : PySem.W.kitOne K (.type "int") (.type "bool") = some false
  b_str : PySem.W.kitOne K (.type "str") (.type "bool") = some false
  b_list : PySem.W.kitOne K (.type "list") (.type "bool") = some false
  b_tup : PySem.W.kitOne K (.type "tuple") (.type "bool") = some false
  b_dict : PySem.W.kitOne K (.type "dict") (.type "bool") = some false
  t_non : PySem.W.kitOne K (.type "NoneType") (.type "tuple") = some false
  t_bool : PySem.W.kitOne K (.type "bool") (.type "tuple") = some false
  t_int : PySem.W.kitOne K (.type "int") (.type "tuple") = some false
  t_str : PySem.W.kitOne K (.type "str") (.type "tuple") = some false
  t_list : PySem.W.kitOne K (.type "list") (.type "tuple") = some false
  t_dict : PySem.W.kitOne K (.type "dict") (.type "tuple") = some false
  l_non : PySem.W.kitOne K (.type "NoneType") (.type "list") = some false
  l_bool : PySem.W.kitOne K (.type "bool") (.type "list") = some false
  l_int : PySem.W.kitOne K (.type "int") (.type "list") = some false
  l_str : PySem.W.kitOne K (.type "str") (.type "list") = some false
  l_tup : PySem.W.kitOne K (.type "tuple") (.type "list") = some false
  l_dict : PySem.W.kitOne K (.type "dict") (.type "list") = some false
def intB : V → Bool
  | .int _ => true
  | .bl _ => true
  | _ => false
def boolB : V → Bool
  | .bl _ => true
  | _ => false
def wholeB : V → Bool
  | .int _ => true
  | _ => false
theorem kit_int {K : PySem.W.Frag} (k : KitS K) {H : Hp} {x : V} (h : Th H x) : ∃ t, TyOf K H x t ∧ PySem.W.kitOne K t (.type "int") = some (intB x) := by
  cases x with
  | non => exact ⟨_, .non, k.i_non⟩
  | bl b => exact ⟨_, .bl b, k.i_bool⟩
  | int i => exact ⟨_, .int i, rfl⟩
  | str z => exact ⟨_, .str z, k.i_str⟩
  | ref a =>
    rcases h with ⟨xs, h⟩ | ⟨xs, h⟩ | ⟨kvs, h⟩
    · exact ⟨_, .lst h, k.i_list⟩
    · exact ⟨_, .tup h, k.i_tup⟩
    · exact ⟨_, .dK h, k.i_dict⟩
  | _ => exact h.elim
theorem kit_bool {K : PySem.W.Frag} (k : KitS K) {H : Hp} {x : V} (h : Th H x) : ∃ t, TyOf K H x t ∧ PySem.W.kitOne K t (.type "bool") = some (boolB x) := by
  cases x with
  | non => exact ⟨_, .non, k.b_non⟩
  | bl b => exact ⟨_, .bl b, rfl⟩
  | int i => exact ⟨_, .int i, k.b_int⟩
  | str z => exact ⟨_, .str z, k.b_str⟩
  | ref a =>
    rcases h with ⟨xs, h⟩ | ⟨xs, h⟩ | ⟨kvs, h⟩
    · exact ⟨_, .lst h, k.b_list⟩
    · exact ⟨_, .tup h, k.b_tup⟩
    · exact ⟨_, .dK h, k.b_dict⟩
  | _ => exact h.elim
def NoTup (H : Hp) (x : V) : Prop := ∀ a xs, x = .ref a → H a ≠ some (.tup xs)
theorem kit_tup {K : PySem.W.Frag} (k : KitS K) {H : Hp} {x : V} (h : Th H x) (n : NoTup H x) : ∃ t, TyOf K H x t ∧ PySem.W.kitOne K t (.type "tuple") = some false := by
  cases x with
  | non => exact ⟨_, .non, k.t_non⟩
  | bl b => exact ⟨_, .bl b, k.t_bool⟩
  | int i => exact ⟨_, .int i, k.t_int⟩
  | str z => exact ⟨_, .str z, k.t_str⟩
  | ref a =>
    rcases h with ⟨xs, h⟩ | ⟨xs, h⟩ | ⟨kvs, h⟩
    · exact ⟨_, .lst h, k.t_list⟩
    · exact absurd h (n a xs rfl)
    · exact ⟨_, .dK h, k.t_dict⟩
  | _ => exact h.elim
def NoRow (H : Hp) (x : V) : Prop := ∀ a xs, x = .ref a → H a ≠ some (.tup xs) ∧ H a ≠ some (.lst xs)
theorem kit_row {K : PySem.W.Frag} (k : KitS K) {H : Hp} {x : V} (h : Th H x) (n : NoRow H x) : ∃ t, TyOf K H x t ∧ PySem.W.kitAny K t [.type "list", .type "tuple"] = some false := by
  cases x with
  | non => exact ⟨_, .non, kitAny2 k.l_non k.t_non⟩
  | bl b => exact ⟨_, .bl b, kitAny2 k.l_bool k.t_bool⟩
  | int i => exact ⟨_, .int i, kitAny2 k.l_int k.t_int⟩
  | str z => exact ⟨_, .str z, kitAny2 k.l_str k.t_str⟩
  | ref a =>
    rcases h with ⟨xs, h⟩ | ⟨xs, h⟩ | ⟨kvs, h⟩
    · exact absurd h (n a xs rfl).2
    · exact absurd h (n a xs rfl).1
    · exact ⟨_, .dK h, kitAny2 k.l_dict k.t_dict⟩
  | _ => exact h.elim
def makeB (x y : V) : Bool := match x, y with
  | .int a, .int b => decide (a ≥ 0) && decide (b ≥ 1)
  | _, _ => false
def shareB (x y : V) : Bool := match x, y with
  | .int a, .int b => decide (a ≥ 0) && (decide (b ≥ 1) && decide (gc a b = 1))
  | _, _ => false
inductive Sh (H : Hp) : V → Bool → Prop
  | flat {x : V} (h : Th H x) (n : NoTup H x) : Sh H x false
  | odd {a : Addr} {xs : List V} (h : H a = some (.tup xs)) (n : xs.length ≠ 2) : Sh H (.ref a) false
  | two {a : Addr} {x y : V} (h : H a = some (.tup [x, y])) (hx : Th H x) (hy : Th H y) : Sh H (.ref a) (shareB x y)
theorem Sh.same {H H' : Hp} {x : V} {b : Bool} (h : Sh H x b) (g : Same H H') : Sh H' x b := by
  cases h with
  | flat h n =>
    refine .flat (h.same g) fun a xs e z => ?_
    subst e
    rcases h with ⟨ys, h⟩ | ⟨ys, h⟩ | ⟨kvs, h⟩
    · rw [g _ _ h] at z; cases z
    · exact n a ys rfl h
    · rw [g _ _ h] at z; cases z
  | odd h n => exact .odd (g _ _ h) n
  | two h hx hy => exact .two (g _ _ h) (hx.same g) (hy.same g)
theorem Sh.share {H : Hp} {a : Addr} {x y : Int} (h : H a = some (.tup [.int x, .int y])) (s : isSh x y) : Sh H (.ref a) true := by
  have : shareB (.int x) (.int y) = true := by
    obtain ⟨h1, h2, h3⟩ := s
    show (decide (x ≥ 0) && (decide (y ≥ 1) && decide (gc x y = 1))) = true
    rw [decide_eq_true h1, decide_eq_true h2, decide_eq_true h3]; rfl
  rw [← this]
  exact .two h trivial trivial
def Bad (H : Hp) (E : XK) (C : Addr) (x : V) : Prop := ∀ dx H', Same H H' → H' dx = some (.xd [("found", x)]) → E (.ref C) (some dx) H'
theorem Bad.mono {H H' : Hp} {E : XK} {C : Addr} {x : V} (h : Bad H E C x) (g : Same H H') : Bad H' E C x := fun dx H2 g2 e => h dx H2 (g.trans g2) e
theorem Bad.go {H : Hp} {E : XK} {C : Addr} {x : V} (h : Bad H E C x) : ∀ dx, H dx = none → E (.ref C) (some dx) (upd H dx (.xd [("found", x)])) := fun dx hd => h dx _ (same_new hd _) upd_same
def spWholeT : Sp := fun vs H Q _ => ∃ x, vs = [x] ∧ Th H x ∧ Q (.bl (wholeB x)) H
def spMakeT : Sp := fun vs H Q _ => ∃ x y, vs = [x, y] ∧ Th H x ∧ Th H y ∧ Q (.bl (makeB x y)) H
def spShareT : Sp := fun vs H Q _ => ∃ x b, vs = [x] ∧ Sh H x b ∧ Q (.bl b) H
section
variable {P : Program} {w : World} {K : PySem.W.Frag} {mg : Str → Option Value} {base : Heap}
theorem okT_whole {f : Addr} {fd : FuncData} (F : Fun K "is_whole" "is_whole" sWhole f fd) (mi : mg "isinstance" = none) (mt : mg "int" = none) (mb : mg "bool" = none) (k : KitS K) : FnOk P w K mg base CX0 1 f fd ["thing"] spWholeT := by
  refine F.ok scWhole (fun vs H Q E h => ?_) (fun cdv A outer s H vs Q E hr h => ?_)
  · obtain ⟨x, rfl, _⟩ := h
    rfl
  obtain ⟨x, rfl, hx, q⟩ := h
  obtain ⟨t, ty, e⟩ := kit_int k hx
  obtain ⟨t2, ty2, e2⟩ := kit_bool k hx
  refine ⟨_, pss_one (ps_ret (pe_and (pe_callB call_inst rfl mi PyProof.Rows.boot_isinstance (pa_cons (pv 0) (pa_cons (pe_bltn (v := .ty "int") rfl mt PyProof.Rows.boot_int rfl) pa_nil)))
    (pe_one (pe_not (pe_callB call_inst rfl mi PyProof.Rows.boot_isinstance (pa_cons (pv 0) (pa_cons (pe_bltn (v := .ty "bool") rfl mb PyProof.Rows.boot_bool rfl) pa_nil))))))), ?_⟩
  refine ⟨_, rfl, x, t, "int", _, rfl, ty, e, _, rfl, ?_⟩
  refine ite2 (fun c => ?_) (fun c => ?_)
  · refine ⟨_, rfl, x, t2, "bool", _, rfl, ty2, e2, _, rfl, ?_⟩
    have : (!boolB x) = wholeB x := by cases x <;> first | rfl | cases c
    rw [this]
    exact q
  · have : false = wholeB x := by cases x <;> first | rfl | exact absurd rfl c
    rw [← this] at q
    exact q
theorem okT_makeA {f a1 : Addr} {fd d1 : FuncData} (F : Fun K "make_a_share" "make_a_share" sMakeA f fd) (D1 : Def P w K mg base 1 "is_whole" ["thing"] spWholeT a1 d1) : FnOk P w K mg base CX0 2 f fd ["top", "bottom"] spMakeT := by
  refine F.ok scMakeA (fun vs H Q E h => ?_) (fun cdv A outer s H vs Q E hr h => ?_)
  · obtain ⟨x, y, rfl, _⟩ := h
    rfl
  obtain ⟨x, y, rfl, hx, hy, q⟩ := h
  refine ⟨_, pss_one (ps_ret (pe_and (pe_call D1.ok hr rfl D1.m D1.k D1.b .nil pass0 (pa_cons (pv 0) pa_nil)) (pe_and (pe_call D1.ok hr rfl D1.m D1.k D1.b .nil pass0 (pa_cons (pv 1) pa_nil)) (pe_and (pe_cmpR op_ge (pv 0) pe_int (nomark _)) (pe_one (pe_cmpR op_ge (pv 1) pe_int (nomark _))))))), ?_⟩
  refine ⟨_, rfl, x, rfl, hx, _, rfl, ?_⟩
  cases hwx : wholeB x with
  | false =>
    have e : makeB x y = false := by cases x <;> first | rfl | cases hwx
    rw [e] at q
    exact iteF q
  | true =>
  obtain ⟨a, rfl⟩ : ∃ a, x = .int a := by cases x <;> first | exact ⟨_, rfl⟩ | cases hwx
  refine iteT ⟨_, rfl, y, rfl, hy, _, rfl, ?_⟩
  cases hwy : wholeB y with
  | false =>
    have e : makeB (.int a) y = false := by cases y <;> first | rfl | cases hwy
    rw [e] at q
    exact iteF q
  | true =>
  obtain ⟨b, rfl⟩ : ∃ b, y = .int b := by cases y <;> first | exact ⟨_, rfl⟩ | cases hwy
  refine iteT ⟨_, rfl, _, _, rfl, rfl, _, rfl, ?_⟩
  have q' : Q (.bl (decide (a ≥ 0) && decide (b ≥ 1))) H := q
  by_cases c : a ≥ 0
  · rw [decide_eq_true c] at q' ⊢
    exact iteT ⟨_, rfl, _, _, rfl, rfl, q'⟩
  · rw [decide_eq_false c] at q' ⊢
    exact iteF q'
theorem okT_isShare {f a1 a2 : Addr} {fd d1 d2 : FuncData} (F : Fun K "is_share" "is_share" sIsShare f fd) (mi : mg "isinstance" = none) (mt : mg "tuple" = none) (ml : mg "len" = none) (kk : KitS K) (D1 : Def P w K mg base 2 "make_a_share" ["top", "bottom"] spMakeT a1 d1) (D2 : Def P w K mg base 1 "common" ["one", "other"] spCommon a2 d2) : FnOk P w K mg base CX0 3 f fd ["thing"] spShareT := by
  refine F.ok scIsShare (fun vs H Q E h => ?_) (fun cdv A outer s H vs Q E hr h => ?_)
  · obtain ⟨x, b, rfl, _⟩ := h
    rfl
  obtain ⟨x, b, rfl, hS, q⟩ := h
  have hr1 : Room 1 _ := hr.mono (by decide)
  refine ⟨_, pss_cons (ps_if (PW.pt (pw_or (pt_not (pt_val (pe_callB call_inst rfl mi PyProof.Rows.boot_isinstance (pa_cons (pv 0) (pa_cons (pe_bltn (v := .ty "tuple") rfl mt PyProof.Rows.boot_tuple rfl) pa_nil)))))
      (pw_or1 (pt_cmpR op_ne (pe_callB call_len_seq rfl ml PySem.boot_len (pa_cons (pv 0) pa_nil)) pe_int (nomark _))))) (pss_one (ps_ret pe_bl)) pss_nil)
    (pss_cons (ps_asg (pv 0) (pg_tup rfl (pgs_cons (pg_name (i := 1) scIsShare.nd rfl (Or.inl rfl)) (pgs_cons (pg_name (i := 2) scIsShare.nd rfl (Or.inl rfl)) pgs_nil))))
    (pss_one (ps_ret (pe_and (pe_call D1.ok hr rfl D1.m D1.k D1.b .nil pass0 (pa_cons (pv 1) (pa_cons (pv 2) pa_nil))) (pe_one (pe_cmpR op_eq (pe_call D2.ok hr1 rfl D2.m D2.k D2.b .nil pass0 (pa_cons (pv 1) (pa_cons (pv 2) pa_nil))) pe_int (nomark _))))))), ?_⟩
  cases hS with
  | flat h n =>
    obtain ⟨t, ty, e⟩ := kit_tup kk h n
    exact ⟨_, rfl, x, t, "tuple", false, rfl, ty, e, _, rfl, iteT q⟩
  | @odd a xs h n =>
    refine ⟨_, rfl, .ref a, .type "tuple", "tuple", true, rfl, .tup h, rfl, _, rfl, iteF ⟨_, rfl, a, _, rfl, .inr (SqT.of h), rfl, _, rfl, ?_⟩⟩
    rw [decide_eq_false fun z => n (by injection z with z; omega)]
    exact iteT q
  | @two t x y ht hx hy =>
    refine ⟨_, rfl, .ref t, .type "tuple", "tuple", true, rfl, .tup ht, rfl, _, rfl, iteF ⟨_, rfl, t, _, rfl, .inr (SqT.of ht), rfl, _, rfl, iteF ?_⟩⟩
    refine ⟨_, rfl, t, _, rfl, SqT.of ht, rfl, _, _, rfl, _, _, rfl, rfl, ?_⟩
    refine ⟨_, rfl, _, rfl, x, y, rfl, hx, hy, _, rfl, ?_⟩
    cases hm : makeB x y with
    | false =>
      have e : shareB x y = false := by
        cases x with
        | int a =>
          cases y with
          | int b =>
            have hm : (decide (a ≥ 0) && decide (b ≥ 1)) = false := hm
            show (decide (a ≥ 0) && (decide (b ≥ 1) && decide (gc a b = 1))) = false
            rw [← Bool.and_assoc, hm, Bool.false_and]
          | _ => rfl
        | _ => rfl
      rw [e] at q
      exact iteF q
    | true =>
      obtain ⟨a, b, rfl, rfl⟩ : ∃ a b, x = .int a ∧ y = .int b := by
        cases x with
        | int a =>
          cases y with
          | int b => exact ⟨_, _, rfl, rfl⟩
          | _ => cases hm
        | _ => cases hm
      have hm : (decide (a ≥ 0) && decide (b ≥ 1)) = true := hm
      rw [Bool.and_eq_true, decide_eq_true_eq, decide_eq_true_eq] at hm
      have q' : Q (.bl (decide (a ≥ 0) && (decide (b ≥ 1) && decide (gc a b = 1)))) H := q
      rw [decide_eq_true hm.1, decide_eq_true hm.2, Bool.true_and, Bool.true_and] at q'
      refine iteT ⟨_, rfl, _, rfl, a, b, rfl, hm.1, by omega, rfl, ?_⟩
      have e2 : decide (V.int (gc a b) = V.int 1) = decide (gc a b = 1) := decide_eq_decide.mpr ⟨fun z => V.int.inj z, fun z => congrArg V.int z⟩
      rw [e2]
      exact q'
end
end S
set_option Elab.async false
set_option linter.all false
set_option maxRecDepth 100000
namespace S
open PySem L2
inductive Wrong (K : PySem.W.Frag) (H : Hp) (l : Addr) (x : V) : Prop
  | mk (xs : List V) (i : Nat) (sq : Sq K H l xs) (hx : xs[i]? = some x) (hn : Sh H x false) (hb : ∀ j v, j < i → xs[j]? = some v → Sh H v true)
def spCheckB (K : PySem.W.Frag) (C : Addr) : Sp := fun vs H Q E => ∃ l x, vs = [.ref l] ∧ Wrong K H l x ∧ Bad H E C x
def spDoor2 (C : Addr) : Sp := fun vs H Q E => ∃ x y bx b', vs = [x, y] ∧ Sh H x bx ∧ Sh H y b' ∧ (bx && b') = false ∧ Bad H E C (if bx = true then y else x)
def spDoor1 (C : Addr) : Sp := fun vs H Q E => ∃ x, vs = [x] ∧ Sh H x false ∧ Bad H E C x
def spOfB (C : Addr) : Sp := fun vs H Q E => ∃ x y, vs = [x, y] ∧ Th H x ∧ Th H y ∧ makeB x y = false ∧ ∀ p H', Same H H' → H' p = some (.tup [x, y]) → Bad H' E C (.ref p)
inductive SumBad (K : PySem.W.Frag) (H : Hp) : V → V → Prop
  | no {x : V} (h : Th H x) (n : NoRow H x) : SumBad K H x x
  | row {l : Addr} {x : V} {xs : List V} (t : H l = some (.lst xs)) (h : Wrong K H l x) : SumBad K H (.ref l) x
def spSumB (K : PySem.W.Frag) (C : Addr) : Sp := fun vs H Q E => ∃ x v, vs = [x] ∧ SumBad K H x v ∧ Bad H E C v
theorem Wrong.same {K : PySem.W.Frag} {H H' : Hp} {l : Addr} {x : V} (h : Wrong K H l x) (g : Same H H') : Wrong K H' l x := by
  obtain ⟨xs, i, sq, hx, hn, hb⟩ := h
  exact ⟨xs, i, sq.elim (fun s => .inl (g.seq s)) (fun s => .inr (SqT.mono g s)), hx, hn.same g, fun j v hj e => (hb j v hj e).same g⟩
theorem wrong2 {K : PySem.W.Frag} {H : Hp} {l : Addr} {x y : V} {bx b' : Bool} (hl : H l = some (.lst [x, y])) (hx : Sh H x bx) (hy : Sh H y b') (n : (bx && b') = false) : Wrong K H l (if bx = true then y else x) := by
  cases bx with
  | false => exact ⟨[x, y], 0, .inl (SqL.of hl), rfl, hx, fun j v hj => absurd hj (Nat.not_lt_zero j)⟩
  | true =>
    have n : b' = false := n
    subst n
    refine ⟨[x, y], 1, .inl (SqL.of hl), rfl, hy, fun j v hj e => ?_⟩
    match j, hj, e with
    | 0, _, e => cases e; exact hx
section
variable {P : Program} {w : World} {K : PySem.W.Frag} {mg : Str → Option Value} {base : Heap}
theorem okE_check {f a1 C fI : Addr} {bm : List Value} {fd d1 dI : FuncData} (F : Fun K "check_shares" "check_shares" sCheckS f fd) (D1 : Def P w K mg base 3 "is_share" ["thing"] spShareT a1 d1)
    (ec : ErrC K C fI bm) (OI : FnOk P w K mg base CX0 2 fI dI ["self", "found"] (spErr1 C "found")) (bI : Binds K dI ["self", "found"] []) (mC : mg "NoShare" = some (.ref C)) : FnOk P w K mg base (CXE P w) 4 f fd ["shares"] (spCheckB K C) := by
  refine F.okE scCheckS (fun vs H Q E h => ?_) (fun cdv A outer s H vs Q E hr h => ?_)
  · obtain ⟨l, x, rfl, _⟩ := h
    rfl
  obtain ⟨l, x, rfl, ⟨xs, i, sq, hx, hn, hb⟩, q⟩ := h
  have hr3 : Room 3 _ := hr.mono (by decide)
  refine ⟨_, pss_one (ps_for PassesOwn.leaving rfl (pi_seq (pv 0)) (pg_name (i := 1) scCheckS.nd rfl (Or.inl rfl)) (pss_one (ps_if (pt_not (pt_val (pe_call D1.ok hr rfl D1.m D1.k D1.b .nil pass0 (pa_cons (pv 1) pa_nil)))) (pss_one (ps_raise1 (E := E) rfl ec OI hr3 bI rfl mC throwE (pa_cons (pv 1) pa_nil))) pss_nil))), ?_⟩
  refine ⟨_, rfl, l, rfl, ?_⟩
  refine seq_for (K := K) (ys := xs) sq (fun j σ H' => ∃ v, σ = [some (.ref l), v] ∧ H' = H ∧ j ≤ i) ⟨_, rfl, rfl, Nat.zero_le _⟩ (fun j σ H' hP o ho => by obtain ⟨v, _, rfl, _⟩ := hP; exact ho) (fun j σ H' v hj hv hP => ?_) (fun σ H' hP => ?_)
  · obtain ⟨v', rfl, rfl, ji⟩ := hP
    by_cases c : j = i
    · subst c
      rw [hx] at hv
      cases hv
      exact ⟨_, rfl, x, false, rfl, hn, _, rfl, iteT ⟨_, rfl, _, rfl, q.go⟩⟩
    · exact ⟨_, rfl, v, true, rfl, hb j v (by omega) hv, _, rfl, iteF ⟨_, rfl, rfl, by omega⟩⟩
  · obtain ⟨v', rfl, rfl, ji⟩ := hP
    have : i < xs.length := by
      rcases Nat.lt_or_ge i xs.length with h | h
      · exact h
      · rw [List.getElem?_eq_none h] at hx; cases hx
    omega
theorem okE_plus {f a1 C : Addr} {fd d1 : FuncData} (F : Fun K "plus_share" "plus_share" sPlus f fd) (D1 : DefE P w K mg base 4 "check_shares" ["shares"] (spCheckB K C) a1 d1) : FnOk P w K mg base (CXE P w) 5 f fd ["one", "other"] (spDoor2 C) := by
  refine F.okE scPlus (fun vs H Q E h => ?_) (fun cdv A outer s H vs Q E hr h => ?_)
  · obtain ⟨x, y, bx, b', rfl, _⟩ := h
    rfl
  obtain ⟨x, y, bx, b', rfl, hx, hy, n, q⟩ := h
  refine ⟨_, pss_cons (ps_expr (pe_call D1.ok hr rfl D1.m D1.k D1.b .nil passE (pa_cons (pe_lst (pa_cons (pv 0) (pa_cons (pv 1) pa_nil))) pa_nil))) pss_never, ?_⟩
  refine ⟨_, rfl, _, rfl, (by show 2 ≤ sizeLine; decide), fun l hl => ⟨l, _, rfl, wrong2 upd_same (hx.same (same_new hl _)) (hy.same (same_new hl _)) n, q.mono (same_new hl _)⟩⟩
theorem okE_minus {f a1 C : Addr} {fd d1 : FuncData} (F : Fun K "minus_share" "minus_share" sMinus f fd) (D1 : DefE P w K mg base 4 "check_shares" ["shares"] (spCheckB K C) a1 d1) : FnOk P w K mg base (CXE P w) 5 f fd ["one", "other"] (spDoor2 C) := by
  refine F.okE scMinus (fun vs H Q E h => ?_) (fun cdv A outer s H vs Q E hr h => ?_)
  · obtain ⟨x, y, bx, b', rfl, _⟩ := h
    rfl
  obtain ⟨x, y, bx, b', rfl, hx, hy, n, q⟩ := h
  refine ⟨_, pss_cons (ps_expr (pe_call D1.ok hr rfl D1.m D1.k D1.b .nil passE (pa_cons (pe_lst (pa_cons (pv 0) (pa_cons (pv 1) pa_nil))) pa_nil))) pss_never, ?_⟩
  refine ⟨_, rfl, _, rfl, (by show 2 ≤ sizeLine; decide), fun l hl => ⟨l, _, rfl, wrong2 upd_same (hx.same (same_new hl _)) (hy.same (same_new hl _)) n, q.mono (same_new hl _)⟩⟩
theorem okE_times {f a1 C : Addr} {fd d1 : FuncData} (F : Fun K "times_share" "times_share" sTimes f fd) (D1 : DefE P w K mg base 4 "check_shares" ["shares"] (spCheckB K C) a1 d1) : FnOk P w K mg base (CXE P w) 5 f fd ["one", "other"] (spDoor2 C) := by
  refine F.okE scTimes (fun vs H Q E h => ?_) (fun cdv A outer s H vs Q E hr h => ?_)
  · obtain ⟨x, y, bx, b', rfl, _⟩ := h
    rfl
  obtain ⟨x, y, bx, b', rfl, hx, hy, n, q⟩ := h
  refine ⟨_, pss_cons (ps_expr (pe_call D1.ok hr rfl D1.m D1.k D1.b .nil passE (pa_cons (pe_lst (pa_cons (pv 0) (pa_cons (pv 1) pa_nil))) pa_nil))) pss_never, ?_⟩
  refine ⟨_, rfl, _, rfl, (by show 2 ≤ sizeLine; decide), fun l hl => ⟨l, _, rfl, wrong2 upd_same (hx.same (same_new hl _)) (hy.same (same_new hl _)) n, q.mono (same_new hl _)⟩⟩
theorem okE_less {f a1 C : Addr} {fd d1 : FuncData} (F : Fun K "less_than" "less_than" sLess f fd) (D1 : DefE P w K mg base 4 "check_shares" ["shares"] (spCheckB K C) a1 d1) : FnOk P w K mg base (CXE P w) 5 f fd ["one", "other"] (spDoor2 C) := by
  refine F.okE scLess (fun vs H Q E h => ?_) (fun cdv A outer s H vs Q E hr h => ?_)
  · obtain ⟨x, y, bx, b', rfl, _⟩ := h
    rfl
  obtain ⟨x, y, bx, b', rfl, hx, hy, n, q⟩ := h
  refine ⟨_, pss_cons (ps_expr (pe_call D1.ok hr rfl D1.m D1.k D1.b .nil passE (pa_cons (pe_lst (pa_cons (pv 0) (pa_cons (pv 1) pa_nil))) pa_nil))) pss_never, ?_⟩
  refine ⟨_, rfl, _, rfl, (by show 2 ≤ sizeLine; decide), fun l hl => ⟨l, _, rfl, wrong2 upd_same (hx.same (same_new hl _)) (hy.same (same_new hl _)) n, q.mono (same_new hl _)⟩⟩
theorem scText : FnScope ["share", "top", "bottom"] ["share"] (defScope sShareText) := ⟨rfl, rfl, rfl, by decide +kernel, rfl, by decide +kernel, by decide +kernel⟩
theorem okE_text {f a1 C : Addr} {fd d1 : FuncData} (F : Fun K "share_text" "share_text" sShareText f fd) (D1 : DefE P w K mg base 4 "check_shares" ["shares"] (spCheckB K C) a1 d1) : FnOk P w K mg base (CXE P w) 5 f fd ["share"] (spDoor1 C) := by
  refine F.okE scText (fun vs H Q E h => ?_) (fun cdv A outer s H vs Q E hr h => ?_)
  · obtain ⟨x, rfl, _⟩ := h
    rfl
  obtain ⟨x, rfl, hx, q⟩ := h
  refine ⟨_, pss_cons (ps_expr (pe_call D1.ok hr rfl D1.m D1.k D1.b .nil passE (pa_cons (pe_lst (pa_cons (pv 0) pa_nil)) pa_nil))) pss_never, ?_⟩
  refine ⟨_, rfl, (by show 1 ≤ sizeLine; decide), fun l hl => ⟨l, _, rfl, ⟨[x], 0, .inl (SqL.of upd_same), rfl, hx.same (same_new hl _), fun j v hj => absurd hj (Nat.not_lt_zero j)⟩, q.mono (same_new hl _)⟩⟩
theorem okE_shareOf {f a1 C fI : Addr} {bm : List Value} {fd d1 dI : FuncData} (F : Fun K "share_of" "share_of" sShareOf f fd) (D1 : Def P w K mg base 2 "make_a_share" ["top", "bottom"] spMakeT a1 d1)
    (ec : ErrC K C fI bm) (OI : FnOk P w K mg base CX0 2 fI dI ["self", "found"] (spErr1 C "found")) (bI : Binds K dI ["self", "found"] []) (mC : mg "NoShare" = some (.ref C)) : FnOk P w K mg base (CXE P w) 4 f fd ["top", "bottom"] (spOfB C) := by
  refine F.okE scShareOf (fun vs H Q E h => ?_) (fun cdv A outer s H vs Q E hr h => ?_)
  · obtain ⟨x, y, rfl, _⟩ := h
    rfl
  obtain ⟨x, y, rfl, hx, hy, n, q⟩ := h
  have hr2 : Room 2 _ := hr.mono (by decide)
  refine ⟨_, pss_cons (ps_if (pt_not (pt_val (pe_call D1.ok hr2 rfl D1.m D1.k D1.b .nil pass0 (pa_cons (pv 0) (pa_cons (pv 1) pa_nil))))) (pss_one (ps_raise1 (E := E) rfl ec OI hr bI rfl mC throwE (pa_cons (pe_tup (pa_cons (pv 0) (pa_cons (pv 1) pa_nil))) pa_nil))) pss_nil) pss_never, ?_⟩
  refine ⟨_, rfl, _, rfl, x, y, rfl, hx, hy, _, rfl, ?_⟩
  rw [n]
  exact iteT ⟨_, rfl, _, rfl, (by show 2 ≤ sizeLine; decide), fun p hp => ⟨_, rfl, (q p _ (same_new hp _) upd_same).go⟩⟩
theorem scSumS' : FnScope ["shares", "total", "share"] ["shares"] (defScope sSumS) := ⟨rfl, rfl, rfl, by decide +kernel, rfl, by decide +kernel, by decide +kernel⟩
theorem okE_sumS {f a1 C fI : Addr} {bm : List Value} {fd d1 dI : FuncData} (F : Fun K "sum_shares" "sum_shares" sSumS f fd) (mi : mg "isinstance" = none) (ml : mg "list" = none) (mt : mg "tuple" = none) (kk : KitS K) (D1 : DefE P w K mg base 4 "check_shares" ["shares"] (spCheckB K C) a1 d1)
    (ec : ErrC K C fI bm) (OI : FnOk P w K mg base CX0 2 fI dI ["self", "found"] (spErr1 C "found")) (bI : Binds K dI ["self", "found"] []) (mC : mg "NoShare" = some (.ref C)) : FnOk P w K mg base (CXE P w) 5 f fd ["shares"] (spSumB K C) := by
  refine F.okE scSumS' (fun vs H Q E h => ?_) (fun cdv A outer s H vs Q E hr h => ?_)
  · obtain ⟨x, v, rfl, _⟩ := h
    rfl
  obtain ⟨x, v, rfl, hS, q⟩ := h
  have hr3 : Room 3 _ := hr.mono (by decide)
  refine ⟨_, pss_cons (ps_if (pt_not (pt_val (pe_callB call_instT rfl mi PyProof.Rows.boot_isinstance (pa_cons (pv 0) (pa_cons (pe_tup (pa_cons (pe_bltn (v := .ty "list") rfl ml PyProof.Rows.boot_list rfl) (pa_cons (pe_bltn (v := .ty "tuple") rfl mt PyProof.Rows.boot_tuple rfl) pa_nil))) pa_nil))))) (pss_one (ps_raise1 (E := E) rfl ec OI hr3 bI rfl mC throwE (pa_cons (pv 0) pa_nil))) pss_nil)
    (pss_cons (ps_expr (pe_call D1.ok hr rfl D1.m D1.k D1.b .nil passE (pa_cons (pv 0) pa_nil))) pss_never), ?_⟩
  refine ⟨_, rfl, (by show 2 ≤ sizeLine; decide), fun p hp => ?_⟩
  have g := same_new hp (.tup [.ty "list", .ty "tuple"])
  have c : (upd H p (.tup [.ty "list", .ty "tuple"])) p = some (.tup [.ty "list", .ty "tuple"]) := upd_same
  generalize upd H p (.tup [.ty "list", .ty "tuple"]) = H1 at g c ⊢
  have q1 := q.mono g
  cases hS with
  | no h n =>
    have n1 : NoRow H1 x := fun a xs e => by
      subst e
      rcases h with ⟨ys, h⟩ | ⟨ys, h⟩ | ⟨kvs, h⟩
      · exact absurd h (n a ys rfl).2
      · exact absurd h (n a ys rfl).1
      · rw [g _ _ h]; exact ⟨(fun z => nomatch z), (fun z => nomatch z)⟩
    obtain ⟨t, ty, e⟩ := kit_row kk (h.same g) n1
    exact ⟨x, t, p, ["list", "tuple"], false, rfl, ty, c, e, _, rfl, iteT ⟨_, rfl, _, rfl, q1.go⟩⟩
  | @row l _ xs t h =>
    exact ⟨_, _, p, ["list", "tuple"], true, rfl, .lst (g _ _ t), c, kitAny2 (a := true) (b := false) rfl kk.t_list, _, rfl, iteF ⟨_, rfl, l, v, rfl, h.same g, q1⟩⟩
end
end S
set_option Elab.async false
set_option linter.all false
set_option maxRecDepth 100000
namespace L2
open PySem PySem.Spec PyProof.Rows
section
variable {X : Cx} {k : Nat}
def rNeNil (K : PySem.W.Frag) : R2 := fun x y H Q => ∃ a b xs, x = .ref a ∧ y = .ref b ∧ SqL K H a xs ∧ SqL K H b [] ∧ Q (.bl (!xs.isEmpty)) H
theorem op_neNil (hr : Room k X.A) : OpR X (compareOp .NotEq) (rNeNil X.K) := by
  intro pins s σ H x y v u Q I rx ry h
  obtain ⟨a, b, xs, rfl, rfl, ha, hb, q⟩ := h
  cases rx
  cases ry
  obtain ⟨its, r1, p1, _⟩ := I.list ha
  obtain ⟨its2, r2, p2, _⟩ := I.list hb
  cases r2
  have hu : X.A.units < cLine := hr.units0
  cases r1 with
  | nil => exact SeqAt.RcNeAt.lists (e := fun _ => true) p1.isList p2.isList rfl hu (fun j h1 _ => absurd h1 (by simp)) X.prog X.w X.xe _ ⟨.bl false, H, I, rfl, q⟩
  | cons _ _ => exact SeqAt.RcNeAt.lists_lengths p1.isList p2.isList (by simp) hu X.prog X.w X.xe _ ⟨.bl true, H, I, rfl, q⟩
theorem ciK_inst {K : PySem.W.Frag} (hK : X.K = K) : CallR X (.builtin "isinstance") (rInst K) := by subst hK; exact call_inst
theorem peK_errF {K : PySem.W.Frag} {fld : Str} {pos : Pos} {e : Expr} {ta : TE} (hK : X.K = K) (he : PE X e ta) (hb : attributeBase e fld X.env (eval e X.env) = eval e X.env) : PE X (.Attribute e fld pos) (tErrF K ta fld) := by subst hK; exact pe_errF he hb
end
end L2
namespace S
open PySem L2
def spLShare : Sp := fun vs H Q _ => ∃ x b, vs = [x] ∧ Sh H x b ∧ ∀ H', Same H H' → Q (.bl b) H'
theorem take_next {α : Type} {l : List α} {i : Nat} {x : α} (h : l[i]? = some x) : l.take (i + 1) = l.take i ++ [x] := by rw [List.take_add_one, h]; rfl
section
variable {P : Program} {w : World} {K : PySem.W.Frag} {mg : Str → Option Value} {base : Heap}
theorem scLShare : FnScope ["_law_thing"] ["_law_thing"] (defScope s_law_is_share) := ⟨rfl, rfl, rfl, by decide +kernel, rfl, by decide +kernel, by decide +kernel⟩
set_option maxHeartbeats 1000000 in
theorem ok_lshare {f a1 : Addr} {fd d1 : FuncData} (F : Fun K "_law_is_share" "_law_is_share" s_law_is_share f fd) (mi : mg "isinstance" = none) (mt : mg "tuple" = none) (ml : mg "len" = none) (mn : mg "int" = none) (mb : mg "bool" = none) (kk : KitS K) (D1 : Def P w K mg base 1 "_law_common" ["_law_one", "_law_other"] spCommon a1 d1) : FnOk P w K mg base CX0 2 f fd ["_law_thing"] spLShare := by
  refine F.ok scLShare (fun vs H Q E h => ?_) (fun cdv A outer s H vs Q E hr h => ?_)
  · obtain ⟨x, b, rfl, _⟩ := h
    rfl
  obtain ⟨x, b, rfl, hS, q⟩ := h
  refine ⟨_, pss_cons (ps_if (PW.pt (pw_or (pt_not (pt_val (pe_callB call_inst rfl mi PyProof.Rows.boot_isinstance (pa_cons (pv 0) (pa_cons (pe_bltn (v := .ty "tuple") rfl mt PyProof.Rows.boot_tuple rfl) pa_nil)))))
      (pw_or1 (pt_cmpR op_ne (pe_callB call_len_seq rfl ml PySem.boot_len (pa_cons (pv 0) pa_nil)) pe_int (nomark _))))) (pss_one (ps_ret pe_bl)) pss_nil)
    (pss_cons (ps_if (pt_cmpR (op_neNil hr) (pe_compL (xs := ["_law_one"]) (fv := []) rfl (by decide +kernel) trivial (pi_seq (pv 0)) (fun _ _ _ _ _ => pg_name (i := 0) (ndT (by decide +kernel)) rfl (Or.inl rfl))
        (fun _ _ _ _ _ => ptl_one (PW.pt (pw_or (pt_not (pt_val (pe_callB (ciK_inst (K := K) rfl) rfl mi PyProof.Rows.boot_isinstance (pa_cons (pv 0) (pa_cons (pe_bltn (v := .ty "int") rfl mn PyProof.Rows.boot_int rfl) pa_nil)))))
          (pw_or1 (pt_val (pe_callB (ciK_inst (K := K) rfl) rfl mi PyProof.Rows.boot_isinstance (pa_cons (pv 0) (pa_cons (pe_bltn (v := .ty "bool") rfl mb PyProof.Rows.boot_bool rfl) pa_nil)))))))) (fun _ _ _ _ _ => pv 0)) (pe_lst pa_nil) (nomark _)) (pss_one (ps_ret pe_bl)) pss_nil)
    (pss_one (ps_ret (pe_and (pe_cmpR op_ge (pe_ix ix_tup (pv 0) pe_int (fun _ _ => rfl)) pe_int (nomark _)) (pe_and (pe_cmpR op_ge (pe_ix ix_tup (pv 0) pe_int (fun _ _ => rfl)) pe_int (nomark _))
      (pe_one (pe_cmpR op_eq (pe_call D1.ok hr rfl D1.m D1.k D1.b .nil pass0 (pa_cons (pe_ix ix_tup (pv 0) pe_int (fun _ _ => rfl)) (pa_cons (pe_ix ix_tup (pv 0) pe_int (fun _ _ => rfl)) pa_nil))) pe_int (nomark _)))))))), ?_⟩
  cases hS with
  | flat h n =>
    obtain ⟨t, ty, e⟩ := kit_tup kk h n
    exact ⟨_, rfl, x, t, "tuple", false, rfl, ty, e, _, rfl, iteT (q _ (Same.refl _))⟩
  | @odd a xs h n =>
    refine ⟨_, rfl, .ref a, .type "tuple", "tuple", true, rfl, .tup h, rfl, _, rfl, iteF ⟨_, rfl, a, _, rfl, .inr (SqT.of h), rfl, _, rfl, ?_⟩⟩
    rw [decide_eq_false fun z => n (by injection z with z; omega)]
    exact iteT (q _ (Same.refl _))
  | @two t x y ht hx hy =>
    refine ⟨_, rfl, .ref t, .type "tuple", "tuple", true, rfl, .tup ht, rfl, _, rfl, iteF ⟨_, rfl, t, _, rfl, .inr (SqT.of ht), rfl, _, rfl, iteF ?_⟩⟩
    refine ⟨_, rfl, t, rfl, ?_⟩
    refine seq_comp (K := K) (ys := [x, y]) (.inr (SqT.of ht)) (fun i D H' => Same H H' ∧ H' D = some (.lst (([x, y].take i).filter fun v => !wholeB v))) (fun D hD => ⟨same_new hD _, upd_same⟩) (fun i D H' hD hP o ho => hP.1 _ _ ho) (fun i D H' v hD hi hv hP => ?_) (fun D H' hD hP => ?_)
    · obtain ⟨g, hl⟩ := hP
      have hv' : Th H' v := by
        match i, hv with
        | 0, hv => cases hv; exact hx.same g
        | 1, hv => cases hv; exact hy.same g
      obtain ⟨t1, ty1, e1⟩ := kit_int kk hv'
      obtain ⟨t2, ty2, e2⟩ := kit_bool kk hv'
      have len : (([x, y].take i).filter fun v => !wholeB v).length < sizeLine := by
        have h1 := List.length_filter_le (fun v => !wholeB v) ([x, y].take i)
        have h2 : ([x, y].take i).length ≤ 2 := by rw [List.length_take]; exact Nat.min_le_right _ _
        have : 2 < sizeLine := by decide
        omega
      have nx : ([x, y].take (i + 1)).filter (fun v => !wholeB v) = ([x, y].take i).filter (fun v => !wholeB v) ++ (if (!wholeB v) = true then [v] else []) := by
        rw [take_next hv, List.filter_append]
        congr 1
        cases hw : wholeB v <;> simp [List.filter, hw]
      refine ⟨rfl, _, rfl, v, t1, "int", _, rfl, ty1, e1, _, rfl, ?_⟩
      cases hw : wholeB v with
      | true =>
        obtain ⟨a, rfl⟩ : ∃ a, v = .int a := by cases v <;> first | exact ⟨_, rfl⟩ | cases hw
        refine iteF ⟨_, rfl, .int a, t2, "bool", _, rfl, ty2, e2, _, rfl, iteF ⟨g, ?_⟩⟩
        rw [hl, nx, hw]
        simp
      | false =>
        have add : Same H (upd H' D (.lst ((([x, y].take i).filter fun v => !wholeB v) ++ [v]))) ∧ (upd H' D (.lst ((([x, y].take i).filter fun v => !wholeB v) ++ [v]))) D = some (.lst (([x, y].take (i + 1)).filter fun v => !wholeB v)) := ⟨fun c o hc => by rw [upd_ne (ne_of_none hc hD)]; exact g _ _ hc, by rw [upd_same, nx, hw]; rfl⟩
        cases hI : intB v with
        | false => exact iteT ⟨_, rfl, _, hl, len, add⟩
        | true =>
          have hB : boolB v = true := by cases v <;> first | rfl | (cases hw; done) | (cases hI; done)
          refine iteF ⟨_, rfl, v, t2, "bool", _, rfl, ty2, e2, _, rfl, ?_⟩
          rw [hB]
          exact iteT ⟨_, rfl, _, hl, len, add⟩
    · obtain ⟨g, hl⟩ := hP
      refine ⟨(by show 0 ≤ sizeLine; decide), fun N hN => ?_⟩
      have g2 := same_new hN (.lst [])
      refine ⟨D, N, _, rfl, rfl, SqL.of (g2 _ _ hl), SqL.of upd_same, _, rfl, ?_⟩
      have ht2 := (g.trans g2) _ _ ht
      have q2 := q _ (g.trans g2)
      generalize upd H' N (.lst []) = H2 at ht2 q2 ⊢
      cases hwx : wholeB x with
      | false =>
        have e : shareB x y = false := by cases x <;> first | rfl | cases hwx
        rw [e] at q2
        have e3 : (([x, y].take [x, y].length).filter fun v => !wholeB v).isEmpty = false := by
          show ([x, y].filter fun v => !wholeB v).isEmpty = false
          rw [List.filter_cons, hwx]; rfl
        rw [e3]
        exact iteT q2
      | true =>
      cases hwy : wholeB y with
      | false =>
        have e : shareB x y = false := by
          cases x with
          | int a => cases y <;> first | rfl | cases hwy
          | _ => rfl
        rw [e] at q2
        have e3 : (([x, y].take [x, y].length).filter fun v => !wholeB v).isEmpty = false := by
          show ([x, y].filter fun v => !wholeB v).isEmpty = false
          rw [List.filter_cons, hwx, List.filter_cons, hwy]; rfl
        rw [e3]
        exact iteT q2
      | true =>
      have e3 : (([x, y].take [x, y].length).filter fun v => !wholeB v).isEmpty = true := by
        show ([x, y].filter fun v => !wholeB v).isEmpty = true
        rw [List.filter_cons, hwx, List.filter_cons, hwy]; rfl
      rw [e3]
      refine iteF ?_
      obtain ⟨a, rfl⟩ : ∃ a, x = .int a := by cases x <;> first | exact ⟨_, rfl⟩ | cases hwx
      obtain ⟨c, rfl⟩ : ∃ c, y = .int c := by cases y <;> first | exact ⟨_, rfl⟩ | cases hwy
      have q3 : Q (.bl (decide (a ≥ 0) && (decide (c ≥ 1) && decide (gc a c = 1)))) H2 := q2
      refine ⟨_, rfl, t, _, _, _, rfl, rfl, SqT.of ht2, rfl, _, _, rfl, rfl, _, rfl, ?_⟩
      by_cases c1 : a ≥ 0
      · rw [decide_eq_true c1] at q3 ⊢
        refine iteT ⟨_, rfl, t, _, _, _, rfl, rfl, SqT.of ht2, rfl, _, _, rfl, rfl, _, rfl, ?_⟩
        by_cases c2 : c ≥ 1
        · rw [decide_eq_true c2] at q3 ⊢
          refine iteT ⟨_, rfl, t, _, _, _, rfl, rfl, SqT.of ht2, rfl, _, rfl, t, _, _, _, rfl, rfl, SqT.of ht2, rfl, a, c, rfl, c1, by omega, rfl, ?_⟩
          have e2 : decide (V.int (gc a c) = V.int 1) = decide (gc a c = 1) := decide_eq_decide.mpr ⟨fun z => V.int.inj z, fun z => congrArg V.int z⟩
          rw [e2]
          exact q3
        · rw [decide_eq_false c2] at q3 ⊢
          exact iteF q3
      · rw [decide_eq_false c1] at q3 ⊢
        exact iteF q3
end
end S
set_option Elab.async false
set_option linter.all false
set_option maxRecDepth 100000
namespace S
open PySem L2
def Nay (Q : VK) (H : Hp) (v : V) : Prop := ∀ r H', Same H H' → H' r = some (.tup [.str "none", v]) → Q (.ref r) H'
inductive DoorQ (K : PySem.W.Frag) (H : Hp) (Q : VK) : Nat → V → V → Prop
  | two {k : Nat} {x y : V} {bx b' : Bool} (hk : k ≤ 4) (hx : Sh H x bx) (hy : Sh H y b') (n : (bx && b') = false) (q : Nay Q H (if bx = true then y else x)) : DoorQ K H Q k x y
  | one {x y : V} (hx : Sh H x false) (q : Nay Q H x) : DoorQ K H Q 5 x y
  | of {x y : V} (hx : Th H x) (hy : Th H y) (n : makeB x y = false) (q : ∀ p H', Same H H' → H' p = some (.tup [x, y]) → Nay Q H' (.ref p)) : DoorQ K H Q 6 x y
  | sum {x y v : V} (h : SumBad K H x v) (q : Nay Q H v) : DoorQ K H Q 7 x y
def spTold (K : PySem.W.Frag) : Sp := fun vs H Q _ => ∃ (k : Nat) (x y : V), vs = [.int (k : Nat), x, y] ∧ DoorQ K H Q k x y
section
variable {P : Program} {w : World} {K : PySem.W.Frag} {mg : Str → Option Value} {base : Heap}
theorem scTold : FnScope ["_law_way", "_law_one", "_law_other", "_law_told_here", "e"] ["_law_way", "_law_one", "_law_other"] (defScope s_law_told) := ⟨rfl, rfl, rfl, by decide +kernel, rfl, by decide +kernel, by decide +kernel⟩
theorem wrong3 {K : PySem.W.Frag} {H : Hp} {l t : Addr} {x y : V} {bx b' : Bool} (hl : H l = some (.lst [.ref t, x, y])) (ht : Sh H (.ref t) true) (hx : Sh H x bx) (hy : Sh H y b') (n : (bx && b') = false) : Wrong K H l (if bx = true then y else x) := by
  cases bx with
  | false =>
    refine ⟨[.ref t, x, y], 1, .inl (SqL.of hl), rfl, hx, fun j v hj e => ?_⟩
    match j, hj, e with
    | 0, _, e => cases e; exact ht
  | true =>
    have n : b' = false := n
    subst n
    refine ⟨[.ref t, x, y], 2, .inl (SqL.of hl), rfl, hy, fun j v hj e => ?_⟩
    match j, hj, e with
    | 0, _, e => cases e; exact ht
    | 1, _, e => cases e; exact hx
set_option maxHeartbeats 2000000 in
theorem ok_told {f a0 a1 a2 a3 a4 a5 a6 C fI : Addr} {bm : List Value} {fd d0 d1 d2 d3 d4 d5 d6 : FuncData} (F : Fun K "_law_told" "_law_told" s_law_told f fd)
    (D0 : DefE P w K mg base 5 "plus_share" ["one", "other"] (spDoor2 C) a0 d0) (D1 : DefE P w K mg base 5 "minus_share" ["one", "other"] (spDoor2 C) a1 d1) (D2 : DefE P w K mg base 5 "times_share" ["one", "other"] (spDoor2 C) a2 d2) (D3 : DefE P w K mg base 5 "less_than" ["one", "other"] (spDoor2 C) a3 d3)
    (D4 : DefE P w K mg base 5 "sum_shares" ["shares"] (spSumB K C) a4 d4) (D5 : DefE P w K mg base 5 "share_text" ["share"] (spDoor1 C) a5 d5) (D6 : DefE P w K mg base 4 "share_of" ["top", "bottom"] (spOfB C) a6 d6)
    (ec : ErrC K C fI bm) (nf : PySem.W.findIn K (.ref C) "found" = some none) (mC : mg "NoShare" = some (.ref C)) (ex : PySem.W.exmOne K (.ref C) (.ref C) = some true) : FnOk P w K mg base CX0 6 f fd ["_law_way", "_law_one", "_law_other"] (spTold K) := by
  refine F.ok scTold (fun vs H Q E h => ?_) (fun cdv A outer s H vs Q E hr h => ?_)
  · obtain ⟨k, x, y, rfl, _⟩ := h
    rfl
  obtain ⟨k, x, y, rfl, hD⟩ := h
  have hr4 : Room 4 _ := hr.mono (by decide)
  refine ⟨_, pss_cons (ps_set (i := 3) scTold.nd rfl (Or.inl rfl) pe_non) (pss_cons (ps_try rfl rfl (fun pn E =>
      pss_one (ps_if (pt_cmpR op_eq (pv 0) pe_int (nomark _)) (pss_one (ps_set (i := 3) scTold.nd rfl (Or.inl rfl) (pe_call D0.ok hr rfl D0.m D0.k D0.b .nil passT (pa_cons (pv 1) (pa_cons (pv 2) pa_nil)))))
      (pss_one (ps_if (pt_cmpR op_eq (pv 0) pe_int (nomark _)) (pss_one (ps_set (i := 3) scTold.nd rfl (Or.inl rfl) (pe_call D1.ok hr rfl D1.m D1.k D1.b .nil passT (pa_cons (pv 1) (pa_cons (pv 2) pa_nil)))))
      (pss_one (ps_if (pt_cmpR op_eq (pv 0) pe_int (nomark _)) (pss_one (ps_set (i := 3) scTold.nd rfl (Or.inl rfl) (pe_call D2.ok hr rfl D2.m D2.k D2.b .nil passT (pa_cons (pv 1) (pa_cons (pv 2) pa_nil)))))
      (pss_one (ps_if (pt_cmpR op_eq (pv 0) pe_int (nomark _)) (pss_one (ps_set (i := 3) scTold.nd rfl (Or.inl rfl) (pe_call D3.ok hr rfl D3.m D3.k D3.b .nil passT (pa_cons (pv 1) (pa_cons (pv 2) pa_nil)))))
      (pss_one (ps_if (pt_cmpR op_eq (pv 0) pe_int (nomark _)) (pss_one (ps_set (i := 3) scTold.nd rfl (Or.inl rfl) (pe_call D4.ok hr rfl D4.m D4.k D4.b .nil passT (pa_cons (pe_lst (pa_cons (pe_tup (pa_cons pe_int (pa_cons pe_int pa_nil))) (pa_cons (pv 1) (pa_cons (pv 2) pa_nil)))) pa_nil))))
      (pss_one (ps_if (pt_cmpR op_eq (pv 0) pe_int (nomark _)) (pss_one (ps_set (i := 3) scTold.nd rfl (Or.inl rfl) (pe_call D5.ok hr rfl D5.m D5.k D5.b .nil passT (pa_cons (pv 1) pa_nil))))
      (pss_one (ps_if (pt_cmpR op_eq (pv 0) pe_int (nomark _)) (pss_one (ps_set (i := 3) scTold.nd rfl (Or.inl rfl) (pe_call D6.ok hr4 rfl D6.m D6.k D6.b .nil passT (pa_cons (pv 1) (pa_cons (pv 2) pa_nil)))))
      (pss_one (ps_set (i := 3) scTold.nd rfl (Or.inl rfl) (pe_call D4.ok hr rfl D4.m D4.k D4.b .nil passT (pa_cons (pv 1) pa_nil))))))))))))))))))
    (ph_as (i := 4) scTold.nd rfl rfl rfl mC (fun e => pss_one (ps_ret (pe_tup (pa_cons pe_str (pa_cons (peK_errF (K := K) rfl (pv 4) rfl) pa_nil))))) ph_nil)) pss_never), ?_⟩
  refine ⟨fun cls od H' => ∃ dx v, cls = .ref C ∧ od = some dx ∧ H' dx = some (.xd [("found", v)]) ∧ Nay Q H' v, ?_, fun C' dx σ' H' hE hl => ?_⟩
  · have bad : ∀ {H' : Hp} {v : V}, Same H H' → Nay Q H' v → Bad H' (fun cls od H' => ∃ dx v, cls = .ref C ∧ od = some dx ∧ H' dx = some (.xd [("found", v)]) ∧ Nay Q H' v) C v := fun g q dx H2 g2 e => ⟨dx, _, rfl, rfl, e, fun r H3 g3 e3 => q r H3 (g2.trans g3) e3⟩
    have nay : ∀ {H' : Hp} {v : V}, Nay Q H v → Same H H' → Nay Q H' v := fun q g r H3 g3 e3 => q r H3 (g.trans g3) e3
    cases hD with
    | two hk hx hy n q =>
      have b0 := bad (Same.refl H) q
      have z : k = 0 ∨ k = 1 ∨ k = 2 ∨ k = 3 ∨ k = 4 := by omega
      rcases z with rfl | rfl | rfl | rfl | rfl
      · exact ⟨_, rfl, rfl, _, rfl, iteT ⟨_, rfl, _, rfl, x, y, _, _, rfl, hx, hy, n, b0⟩⟩
      · exact ⟨_, rfl, rfl, _, rfl, iteF ⟨_, rfl, rfl, _, rfl, iteT ⟨_, rfl, _, rfl, x, y, _, _, rfl, hx, hy, n, b0⟩⟩⟩
      · exact ⟨_, rfl, rfl, _, rfl, iteF ⟨_, rfl, rfl, _, rfl, iteF ⟨_, rfl, rfl, _, rfl, iteT ⟨_, rfl, _, rfl, x, y, _, _, rfl, hx, hy, n, b0⟩⟩⟩⟩
      · exact ⟨_, rfl, rfl, _, rfl, iteF ⟨_, rfl, rfl, _, rfl, iteF ⟨_, rfl, rfl, _, rfl, iteF ⟨_, rfl, rfl, _, rfl, iteT ⟨_, rfl, _, rfl, x, y, _, _, rfl, hx, hy, n, b0⟩⟩⟩⟩⟩
      · refine ⟨_, rfl, rfl, _, rfl, iteF ⟨_, rfl, rfl, _, rfl, iteF ⟨_, rfl, rfl, _, rfl, iteF ⟨_, rfl, rfl, _, rfl, iteF ⟨_, rfl, rfl, _, rfl, iteT ?_⟩⟩⟩⟩⟩
        refine ⟨(by show 2 ≤ sizeLine; decide), fun t ht => ⟨_, rfl, _, rfl, (by show 3 ≤ sizeLine; decide), fun l hl => ?_⟩⟩
        have g1 := same_new ht (.tup [.int 1, .int 2])
        have c1 : (upd H t (.tup [.int 1, .int 2])) t = some (.tup [.int 1, .int 2]) := upd_same
        generalize upd H t (.tup [.int 1, .int 2]) = H1 at g1 c1 hl ⊢
        have g2 := same_new hl (.lst [.ref t, x, y])
        have g := g1.trans g2
        exact ⟨.ref l, _, rfl, .row upd_same (wrong3 upd_same (Sh.share (g2 _ _ c1) ⟨by decide, by decide, by decide +kernel⟩) (hx.same g) (hy.same g) n), bad g (nay q g)⟩
    | one hx q => exact ⟨_, rfl, rfl, _, rfl, iteF ⟨_, rfl, rfl, _, rfl, iteF ⟨_, rfl, rfl, _, rfl, iteF ⟨_, rfl, rfl, _, rfl, iteF ⟨_, rfl, rfl, _, rfl, iteF ⟨_, rfl, rfl, _, rfl, iteT ⟨_, rfl, x, rfl, hx, bad (Same.refl H) q⟩⟩⟩⟩⟩⟩⟩
    | of hx hy n q => exact ⟨_, rfl, rfl, _, rfl, iteF ⟨_, rfl, rfl, _, rfl, iteF ⟨_, rfl, rfl, _, rfl, iteF ⟨_, rfl, rfl, _, rfl, iteF ⟨_, rfl, rfl, _, rfl, iteF ⟨_, rfl, rfl, _, rfl, iteF ⟨_, rfl, rfl, _, rfl, iteT ⟨_, rfl, _, rfl, x, y, rfl, hx, hy, n, fun p H' g hp => bad g (q p H' g hp)⟩⟩⟩⟩⟩⟩⟩⟩
    | sum h q => exact ⟨_, rfl, rfl, _, rfl, iteF ⟨_, rfl, rfl, _, rfl, iteF ⟨_, rfl, rfl, _, rfl, iteF ⟨_, rfl, rfl, _, rfl, iteF ⟨_, rfl, rfl, _, rfl, iteF ⟨_, rfl, rfl, _, rfl, iteF ⟨_, rfl, rfl, _, rfl, iteF ⟨_, rfl, x, _, rfl, h, bad (Same.refl H) q⟩⟩⟩⟩⟩⟩⟩⟩
  · obtain ⟨dx', v, e1, e2, h1, q⟩ := hE
    cases e1
    cases e2
    refine ⟨true, ex, ?_⟩
    rw [if_pos rfl]
    intro e he
    have hl5 : σ'.length = 5 := hl
    have g2 := same_new he (errH e C dx)
    match σ', hl5 with
    | [u1, u2, u3, u4, u5], _ =>
      refine ⟨_, rfl, e, C, dx, fI, bm, _, _, rfl, upd_same, ec, nf, g2 _ _ h1, rfl, (by show 2 ≤ sizeLine; decide), fun r hr' => ?_⟩
      have g3 := same_new hr' (.tup [.str "none", v])
      exact q r _ (g2.trans g3) upd_same
end
end S
set_option Elab.async false
set_option linter.all false
set_option maxRecDepth 100000
namespace S
open PySem L2
theorem bg_of6 {n : Nat} {i : Int} (h0 : 0 ≤ i) (h1 : i < 2 ^ n) : BG n i := ⟨h0, h1⟩
theorem bg_small {n : Int} (h0 : 0 < n) (h1 : n < 1000) : BG 8000 n := (bg_of6 (n := 10) (by omega) (by omega)).mono (by decide)
structure DOk (m n : Nat) (d : PyData) : Prop where
  shw : d.showable = true
  dep : d.depth ≤ m
  lvs : d.leavesShort 500 = true
  blk : d.bulk ≤ n
theorem log_lt {i : Int} (h : BG 1400 i) : i.natAbs.log2 < 1920 := by
  obtain ⟨a, rfl⟩ := Int.eq_ofNat_of_zero_le h.1
  have h1 : a < 2 ^ 1400 := by have := h.2; exact_mod_cast this
  show a.log2 < 1920
  by_cases z : a = 0
  · subst z; decide
  · have := (Nat.log2_lt z).mpr h1
    omega
theorem int_len {i : Int} (h : BG 1400 i) : (PyData.shown (.int i)).length ≤ 500 := by
  obtain ⟨a, rfl⟩ := Int.eq_ofNat_of_zero_le h.1
  have h1 : a < 2 ^ 1400 := by have := h.2; exact_mod_cast this
  have h2 : a < 10 ^ 450 := Nat.lt_trans h1 (by decide +kernel)
  have h3 := PySem.toDigits_len_pow (b := 10) (k := 450) (by decide) (by decide) h2
  rw [PyData.shown_int]
  show (Str.ofString (toString (Int.ofNat a))).length ≤ 500
  rw [PyProof.Rows.ofString_len]
  have e : toString (Int.ofNat a) = String.ofList (Nat.toDigits 10 a) := rfl
  rw [e, String.length_ofList]
  omega
theorem DOk.int {i : Int} (h : BG 1400 i) : DOk 0 1 (.int i) := ⟨(by simp only [PyData.showable, decide_eq_true (log_lt h)]), (by simp only [PyData.depth]; omega), (by simp only [PyData.leavesShort, decide_eq_true (int_len h)]), (by simp only [PyData.bulk]; omega)⟩
theorem DOk.mono {m n m' n' : Nat} {d : PyData} (h : DOk m n d) (a : m ≤ m') (b : n ≤ n') : DOk m' n' d := ⟨h.shw, Nat.le_trans h.dep a, h.lvs, Nat.le_trans h.blk b⟩
theorem DOk.l1 {m n : Nat} {d : PyData} (h : DOk m n d) : DOk (m + 1) (n + 1) (.list [d]) := ⟨(by simp only [PyData.showable, PyData.showableAll, h.shw]; rfl), (by have := h.dep; simp only [PyData.depth, PyData.depthAll]; omega), (by simp only [PyData.leavesShort, PyData.leavesShortAll, h.lvs]; rfl), (by have := h.blk; simp only [PyData.bulk, PyData.bulkAll]; omega)⟩
theorem DOk.l2 {m n : Nat} {d e : PyData} (h : DOk m n d) (k : DOk m n e) : DOk (m + 1) (n + n + 2) (.list [d, e]) := ⟨(by simp only [PyData.showable, PyData.showableAll, h.shw, k.shw]; rfl), (by have := h.dep; have := k.dep; simp only [PyData.depth, PyData.depthAll]; omega), (by simp only [PyData.leavesShort, PyData.leavesShortAll, h.lvs, k.lvs]; rfl), (by have := h.blk; have := k.blk; simp only [PyData.bulk, PyData.bulkAll]; omega)⟩
theorem DOk.t2 {m n : Nat} {d e : PyData} (h : DOk m n d) (k : DOk m n e) : DOk (m + 1) (n + n + 2) (.tuple [d, e]) := ⟨(by simp only [PyData.showable, PyData.showableAll, h.shw, k.shw]; rfl), (by have := h.dep; have := k.dep; simp only [PyData.depth, PyData.depthAll]; omega), (by simp only [PyData.leavesShort, PyData.leavesShortAll, h.lvs, k.lvs]; rfl), (by have := h.blk; have := k.blk; simp only [PyData.bulk, PyData.bulkAll]; omega)⟩
theorem DOk.t3 {m n : Nat} {d e f : PyData} (h : DOk m n d) (k : DOk m n e) (l : DOk m n f) : DOk (m + 1) (n + n + n + 3) (.tuple [d, e, f]) := ⟨(by simp only [PyData.showable, PyData.showableAll, h.shw, k.shw, l.shw]; rfl), (by have := h.dep; have := k.dep; have := l.dep; simp only [PyData.depth, PyData.depthAll]; omega), (by simp only [PyData.leavesShort, PyData.leavesShortAll, h.lvs, k.lvs, l.lvs]; rfl), (by have := h.blk; have := k.blk; have := l.blk; simp only [PyData.bulk, PyData.bulkAll]; omega)⟩
theorem DOk.out {m n : Nat} {d : PyData} (h : DOk m n d) (hm : m ≤ 100) (hn : n ≤ 20000) : d.showable = true ∧ d.depth ≤ 100 ∧ d.shown.length ≤ sizeLine := by
  refine ⟨h.shw, Nat.le_trans h.dep hm, ?_⟩
  have q := PyData.shown_le_bulk 500 (by decide) _ h.lvs
  have z : 16777216 ≤ sizeLine := by decide
  have e := Nat.le_trans h.blk hn
  have := Nat.mul_le_mul_left 502 e
  omega
def nayD (d : PyData) : PyData := .tuple [.str "none", d]
theorem DOk.nay {m n : Nat} {d : PyData} (h : DOk m n d) : DOk (m + 1) (n + 10) (nayD d) := by
  have e1 : (PyData.str "none").leavesShort 500 = true := by decide +kernel
  have e2 : (PyData.str "none").bulk ≤ 6 := by decide +kernel
  exact ⟨(by simp only [nayD, PyData.showable, PyData.showableAll, h.shw]; rfl), (by have := h.dep; simp only [nayD, PyData.depth, PyData.depthAll]; omega), (by simp only [nayD, PyData.leavesShort, PyData.leavesShortAll, h.lvs] at e1 ⊢; rw [e1]; rfl), (by have := h.blk; simp only [nayD, PyData.bulk, PyData.bulkAll] at e2 ⊢; omega)⟩
def Dat (K : PySem.W.Frag) (H : Hp) (v : V) (d : PyData) : Prop := (DV K H v d ∧ d.hasDict = false) ∨ DW K H v d
theorem Dat.rx {K : PySem.W.Frag} {H : Hp} {v : V} {d : PyData} {m n : Nat} {r : Addr} {Q : VK} (h : Dat K H v d) (o : DOk m n d) (hm : m ≤ 50) (hn : n ≤ 10000) (A : H r = some (.tup [.str "none", v])) (q : Q (.str (nayD d).shown) H) : RX K [.ref r] H Q := by
  obtain ⟨s1, s2, s3⟩ := o.nay.out (by omega) (by omega)
  rcases h with ⟨dv, nd⟩ | dw
  · refine .mk (.inl ⟨.ref r, nayD d, rfl, .tup (SqT.of A) (.cons (.str _) (.cons dv .nil)), s1, ?_, s2, s3, q⟩)
    simp only [nayD, PyData.hasDict, PyData.hasDictAll, nd]
    rfl
  · exact .mk (.inr ⟨.ref r, nayD d, rfl, .tup (SqT.of A) (.cons (.str _) (.cons dw .nil)), s1, s2, s3, q⟩)
structure Ob (K : PySem.W.Frag) (b : Addr) (H : Hp) (v : V) (s : Bool) : Prop where
  sh : ∀ H', Away b H H' → Sh H' v s
  dt : ∃ d, DOk 10 200 d ∧ ∀ H', Away b H H' → Dat K H' v d
theorem Ob.away {K : PySem.W.Frag} {b : Addr} {H H' : Hp} {v : V} {s : Bool} (h : Ob K b H v s) (g : Away b H H') : Ob K b H' v s :=
  ⟨fun H2 g2 => h.sh H2 (g.trans g2), let ⟨d, o, f⟩ := h.dt; ⟨d, o, fun H2 g2 => f H2 (g.trans g2)⟩⟩
theorem Ob.flat {K : PySem.W.Frag} {b : Addr} {H : Hp} {v : V} {d : PyData} (h : ∀ H', Th H' v) (n : ∀ a, v ≠ .ref a) (dv : ∀ H', DV K H' v d) (o : DOk 10 200 d) (nd : d.hasDict = false) : Ob K b H v false :=
  ⟨fun H' _ => .flat (h H') fun a xs e => absurd e (n a), d, o, fun H' _ => .inl ⟨dv H', nd⟩⟩
theorem Ob.lst {K : PySem.W.Frag} {b a : Addr} {H : Hp} {xs : List V} {ds : List PyData} (h : H a = some (.lst xs)) (n : a ≠ b) (dv : ∀ H', DVs K H' xs ds) (o : DOk 10 200 (.list ds)) (nd : (PyData.list ds).hasDict = false) : Ob K b H (.ref a) false :=
  ⟨fun H' g => .flat (.inl ⟨xs, g _ _ h n⟩) fun a' ys e => by cases e; rw [g _ _ h n]; exact fun z => (nomatch z), _, o, fun H' g => .inl ⟨.lst (SqL.of (g _ _ h n)) (dv H'), nd⟩⟩
theorem Ob.dct {K : PySem.W.Frag} {b a : Addr} {H : Hp} (h : H a = some (.dK [])) (n : a ≠ b) : Ob K b H (.ref a) false :=
  ⟨fun H' g => .flat (.inr (.inr ⟨[], g _ _ h n⟩)) fun a' ys e => by cases e; rw [g _ _ h n]; exact fun z => (nomatch z), .dict [], ⟨by decide +kernel, by decide +kernel, by decide +kernel, by decide +kernel⟩, fun H' g => .inr (.dct (kvs := []) (g _ _ h n) .nil)⟩
theorem Ob.tup {K : PySem.W.Frag} {b a : Addr} {H : Hp} {xs : List V} {ds : List PyData} (h : H a = some (.tup xs)) (n : a ≠ b) (l : xs.length ≠ 2) (dv : ∀ H', DVs K H' xs ds) (o : DOk 10 200 (.tuple ds)) (nd : (PyData.tuple ds).hasDict = false) : Ob K b H (.ref a) false :=
  ⟨fun H' g => .odd (g _ _ h n) l, _, o, fun H' g => .inl ⟨.tup (SqT.of (g _ _ h n)) (dv H'), nd⟩⟩
theorem Ob.two {K : PySem.W.Frag} {b a : Addr} {H : Hp} {x y : V} {ds : List PyData} {s : Bool} (h : H a = some (.tup [x, y])) (n : a ≠ b) (hx : ∀ H', Away b H H' → Th H' x) (hy : ∀ H', Away b H H' → Th H' y) (e : shareB x y = s) (dv : ∀ H', Away b H H' → DVs K H' [x, y] ds) (o : DOk 10 200 (.tuple ds)) (nd : (PyData.tuple ds).hasDict = false) : Ob K b H (.ref a) s :=
  ⟨fun H' g => e ▸ .two (g _ _ h n) (hx H' g) (hy H' g), _, o, fun H' g => .inl ⟨.tup (SqT.of (g _ _ h n)) (dv H' g), nd⟩⟩
theorem Ob.share {K : PySem.W.Frag} {b a : Addr} {H : Hp} {x y : Int} (h : H a = some (.tup [.int x, .int y])) (n : a ≠ b) (s : isSh x y) (xB : BG 138 x) (yB : BG 138 y) : Ob K b H (.ref a) true := by
  refine .two h n (fun _ _ => trivial) (fun _ _ => trivial) ?_ (fun _ _ => .cons (.int x) (.cons (.int y) .nil)) (((DOk.int (xB.mono (by decide))).t2 (DOk.int (yB.mono (by decide)))).mono (by decide) (by decide)) (by simp only [PyData.hasDict, PyData.hasDictAll]; rfl)
  obtain ⟨h1, h2, h3⟩ := s
  show (decide (x ≥ 0) && (decide (y ≥ 1) && decide (gc x y = 1))) = true
  rw [decide_eq_true h1, decide_eq_true h2, decide_eq_true h3]; rfl
end S
set_option Elab.async false
set_option linter.all false
set_option maxRecDepth 100000
namespace S
open PySem L2
theorem bVE : bootBuiltins "ValueError" = some (.type "ValueError") := by decide +kernel
theorem big20 {n : Int} (g : 0 ≤ n ∧ n < 10 ^ 20) : BG 1400 n := BG.mono (n := 70) ⟨g.1, Int.lt_trans g.2 (by decide)⟩ (by decide)
theorem Th8.dat {K : PySem.W.Frag} {b : Addr} {H : Hp} {v : V} (t : Th8 b H v) : ∃ d, DW K H v d ∧ DOk 10 200 d := by
  cases t with
  | @lst a n h g nb ns => exact ⟨_, .lst (SqL.of h) ns (.cons (.int n) .nil), (DOk.int (big20 g)).l1.mono (by decide) (by decide)⟩
  | @dct a n h g nb =>
    refine ⟨_, .dct h (.cons (.int n) .nil), ?_⟩
    have o := DOk.int (big20 g)
    have e1 : (PyData.str "a").leavesShort 500 = true := by decide +kernel
    have e2 : (PyData.str "a").bulk ≤ 5 := by decide +kernel
    show DOk 10 200 (.dict [(.str "a", .int n)])
    exact ⟨(by simp only [PyData.showable, PyData.showableKv] at *; have := o.shw; simp only [PyData.showable] at this; rw [this]; rfl), (by simp only [PyData.depth, PyData.depthKv]; omega), (by simp only [PyData.leavesShort, PyData.leavesShortKv] at *; have := o.lvs; simp only [PyData.leavesShort] at this; rw [this, e1]; rfl), (by simp only [PyData.bulk, PyData.bulkKv] at *; omega)⟩
  | @tup a n h g nb => exact ⟨_, .tup (SqT.of h) (.cons (.int n) (.cons .non .nil)), (((DOk.int (big20 g)).mono (Nat.le_refl 0) (by decide : 1 ≤ 5)).t2 ⟨by decide +kernel, by decide +kernel, by decide +kernel, by decide +kernel⟩).mono (by decide) (by decide)⟩
  | non => exact ⟨_, .non, ⟨by decide +kernel, by decide +kernel, by decide +kernel, by decide +kernel⟩⟩
  | tru => exact ⟨_, .bl true, ⟨by decide +kernel, by decide +kernel, by decide +kernel, by decide +kernel⟩⟩
  | @int n g => exact ⟨_, .int n, (DOk.int (big20 g)).mono (by decide) (by decide)⟩
  | str => exact ⟨_, .str "a b", ⟨by decide +kernel, by decide +kernel, by decide +kernel, by decide +kernel⟩⟩
  | @two a c h h' nb nc ns nt => exact ⟨.list [.list []], .lst (SqL.of h) ns (.cons (.lst (SqL.of h') nt .nil) .nil), ⟨by decide +kernel, by decide +kernel, by decide +kernel, by decide +kernel⟩⟩
theorem due_dw {K : PySem.W.Frag} {b : Addr} {H : Hp} {x y : V} (hx : Th8 b H x) (hy : Th8 b H y) (i : Nat) : ∃ ds, DOk 20 1000 (.list ds) ∧ DWs K H (dueF i x y) ds := by
  obtain ⟨d, dx, ox⟩ := hx.dat (K := K)
  obtain ⟨e, dy, oy⟩ := hy.dat (K := K)
  unfold dueF
  split
  · exact ⟨_, (ox.l2 oy).mono (by decide) (by decide), .cons dx (.cons dy .nil)⟩
  · split
    · exact ⟨[], ⟨by decide +kernel, by decide +kernel, by decide +kernel, by decide +kernel⟩, .nil⟩
    · exact ⟨_, ox.l1.mono (by decide) (by decide), .cons dx .nil⟩
def spMade : Sp := fun vs H Q _ => ∃ b x y, vs = [x, y] ∧ Th8 b H x ∧ Th8 b H y ∧ ∀ H', Same H H' → Q (.bl true) H'
section
variable {P : Program} {w : World} {K : PySem.W.Frag} {mg : Str → Option Value} {base : Heap} {Cs : Nat → Addr} {bm : List Value}
theorem scMade6 : FnScope ["_law_thing", "_law_other", "_law_k", "_law_error_here", "_law_due"] ["_law_thing", "_law_other"] (defScope s_law_made_right) := ⟨rfl, rfl, rfl, by decide +kernel, rfl, by decide +kernel, by decide +kernel⟩
set_option maxHeartbeats 2000000 in
theorem ok_made6 {f a1 a2 a3 CM : Addr} {fd d1 d2 d3 : FuncData} (F : Fun K "_law_made_right" "_law_made_right" s_law_made_right f fd) (mr : mg "range" = none) (mi : mg "int" = none) (mis : mg "isinstance" = none) (mrp : mg "repr" = none) (mv : mg "ValueError" = none) (mM : mg "MeetError" = some (.ref CM)) (t : Tab K Cs bm)
    (kM : ∀ j, j ≤ 20 → PySem.W.kitOne K (.ref (Cs j)) (.ref CM) = some true) (kV : ∀ j, j ≤ 20 → PySem.W.kitOne K (.ref (Cs j)) (.type "ValueError") = some true)
    (D1 : Def P w K mg base 5 "_law_error" ["_law_k", "_law_thing", "_law_other"] (spErrK Cs 0 20) a1 d1) (D2 : Def P w K mg base 1 "_law_fields" ["_law_k", "_law_error_here"] (spFields Cs) a2 d2) (D3 : Def P w K mg base 1 "_law_kinds" ["_law_error_here"] (spKinds Cs) a3 d3) : FnOk P w K mg base CX0 6 f fd ["_law_thing", "_law_other"] spMade := by
  refine F.ok scMade6 (fun vs H Q E h => ?_) (fun cdv A outer s H vs Q E hr h => ?_)
  · obtain ⟨b, x, y, rfl, _⟩ := h
    rfl
  obtain ⟨b, x, y, rfl, hx, hy, q⟩ := h
  have hr1 : Room 1 _ := hr.mono (by decide)
  refine ⟨_, pss_cons (ps_for PassesOwn.never rfl (pi_range1 rfl mr (pa_cons pe_int pa_nil)) (pg_name (i := 2) scMade6.nd rfl (Or.inl rfl))
      (pss_cons (ps_set (i := 3) scMade6.nd rfl (Or.inl rfl) (pe_call D1.ok hr rfl D1.m D1.k D1.b .nil pass0 (pa_cons (pv 2) (pa_cons (pv 0) (pa_cons (pv 1) pa_nil)))))
      (pss_cons (ps_if (PW.pt (pw_or (pt_not (pt_val (pe_callB call_instE rfl mis PyProof.Rows.boot_isinstance (pa_cons (pv 3) (pa_cons (pe_glob (v := .ref CM) rfl mM rfl) pa_nil)))))
          (pw_or (pt_not (pt_val (pe_callB call_instE rfl mis PyProof.Rows.boot_isinstance (pa_cons (pv 3) (pa_cons (pe_bltn (v := .ty "ValueError") rfl mv bVE rfl) pa_nil)))))
          (pw_or1 (pt_cmpR (op_neD hr) (pe_call D3.ok hr1 rfl D3.m D3.k D3.b .nil pass0 (pa_cons (pv 3) pa_nil)) (pe_lst (pa_cons (pv 2) pa_nil)) (nomark _)))))) (pss_one (ps_ret pe_bl)) pss_nil)
      (pss_cons (ps_set (i := 4) scMade6.nd rfl (Or.inl rfl) (pe_slice sl_listN (pe_lst (pa_cons (pv 0) (pa_cons (pv 1) pa_nil))) po_none (po_some (pe_op op_sub (pe_op op_sub pe_int (pe_callTy call_int1 rfl mi PyProof.Rows.boot_int (pa_cons (pe_cmpR op_ne (pv 2) pe_int (nomark _)) pa_nil))) (pe_callTy call_int1 rfl mi PyProof.Rows.boot_int (pa_cons (pe_cmpR op_eq (pv 2) pe_int (nomark _)) pa_nil))))))
      (pss_one (ps_if (pt_cmpR op_ne (pe_callB (call_reprD hr) rfl mrp PyProof.Rows.boot_repr (pa_cons (pe_call D2.ok hr1 rfl D2.m D2.k D2.b .nil pass0 (pa_cons (pv 2) (pa_cons (pv 3) pa_nil))) pa_nil)) (pe_callB (call_reprD hr) rfl mrp PyProof.Rows.boot_repr (pa_cons (pv 4) pa_nil)) (nomark _)) (pss_one (ps_ret pe_bl)) pss_nil))))))
    (pss_one (ps_ret pe_bl)), ?_⟩
  have s1 : (1 : Nat) ≤ sizeLine := by decide
  refine ⟨21, rfl, by decide, by decide, ?_⟩
  refine for_range (lo := 0) (fun i σ H' => Same H H' ∧ ∃ v1 v2 v3, σ = [some x, some y, v1, v2, v3]) ⟨Same.refl _, _, _, _, rfl⟩ (fun i σ H1 hi hP => ?_) (fun σ H1 hP => ?_)
  · obtain ⟨gg, v1, v2, v3, rfl⟩ := hP
    have hi : i < 21 := hi
    refine ⟨_, rfl, _, rfl, _, rfl, i, x, y, (by show [V.int (0 + (i : Int)), _, _] = _; rw [Int.zero_add]), by omega, by omega, fun e H2 he g2 hM => ?_⟩
    obtain ⟨dx, hed⟩ := hM.at_
    obtain ⟨fI, ec⟩ := t.er i (by omega)
    refine ⟨_, rfl, .own true hed ec (t.fc i (by omega)) (kM i (by omega)) ⟨_, rfl, iteF ⟨_, rfl, .ty true hed ec (t.fc i (by omega)) (kV i (by omega)) ⟨_, rfl, iteF ?_⟩⟩⟩⟩
    refine ⟨_, rfl, e, i, x, y, rfl, by omega, hM, fun D H3 hD g3 d3 => ⟨_, rfl, s1, fun L hL => ?_⟩⟩
    have g4 := same_new hL (.lst [.int (0 + (i : Int))])
    refine rNe_same (d := .list [.int (i : Nat)]) (.lst (SqL.of (g4 _ _ d3)) (.cons (.int _) .nil)) (.lst (xs := [.int (0 + (i : Int))]) (SqL.of upd_same) (.cons (by rw [Int.zero_add]; exact .int _) .nil)) rfl (by simp only [PyData.depth, PyData.depthAll]; omega) ⟨_, rfl, iteF ?_⟩
    generalize upd H3 L (.lst [.int (0 + (i : Int))]) = H4 at g4 ⊢
    refine ⟨_, rfl, _, rfl, (by show 2 ≤ sizeLine; decide), fun L2 hL2 => ?_⟩
    have g5 := same_new hL2 (.lst [x, y])
    have d5 : (upd H4 L2 (.lst [x, y])) L2 = some (.lst [x, y]) := upd_same
    generalize upd H4 L2 (.lst [x, y]) = H5 at g5 d5 ⊢
    refine ⟨_, rfl, rfl, .inr ⟨_, rfl, _, _, rfl, rfl, _, rfl, rfl, .inr ⟨_, rfl, _, _, rfl, rfl, _, rfl, L2, _, rfl, SqL.of d5, fun Du hDu nDu => ?_⟩⟩⟩
    rw [cut_due]
    have g6 := same_new hDu (.lst (dueF i x y))
    have d6 : (upd H5 Du (.lst (dueF i x y))) Du = some (.lst (dueF i x y)) := upd_same
    generalize upd H5 Du (.lst (dueF i x y)) = H6 at g6 d6 ⊢
    have g26 := ((g3.trans g4).trans g5).trans g6
    refine ⟨_, rfl, _, rfl, e, i, x, y, (by show [V.int (0 + (i : Int)), _] = _; rw [Int.zero_add]), by omega, hM.same g26, fun D2 H7 hD2 nD2 g7 d7 => ?_⟩
    have g17 := (gg.trans g2).trans (g26.trans g7)
    obtain ⟨ds, o, dw⟩ := due_dw (K := K) (hx.away (away_of g17)) (hy.away (away_of g17)) i
    obtain ⟨z1, z2, z3⟩ := o.out (by decide) (by decide)
    refine ⟨.ref D2, _, rfl, .lst (SqL.of d7) nD2 dw, z1, z2, z3, _, rfl, .ref Du, _, rfl, .lst (SqL.of (g7 _ _ d6)) nDu dw, z1, z2, z3, rfl, _, rfl, ?_⟩
    have same : (!decide (V.str (PyData.list ds).shown = V.str (PyData.list ds).shown)) = false := by simp
    rw [same]
    exact iteF ⟨g17, _, _, _, rfl⟩
  · obtain ⟨gg, v1, v2, v3, rfl⟩ := hP
    exact q H1 gg
end
end S
set_option Elab.async false
set_option linter.all false
set_option maxRecDepth 100000
namespace S
open PySem L2
def spOdd (K : PySem.W.Frag) : Sp := fun vs H Q _ => ∃ b, vs = [.ref b] ∧ BoxAt H b ∧ ∀ v H', BoxAt H' b → Away b H H' → Ob K b H' v false → Q v H'
theorem at_mem {xs : List V} {i : Int} (h0 : 0 ≤ i) (h : i < (xs.length : Int)) : ∃ v, v ∈ xs ∧ atI xs i = some v := by
  have hk : i.toNat < xs.length := by omega
  refine ⟨xs[i.toNat], List.getElem_mem hk, ?_⟩
  have q : atI xs ((i.toNat : Nat) : Int) = some xs[i.toNat] := atI_nat (List.getElem?_eq_getElem hk)
  rw [show ((i.toNat : Nat) : Int) = i by omega] at q
  exact q
section
variable {P : Program} {w : World} {K : PySem.W.Frag} {mg : Str → Option Value} {base : Heap}
theorem scOdd : FnScope ["_law_box_here", "_law_share_here", "_law_some"] ["_law_box_here"] (defScope s_law_odd) := ⟨rfl, rfl, rfl, by decide +kernel, rfl, by decide +kernel, by decide +kernel⟩
set_option maxHeartbeats 4000000 in
theorem ok_odd {f a1 a2 : Addr} {fd d1 d2 : FuncData} (F : Fun K "_law_odd" "_law_odd" s_law_odd f fd) (mli : mg "list" = none) (D1 : Def P w K mg base 3 "_law_share" ["_law_box_here"] spShare a1 d1) (D2 : Def P w K mg base 1 "_law_take" ["_law_box_here", "_law_many"] spTake a2 d2) : FnOk P w K mg base CX0 4 f fd ["_law_box_here"] (spOdd K) := by
  refine F.okH scOdd (fun vs H Q E h => ?_) (fun cdv A outer s H vs Q E hr h => ?_)
  · obtain ⟨b, rfl, _⟩ := h
    rfl
  obtain ⟨b, rfl, hb, q⟩ := h
  have hr1 : Room 1 _ := hr.mono (by decide)
  refine ⟨_, psH_cons (PS1.mk (ps_set (i := 1) scOdd.nd rfl (Or.inl rfl) (pe_call D1.ok hr rfl D1.m D1.k D1.b .nil pass0 (pa_cons (pv 0) pa_nil))))
    (psH_setL (i := 2) rfl scOdd.nd rfl (Or.inl rfl) (paH_pre 4 [.non, .int 3, .bl true, .str "1/2"] (paH_cons (peH_lst (paH_lits [.int 1, .int 2])) (paH_cons (peH_tup (paH_lits [])) (paH_cons (peH_tup (paH_lits [.int 1])) (paH_cons (peH_tup (paH_lits [.int 1, .int 2, .int 3])) (paH_cons (peH_tup (paH_lits [.int 2, .int 4])) (paH_cons (peH_tup (paH_lits [.int 0, .int 2])) (paH_cons (peH_tup (paH_lits [.int 0, .int 0])) (paH_cons (peH_tup (paH_lits [.int 1, .int 0])) (paH_cons (peH_tup (paH_cons (PEH.mk (pe_op op_sub pe_int pe_int)) (paH_cons peH_int paH_nil))) (paH_cons (peH_tup (paH_cons peH_int (paH_cons (PEH.mk (pe_op op_sub pe_int pe_int)) paH_nil))) paH_nil)))))))))))
    (pss_cons (ps_set (i := 2) scOdd.nd rfl (Or.inl rfl) (pe_op op_cat (pv 2) (PEH.out (peH_lst (paH_cons (peH_tup (paH_lits [.bl true, .int 2])) (paH_cons (peH_tup (paH_lits [.int 1, .bl true])) (paH_cons (peH_tup (paH_lits [.int 1, .non])) (paH_cons (peH_tup (paH_lits [.str "1", .int 2])) (paH_cons peH_dnewK (paH_cons (PEH.mk (pe_callTy call_list_of rfl mli PyProof.Rows.boot_list (pa_cons (pv 1) pa_nil))) (paH_cons (PEH.mk (pe_op op_catT (pv 1) (PEH.out (peH_tup (paH_lits [.int 1]))))) (paH_cons (peH_tup (paH_cons (PEH.mk (pv 1)) (paH_cons (PEH.mk (pv 1)) paH_nil))) paH_nil))))))))))))
    (pss_one (ps_ret (pe_ix ix_list (pv 2) (pe_call D2.ok hr1 rfl D2.m D2.k D2.b .nil pass0 (pa_cons (pv 0) (pa_cons pe_int pa_nil))) (fun _ _ => rfl)))))), ?_⟩
  refine ⟨_, rfl, b, rfl, hb, fun t x y H0 fr c0 sh xB yB b0 w0 => ?_⟩
  have nt : t ≠ b := fun z => by obtain ⟨_, _, e, _⟩ := hb; rw [z, e] at fr; cases fr
  refine ⟨(by show 2 ≤ sizeLine; decide), fun A1 h1 => ?_⟩
  have g1 := same_new h1 (.lst [.int 1, .int 2])
  have c1 : (upd H0 A1 (.lst [.int 1, .int 2])) A1 = some (.lst [.int 1, .int 2]) := upd_same
  have n1 : A1 ≠ b := (b0.ne h1).symm
  have b1 := b0.same g1
  generalize upd H0 A1 (.lst [.int 1, .int 2]) = H1 at g1 c1 b1 ⊢
  refine ⟨(by show 0 ≤ sizeLine; decide), fun A2 h2 => ?_⟩
  have g2 := same_new h2 (.tup [])
  have c2 : (upd H1 A2 (.tup [])) A2 = some (.tup []) := upd_same
  have n2 : A2 ≠ b := (b1.ne h2).symm
  have b2 := b1.same g2
  generalize upd H1 A2 (.tup []) = H2 at g2 c2 b2 ⊢
  refine ⟨(by show 1 ≤ sizeLine; decide), fun A3 h3 => ?_⟩
  have g3 := same_new h3 (.tup [.int 1])
  have c3 : (upd H2 A3 (.tup [.int 1])) A3 = some (.tup [.int 1]) := upd_same
  have n3 : A3 ≠ b := (b2.ne h3).symm
  have b3 := b2.same g3
  generalize upd H2 A3 (.tup [.int 1]) = H3 at g3 c3 b3 ⊢
  refine ⟨(by show 3 ≤ sizeLine; decide), fun A4 h4 => ?_⟩
  have g4 := same_new h4 (.tup [.int 1, .int 2, .int 3])
  have c4 : (upd H3 A4 (.tup [.int 1, .int 2, .int 3])) A4 = some (.tup [.int 1, .int 2, .int 3]) := upd_same
  have n4 : A4 ≠ b := (b3.ne h4).symm
  have b4 := b3.same g4
  generalize upd H3 A4 (.tup [.int 1, .int 2, .int 3]) = H4 at g4 c4 b4 ⊢
  refine ⟨(by show 2 ≤ sizeLine; decide), fun A5 h5 => ?_⟩
  have g5 := same_new h5 (.tup [.int 2, .int 4])
  have c5 : (upd H4 A5 (.tup [.int 2, .int 4])) A5 = some (.tup [.int 2, .int 4]) := upd_same
  have n5 : A5 ≠ b := (b4.ne h5).symm
  have b5 := b4.same g5
  generalize upd H4 A5 (.tup [.int 2, .int 4]) = H5 at g5 c5 b5 ⊢
  refine ⟨(by show 2 ≤ sizeLine; decide), fun A6 h6 => ?_⟩
  have g6 := same_new h6 (.tup [.int 0, .int 2])
  have c6 : (upd H5 A6 (.tup [.int 0, .int 2])) A6 = some (.tup [.int 0, .int 2]) := upd_same
  have n6 : A6 ≠ b := (b5.ne h6).symm
  have b6 := b5.same g6
  generalize upd H5 A6 (.tup [.int 0, .int 2]) = H6 at g6 c6 b6 ⊢
  refine ⟨(by show 2 ≤ sizeLine; decide), fun A7 h7 => ?_⟩
  have g7 := same_new h7 (.tup [.int 0, .int 0])
  have c7 : (upd H6 A7 (.tup [.int 0, .int 0])) A7 = some (.tup [.int 0, .int 0]) := upd_same
  have n7 : A7 ≠ b := (b6.ne h7).symm
  have b7 := b6.same g7
  generalize upd H6 A7 (.tup [.int 0, .int 0]) = H7 at g7 c7 b7 ⊢
  refine ⟨(by show 2 ≤ sizeLine; decide), fun A8 h8 => ?_⟩
  have g8 := same_new h8 (.tup [.int 1, .int 0])
  have c8 : (upd H7 A8 (.tup [.int 1, .int 0])) A8 = some (.tup [.int 1, .int 0]) := upd_same
  have n8 : A8 ≠ b := (b7.ne h8).symm
  have b8 := b7.same g8
  generalize upd H7 A8 (.tup [.int 1, .int 0]) = H8 at g8 c8 b8 ⊢
  refine ⟨_, _, rfl, rfl, (by show 2 ≤ sizeLine; decide), fun A9 h9 => ?_⟩
  have g9 := same_new h9 (.tup [.int (0 - 1), .int 2])
  have c9 : (upd H8 A9 (.tup [.int (0 - 1), .int 2])) A9 = some (.tup [.int (0 - 1), .int 2]) := upd_same
  have n9 : A9 ≠ b := (b8.ne h9).symm
  have b9 := b8.same g9
  generalize upd H8 A9 (.tup [.int (0 - 1), .int 2]) = H9 at g9 c9 b9 ⊢
  refine ⟨_, _, rfl, rfl, (by show 2 ≤ sizeLine; decide), fun A10 h10 => ?_⟩
  have g10 := same_new h10 (.tup [.int 1, .int (0 - 2)])
  have c10 : (upd H9 A10 (.tup [.int 1, .int (0 - 2)])) A10 = some (.tup [.int 1, .int (0 - 2)]) := upd_same
  have n10 : A10 ≠ b := (b9.ne h10).symm
  have b10 := b9.same g10
  generalize upd H9 A10 (.tup [.int 1, .int (0 - 2)]) = H10 at g10 c10 b10 ⊢
  refine ⟨(by show 14 ≤ sizeLine; decide), fun A11 h11 => ?_⟩
  have g11 := same_new h11 (.lst ([.non, .int 3, .bl true, .str "1/2"] ++ [.ref A1, .ref A2, .ref A3, .ref A4, .ref A5, .ref A6, .ref A7, .ref A8, .ref A9, .ref A10]))
  have c11 : (upd H10 A11 (.lst ([.non, .int 3, .bl true, .str "1/2"] ++ [.ref A1, .ref A2, .ref A3, .ref A4, .ref A5, .ref A6, .ref A7, .ref A8, .ref A9, .ref A10]))) A11 = some (.lst ([.non, .int 3, .bl true, .str "1/2"] ++ [.ref A1, .ref A2, .ref A3, .ref A4, .ref A5, .ref A6, .ref A7, .ref A8, .ref A9, .ref A10])) := upd_same
  have n11 : A11 ≠ b := (b10.ne h11).symm
  have b11 := b10.same g11
  generalize upd H10 A11 (.lst ([.non, .int 3, .bl true, .str "1/2"] ++ [.ref A1, .ref A2, .ref A3, .ref A4, .ref A5, .ref A6, .ref A7, .ref A8, .ref A9, .ref A10])) = H11 at g11 c11 b11 ⊢
  have c11 : H11 A11 = some (.lst [.non, .int 3, .bl true, .str "1/2", .ref A1, .ref A2, .ref A3, .ref A4, .ref A5, .ref A6, .ref A7, .ref A8, .ref A9, .ref A10]) := c11
  refine ⟨_, rfl, ?_⟩
  refine ⟨(by show 2 ≤ sizeLine; decide), fun A12 h12 => ?_⟩
  have g12 := same_new h12 (.tup [.bl true, .int 2])
  have c12 : (upd H11 A12 (.tup [.bl true, .int 2])) A12 = some (.tup [.bl true, .int 2]) := upd_same
  have n12 : A12 ≠ b := (b11.ne h12).symm
  have b12 := b11.same g12
  generalize upd H11 A12 (.tup [.bl true, .int 2]) = H12 at g12 c12 b12 ⊢
  refine ⟨(by show 2 ≤ sizeLine; decide), fun A13 h13 => ?_⟩
  have g13 := same_new h13 (.tup [.int 1, .bl true])
  have c13 : (upd H12 A13 (.tup [.int 1, .bl true])) A13 = some (.tup [.int 1, .bl true]) := upd_same
  have n13 : A13 ≠ b := (b12.ne h13).symm
  have b13 := b12.same g13
  generalize upd H12 A13 (.tup [.int 1, .bl true]) = H13 at g13 c13 b13 ⊢
  refine ⟨(by show 2 ≤ sizeLine; decide), fun A14 h14 => ?_⟩
  have g14 := same_new h14 (.tup [.int 1, .non])
  have c14 : (upd H13 A14 (.tup [.int 1, .non])) A14 = some (.tup [.int 1, .non]) := upd_same
  have n14 : A14 ≠ b := (b13.ne h14).symm
  have b14 := b13.same g14
  generalize upd H13 A14 (.tup [.int 1, .non]) = H14 at g14 c14 b14 ⊢
  refine ⟨(by show 2 ≤ sizeLine; decide), fun A15 h15 => ?_⟩
  have g15 := same_new h15 (.tup [.str "1", .int 2])
  have c15 : (upd H14 A15 (.tup [.str "1", .int 2])) A15 = some (.tup [.str "1", .int 2]) := upd_same
  have n15 : A15 ≠ b := (b14.ne h15).symm
  have b15 := b14.same g15
  generalize upd H14 A15 (.tup [.str "1", .int 2]) = H15 at g15 c15 b15 ⊢
  intro A16 h16
  have g16 := same_new h16 (.dK [])
  have c16 : (upd H15 A16 (.dK [])) A16 = some (.dK []) := upd_same
  have n16 : A16 ≠ b := (b15.ne h16).symm
  have b16 := b15.same g16
  generalize upd H15 A16 (.dK []) = H16 at g16 c16 b16 ⊢
  refine ⟨_, rfl, t, _, rfl, .inr (SqT.of ((g1.trans (g2.trans (g3.trans (g4.trans (g5.trans (g6.trans (g7.trans (g8.trans (g9.trans (g10.trans (g11.trans (g12.trans (g13.trans (g14.trans (g15.trans g16))))))))))))))) _ _ c0)), fun A17 h17 => ?_⟩
  have g17 := same_new h17 (.lst [.int x, .int y])
  have c17 : (upd H16 A17 (.lst [.int x, .int y])) A17 = some (.lst [.int x, .int y]) := upd_same
  have n17 : A17 ≠ b := (b16.ne h17).symm
  have b17 := b16.same g17
  generalize upd H16 A17 (.lst [.int x, .int y]) = H17 at g17 c17 b17 ⊢
  refine ⟨_, rfl, (by show 1 ≤ sizeLine; decide), fun A18 h18 => ?_⟩
  have g18 := same_new h18 (.tup [.int 1])
  have c18 : (upd H17 A18 (.tup [.int 1])) A18 = some (.tup [.int 1]) := upd_same
  have n18 : A18 ≠ b := (b17.ne h18).symm
  have b18 := b17.same g18
  generalize upd H17 A18 (.tup [.int 1]) = H18 at g18 c18 b18 ⊢
  refine ⟨t, A18, _, _, rfl, rfl, SqT.of ((g1.trans (g2.trans (g3.trans (g4.trans (g5.trans (g6.trans (g7.trans (g8.trans (g9.trans (g10.trans (g11.trans (g12.trans (g13.trans (g14.trans (g15.trans (g16.trans (g17.trans g18))))))))))))))))) _ _ c0), SqT.of c18, (by simp), (by show 3 ≤ sizeLine; decide), (fun z => nomatch z), fun _ A19 h19 => ?_⟩
  have g19 := same_new h19 (.tup ([.int x, .int y] ++ [.int 1]))
  have c19 : (upd H18 A19 (.tup ([.int x, .int y] ++ [.int 1]))) A19 = some (.tup ([.int x, .int y] ++ [.int 1])) := upd_same
  have n19 : A19 ≠ b := (b18.ne h19).symm
  have b19 := b18.same g19
  generalize upd H18 A19 (.tup ([.int x, .int y] ++ [.int 1])) = H19 at g19 c19 b19 ⊢
  have c19 : H19 A19 = some (.tup [.int x, .int y, .int 1]) := c19
  refine ⟨_, rfl, _, rfl, (by show 2 ≤ sizeLine; decide), fun A20 h20 => ?_⟩
  have g20 := same_new h20 (.tup [.ref t, .ref t])
  have c20 : (upd H19 A20 (.tup [.ref t, .ref t])) A20 = some (.tup [.ref t, .ref t]) := upd_same
  have n20 : A20 ≠ b := (b19.ne h20).symm
  have b20 := b19.same g20
  generalize upd H19 A20 (.tup [.ref t, .ref t]) = H20 at g20 c20 b20 ⊢
  refine ⟨(by show 8 ≤ sizeLine; decide), fun A21 h21 => ?_⟩
  have g21 := same_new h21 (.lst [.ref A12, .ref A13, .ref A14, .ref A15, .ref A16, .ref A17, .ref A19, .ref A20])
  have c21 : (upd H20 A21 (.lst [.ref A12, .ref A13, .ref A14, .ref A15, .ref A16, .ref A17, .ref A19, .ref A20])) A21 = some (.lst [.ref A12, .ref A13, .ref A14, .ref A15, .ref A16, .ref A17, .ref A19, .ref A20]) := upd_same
  have n21 : A21 ≠ b := (b20.ne h21).symm
  have b21 := b20.same g21
  generalize upd H20 A21 (.lst [.ref A12, .ref A13, .ref A14, .ref A15, .ref A16, .ref A17, .ref A19, .ref A20]) = H21 at g21 c21 b21 ⊢
  refine ⟨A11, A21, _, _, rfl, rfl, ((g12.trans (g13.trans (g14.trans (g15.trans (g16.trans (g17.trans (g18.trans (g19.trans (g20.trans g21))))))))) _ _ c11), c21, (by show 14 + 8 ≤ sizeLine; decide), fun A22 h22 => ?_⟩
  have g22 := same_new h22 (.lst ([.non, .int 3, .bl true, .str "1/2", .ref A1, .ref A2, .ref A3, .ref A4, .ref A5, .ref A6, .ref A7, .ref A8, .ref A9, .ref A10] ++ [.ref A12, .ref A13, .ref A14, .ref A15, .ref A16, .ref A17, .ref A19, .ref A20]))
  have c22 : (upd H21 A22 (.lst ([.non, .int 3, .bl true, .str "1/2", .ref A1, .ref A2, .ref A3, .ref A4, .ref A5, .ref A6, .ref A7, .ref A8, .ref A9, .ref A10] ++ [.ref A12, .ref A13, .ref A14, .ref A15, .ref A16, .ref A17, .ref A19, .ref A20]))) A22 = some (.lst ([.non, .int 3, .bl true, .str "1/2", .ref A1, .ref A2, .ref A3, .ref A4, .ref A5, .ref A6, .ref A7, .ref A8, .ref A9, .ref A10] ++ [.ref A12, .ref A13, .ref A14, .ref A15, .ref A16, .ref A17, .ref A19, .ref A20])) := upd_same
  have n22 : A22 ≠ b := (b21.ne h22).symm
  have b22 := b21.same g22
  generalize upd H21 A22 (.lst ([.non, .int 3, .bl true, .str "1/2", .ref A1, .ref A2, .ref A3, .ref A4, .ref A5, .ref A6, .ref A7, .ref A8, .ref A9, .ref A10] ++ [.ref A12, .ref A13, .ref A14, .ref A15, .ref A16, .ref A17, .ref A19, .ref A20])) = H22 at g22 c22 b22 ⊢
  have c22 : H22 A22 = some (.lst [.non, .int 3, .bl true, .str "1/2", .ref A1, .ref A2, .ref A3, .ref A4, .ref A5, .ref A6, .ref A7, .ref A8, .ref A9, .ref A10, .ref A12, .ref A13, .ref A14, .ref A15, .ref A16, .ref A17, .ref A19, .ref A20]) := c22
  have k22 := Same.refl H22
  have k21 := g22.trans k22
  have k20 := g21.trans k21
  have k19 := g20.trans k20
  have k18 := g19.trans k19
  have k17 := g18.trans k18
  have k16 := g17.trans k17
  have k15 := g16.trans k16
  have k14 := g15.trans k15
  have k13 := g14.trans k14
  have k12 := g13.trans k13
  have k11 := g12.trans k12
  have k10 := g11.trans k11
  have k9 := g10.trans k10
  have k8 := g9.trans k9
  have k7 := g8.trans k8
  have k6 := g7.trans k7
  have k5 := g6.trans k6
  have k4 := g5.trans k5
  have k3 := g4.trans k4
  have k2 := g3.trans k3
  have k1 := g2.trans k2
  have k0 := g1.trans k1
  refine ⟨_, rfl, _, rfl, b, 22, rfl, by decide, bg_small (by decide) (by decide), b22, fun k HA m0 m1 bA wA => ?_⟩
  obtain ⟨v, hv, hat⟩ := at_mem (xs := [.non, .int 3, .bl true, .str "1/2", .ref A1, .ref A2, .ref A3, .ref A4, .ref A5, .ref A6, .ref A7, .ref A8, .ref A9, .ref A10, .ref A12, .ref A13, .ref A14, .ref A15, .ref A16, .ref A17, .ref A19, .ref A20]) m0 m1
  have lA := wA.away _ _ c22 n22
  refine ⟨A22, _, _, _, rfl, rfl, SqL.of lA, hat, ?_⟩
  have aN : Away b H0 H22 := away_of k0
  have all : Away b H HA := (w0.trans aN).trans wA.away
  refine q v HA bA all (Ob.away ?_ wA.away)
  have X1 : DOk 0 1 (.int x) := DOk.int (xB.mono (by decide))
  have Y1 : DOk 0 1 (.int y) := DOk.int (yB.mono (by decide))
  have ct := k0 _ _ c0
  simp only [List.mem_cons, List.not_mem_nil, or_false] at hv
  rcases hv with rfl | rfl | rfl | rfl | rfl | rfl | rfl | rfl | rfl | rfl | rfl | rfl | rfl | rfl | rfl | rfl | rfl | rfl | rfl | rfl | rfl | rfl
  · exact .flat (fun _ => trivial) (fun a z => nomatch z) (fun _ => .non) ⟨by decide +kernel, by decide +kernel, by decide +kernel, by decide +kernel⟩ rfl
  · exact .flat (fun _ => trivial) (fun a z => nomatch z) (fun _ => .int 3) ⟨by decide +kernel, by decide +kernel, by decide +kernel, by decide +kernel⟩ rfl
  · exact .flat (fun _ => trivial) (fun a z => nomatch z) (fun _ => .bl true) ⟨by decide +kernel, by decide +kernel, by decide +kernel, by decide +kernel⟩ rfl
  · exact .flat (fun _ => by show Str.length "1/2" ≤ 100000; decide +kernel) (fun a z => nomatch z) (fun _ => .str "1/2") ⟨by decide +kernel, by decide +kernel, by decide +kernel, by decide +kernel⟩ rfl
  · exact .lst (k1 _ _ c1) n1 (ds := [.int 1, .int 2]) (fun _ => (.cons (DV.int 1) (.cons (DV.int 2) .nil))) ⟨by decide +kernel, by decide +kernel, by decide +kernel, by decide +kernel⟩ (by decide +kernel)
  · exact .tup (k2 _ _ c2) n2 (by decide) (ds := []) (fun _ => .nil) ⟨by decide +kernel, by decide +kernel, by decide +kernel, by decide +kernel⟩ (by decide +kernel)
  · exact .tup (k3 _ _ c3) n3 (by decide) (ds := [.int 1]) (fun _ => (.cons (DV.int 1) .nil)) ⟨by decide +kernel, by decide +kernel, by decide +kernel, by decide +kernel⟩ (by decide +kernel)
  · exact .tup (k4 _ _ c4) n4 (by decide) (ds := [.int 1, .int 2, .int 3]) (fun _ => (.cons (DV.int 1) (.cons (DV.int 2) (.cons (DV.int 3) .nil)))) ⟨by decide +kernel, by decide +kernel, by decide +kernel, by decide +kernel⟩ (by decide +kernel)
  · exact .two (k5 _ _ c5) n5 (fun _ _ => trivial) (fun _ _ => trivial) (by decide +kernel) (ds := [.int 2, .int 4]) (fun _ _ => (.cons (DV.int 2) (.cons (DV.int 4) .nil))) ⟨by decide +kernel, by decide +kernel, by decide +kernel, by decide +kernel⟩ (by decide +kernel)
  · exact .two (k6 _ _ c6) n6 (fun _ _ => trivial) (fun _ _ => trivial) (by decide +kernel) (ds := [.int 0, .int 2]) (fun _ _ => (.cons (DV.int 0) (.cons (DV.int 2) .nil))) ⟨by decide +kernel, by decide +kernel, by decide +kernel, by decide +kernel⟩ (by decide +kernel)
  · exact .two (k7 _ _ c7) n7 (fun _ _ => trivial) (fun _ _ => trivial) (by decide +kernel) (ds := [.int 0, .int 0]) (fun _ _ => (.cons (DV.int 0) (.cons (DV.int 0) .nil))) ⟨by decide +kernel, by decide +kernel, by decide +kernel, by decide +kernel⟩ (by decide +kernel)
  · exact .two (k8 _ _ c8) n8 (fun _ _ => trivial) (fun _ _ => trivial) (by decide +kernel) (ds := [.int 1, .int 0]) (fun _ _ => (.cons (DV.int 1) (.cons (DV.int 0) .nil))) ⟨by decide +kernel, by decide +kernel, by decide +kernel, by decide +kernel⟩ (by decide +kernel)
  · exact .two (k9 _ _ c9) n9 (fun _ _ => trivial) (fun _ _ => trivial) (by decide +kernel) (ds := [.int (0 - 1), .int 2]) (fun _ _ => (.cons (DV.int (0 - 1)) (.cons (DV.int 2) .nil))) ⟨by decide +kernel, by decide +kernel, by decide +kernel, by decide +kernel⟩ (by decide +kernel)
  · exact .two (k10 _ _ c10) n10 (fun _ _ => trivial) (fun _ _ => trivial) (by decide +kernel) (ds := [.int 1, .int (0 - 2)]) (fun _ _ => (.cons (DV.int 1) (.cons (DV.int (0 - 2)) .nil))) ⟨by decide +kernel, by decide +kernel, by decide +kernel, by decide +kernel⟩ (by decide +kernel)
  · exact .two (k12 _ _ c12) n12 (fun _ _ => trivial) (fun _ _ => trivial) (by decide +kernel) (ds := [.bool true, .int 2]) (fun _ _ => (.cons (DV.bl true) (.cons (DV.int 2) .nil))) ⟨by decide +kernel, by decide +kernel, by decide +kernel, by decide +kernel⟩ (by decide +kernel)
  · exact .two (k13 _ _ c13) n13 (fun _ _ => trivial) (fun _ _ => trivial) (by decide +kernel) (ds := [.int 1, .bool true]) (fun _ _ => (.cons (DV.int 1) (.cons (DV.bl true) .nil))) ⟨by decide +kernel, by decide +kernel, by decide +kernel, by decide +kernel⟩ (by decide +kernel)
  · exact .two (k14 _ _ c14) n14 (fun _ _ => trivial) (fun _ _ => trivial) (by decide +kernel) (ds := [.int 1, .none]) (fun _ _ => (.cons (DV.int 1) (.cons (DV.non) .nil))) ⟨by decide +kernel, by decide +kernel, by decide +kernel, by decide +kernel⟩ (by decide +kernel)
  · exact .two (k15 _ _ c15) n15 (fun _ _ => by show Str.length "1" ≤ 100000; decide +kernel) (fun _ _ => trivial) (by decide +kernel) (ds := [.str "1", .int 2]) (fun _ _ => (.cons (DV.str "1") (.cons (DV.int 2) .nil))) ⟨by decide +kernel, by decide +kernel, by decide +kernel, by decide +kernel⟩ (by decide +kernel)
  · exact .dct (k16 _ _ c16) n16
  · exact .lst (k17 _ _ c17) n17 (fun _ => .cons (.int x) (.cons (.int y) .nil)) ((X1.l2 Y1).mono (by decide) (by decide)) (by simp only [PyData.hasDict, PyData.hasDictAll]; rfl)
  · exact .tup (k19 _ _ c19) n19 (by simp) (fun _ => .cons (.int x) (.cons (.int y) (.cons (.int 1) .nil))) ((X1.t3 Y1 (DOk.int (i := 1) ⟨by decide, by decide +kernel⟩)).mono (by decide) (by decide)) (by simp only [PyData.hasDict, PyData.hasDictAll]; rfl)
  · have th : ∀ H', Away b H22 H' → H' t = some (.tup [.int x, .int y]) := fun H' g => g _ _ ct nt
    have dt : ∀ H', Away b H22 H' → DV K H' (.ref t) (.tuple [.int x, .int y]) := fun H' g => .tup (SqT.of (th H' g)) (.cons (.int x) (.cons (.int y) .nil))
    exact .two (k20 _ _ c20) n20 (fun H' g => .inr (.inl ⟨_, th H' g⟩)) (fun H' g => .inr (.inl ⟨_, th H' g⟩)) rfl (fun H' g => .cons (dt H' g) (.cons (dt H' g) .nil)) (((X1.t2 Y1).t2 (X1.t2 Y1)).mono (by decide) (by decide)) (by simp only [PyData.hasDict, PyData.hasDictAll]; rfl)
end
end S
set_option Elab.async false
set_option linter.all false
set_option maxRecDepth 100000
namespace S
open PySem L2
theorem Ob.nay {K : PySem.W.Frag} {b : Addr} {H : Hp} {v : V} {s : Bool} (o : Ob K b H v s) : ∃ z : Str, ∀ (H' : Hp) (r : Addr) (Q : VK), Away b H H' → H' r = some (.tup [.str "none", v]) → Q (.str z) H' → RX K [.ref r] H' Q := by
  obtain ⟨d, ok, f⟩ := o.dt
  exact ⟨_, fun H' r Q g e q => (f H' g).rx ok (by decide) (by decide) e q⟩
theorem rx_bool {K : PySem.W.Frag} {H : Hp} {Q : VK} (s : Bool) (q : Q (.str (PyData.bool s).shown) H) : RX K [.bl s] H Q := by
  refine .mk (.inl ⟨.bl s, .bool s, rfl, .bl s, rfl, rfl, ?_, ?_, q⟩)
  · simp only [PyData.depth]; omega
  · cases s <;> decide +kernel
theorem same_ne (z : Str) : (!decide (V.str z = V.str z)) = false := by simp
theorem first_bad {f : V → Bool} : ∀ {vs : List V}, (∃ v ∈ vs, f v = true) → ∃ (i : Nat) (w : V), vs[i]? = some w ∧ f w = true ∧ (∀ (j : Nat) (v : V), j < i → vs[j]? = some v → f v = false) ∧ (vs.filter f)[0]? = some w
  | [], h => by obtain ⟨v, hv, _⟩ := h; cases hv
  | x :: xs, h => by
    cases e : f x with
    | true => exact ⟨0, x, rfl, e, fun j v hj => absurd hj (Nat.not_lt_zero j), by rw [List.filter_cons, e]; rfl⟩
    | false =>
      obtain ⟨v, hv, hf⟩ := h
      have hv' : v ∈ xs := by
        rcases List.mem_cons.mp hv with rfl | h
        · rw [e] at hf; cases hf
        · exact h
      obtain ⟨i, w, h1, h2, h3, h4⟩ := first_bad ⟨v, hv', hf⟩
      refine ⟨i + 1, w, h1, h2, fun j u hj hu => ?_, by rw [List.filter_cons, e]; exact h4⟩
      match j, hj, hu with
      | 0, _, hu => cases hu; exact e
      | j + 1, hj, hu => exact h3 j u (by omega) hu
structure Bd (K : PySem.W.Frag) (b : Addr) (H : Hp) (v : V) (d : PyData) : Prop where
  ok : DOk 5 50 d
  nd : d.hasDict = false
  dv : ∀ H', Away b H H' → Th H' v ∧ DV K H' v d
  m1 : makeB v (.int 1) = false
  m2 : makeB (.int 1) v = false
  m3 : makeB v v = false
inductive Pr (K : PySem.W.Frag) (b : Addr) (H : Hp) (P : V) : Prop
  | mk (p : Addr) (x y : V) (dx dy : PyData) (e : P = .ref p) (h : H p = some (.tup [x, y])) (ox : DOk 5 50 dx) (oy : DOk 5 50 dy) (nx : dx.hasDict = false) (ny : dy.hasDict = false) (hx : ∀ H', Away b H H' → Th H' x ∧ DV K H' x dx) (hy : ∀ H', Away b H H' → Th H' y ∧ DV K H' y dy) (m : makeB x y = false)
theorem rx_pair {K : PySem.W.Frag} {H : Hp} {x y : V} {dx dy : PyData} {p r : Addr} {Q : VK} (ox : DOk 5 50 dx) (oy : DOk 5 50 dy) (nx : dx.hasDict = false) (ny : dy.hasDict = false) (hx : DV K H x dx) (hy : DV K H y dy) (hp : H p = some (.tup [x, y])) (hr : H r = some (.tup [.str "none", .ref p])) (q : Q (.str (nayD (.tuple [dx, dy])).shown) H) : RX K [.ref r] H Q :=
  Dat.rx (d := .tuple [dx, dy]) (.inl ⟨.tup (SqT.of hp) (.cons hx (.cons hy .nil)), by simp only [PyData.hasDict, PyData.hasDictAll, nx, ny]; rfl⟩) (ox.t2 oy) (by decide) (by decide) hr q
theorem shs_away {b : Addr} {H H' : Hp} {ts : List Addr} {ps : List (Int × Int)} (h : ShsAt H ts ps) (hb : BoxAt H b) (g : Away b H H') : ShsAt H' ts ps := by
  obtain ⟨d, s, e, _⟩ := hb
  refine ⟨h.1, fun i t p a c => ?_⟩
  obtain ⟨h1, h2⟩ := h.2 i t p a c
  exact ⟨g _ _ h1 (fun z => by subst z; rw [e] at h1; cases h1), h2⟩
theorem ShsAt.sh {H : Hp} {ts : List Addr} {ps : List (Int × Int)} (h : ShsAt H ts ps) {v : V} (hv : v ∈ ts.map V.ref) : Sh H v true := by
  obtain ⟨t, ht, rfl⟩ := List.mem_map.mp hv
  obtain ⟨i, hi, e⟩ := List.getElem_of_mem ht
  have hp : i < ps.length := by rw [← h.1]; exact hi
  obtain ⟨h1, h2⟩ := h.2 i t ps[i] (by rw [List.getElem?_eq_getElem hi, e]) (List.getElem?_eq_getElem hp)
  exact Sh.share h1 h2
theorem ShsAt.put {H : Hp} {S : Addr} {vs ws : List V} {ts : List Addr} {ps : List (Int × Int)} (h : ShsAt H ts ps) (hs : H S = some (.lst vs)) : ShsAt (upd H S (.lst ws)) ts ps := ⟨h.1, fun i t p a c => by
  obtain ⟨h1, h2⟩ := h.2 i t p a c
  exact ⟨by rw [upd_ne fun z => by rw [z, hs] at h1; cases h1]; exact h1, h2⟩⟩
theorem ShsAt.snoc {H : Hp} {ts : List Addr} {ps : List (Int × Int)} {t : Addr} {p : Int × Int} (h : ShsAt H ts ps) (ht : H t = some (.tup [.int p.1, .int p.2])) (hp : isSh p.1 p.2) : ShsAt H (ts ++ [t]) (ps ++ [p]) := by
  refine ⟨by simp [h.1], fun i t' p' a b => ?_⟩
  by_cases c : i < ts.length
  · rw [List.getElem?_append_left c] at a
    rw [List.getElem?_append_left (by rw [← h.1]; exact c)] at b
    exact h.2 i t' p' a b
  · rw [List.getElem?_append_right (by omega)] at a
    rw [List.getElem?_append_right (by rw [← h.1]; omega), ← h.1] at b
    match hk : i - ts.length, a, b with
    | 0, a, b => cases a; cases b; exact ⟨ht, hp⟩
def spDoors : Sp := fun vs H Q _ => ∃ b, vs = [.ref b] ∧ BoxAt H b ∧ ∀ H', Away b H H' → Q (.bl true) H'
section
variable {P : Program} {w : World} {K : PySem.W.Frag} {mg : Str → Option Value} {base : Heap}
theorem scDoors : FnScope ["_law_box_here", "_law_share_here", "_law_odd_here", "_law_other", "_law_thing", "_law_way", "_law_one", "_law_two", "_law_due", "_law_bad", "_law_some", "_law_wrong"] ["_law_box_here"] (defScope s_law_doors_right) := ⟨rfl, rfl, rfl, by decide +kernel, rfl, by decide +kernel, by decide +kernel⟩
set_option maxHeartbeats 4000000 in
theorem ok_doors {f a1 a2 a3 a4 a5 aT : Addr} {fd d1 d2 d3 d4 d5 dT : FuncData} (F : Fun K "_law_doors_right" "_law_doors_right" s_law_doors_right f fd) (mrp : mg "repr" = none) (mr : mg "range" = none) (ml : mg "len" = none)
    (D1 : Def P w K mg base 3 "_law_share" ["_law_box_here"] spShare a1 d1) (D2 : Def P w K mg base 4 "_law_odd" ["_law_box_here"] (spOdd K) a2 d2) (D3 : Def P w K mg base 3 "is_share" ["thing"] spShareT a3 d3) (D4 : Def P w K mg base 2 "_law_is_share" ["_law_thing"] spLShare a4 d4) (D5 : Def P w K mg base 1 "_law_take" ["_law_box_here", "_law_many"] spTake a5 d5) (DT : Def P w K mg base 6 "_law_told" ["_law_way", "_law_one", "_law_other"] (spTold K) aT dT) : FnOk P w K mg base CX0 7 f fd ["_law_box_here"] spDoors := by
  refine F.ok scDoors (fun vs H Q E h => ?_) (fun cdv A outer s H vs Q E hr h => ?_)
  · obtain ⟨b, rfl, _⟩ := h
    rfl
  obtain ⟨b, rfl, hb, q⟩ := h
  have hr1 : Room 1 _ := hr.mono (by decide)
  have hr2 : Room 2 _ := hr.mono (by decide)
  have hr3 : Room 3 _ := hr.mono (by decide)
  have hr4 : Room 4 _ := hr.mono (by decide)
  refine ⟨_, pss_cons (ps_set (i := 1) scDoors.nd rfl (Or.inl rfl) (pe_call D1.ok hr3 rfl D1.m D1.k D1.b .nil pass0 (pa_cons (pv 0) pa_nil)))
    (pss_cons (ps_set (i := 2) scDoors.nd rfl (Or.inl rfl) (pe_call D2.ok hr4 rfl D2.m D2.k D2.b .nil pass0 (pa_cons (pv 0) pa_nil)))
    (pss_cons (ps_set (i := 3) scDoors.nd rfl (Or.inl rfl) (pe_call D2.ok hr4 rfl D2.m D2.k D2.b .nil pass0 (pa_cons (pv 0) pa_nil)))
    (pss_cons (ps_for PassesOwn.never rfl (pi_seq (pe_lst (pa_cons (pv 1) (pa_cons (pv 2) (pa_cons (pv 3) pa_nil))))) (pg_name (i := 4) scDoors.nd rfl (Or.inl rfl)) (pss_one (ps_if (pt_cmpR op_ne (pe_callB (call_reprX hr) rfl mrp PyProof.Rows.boot_repr (pa_cons (pe_call D3.ok hr3 rfl D3.m D3.k D3.b .nil pass0 (pa_cons (pv 4) pa_nil)) pa_nil)) (pe_callB (call_reprX hr) rfl mrp PyProof.Rows.boot_repr (pa_cons (pe_call D4.ok hr2 rfl D4.m D4.k D4.b .nil pass0 (pa_cons (pv 4) pa_nil)) pa_nil)) (nomark _)) (pss_one (ps_ret pe_bl)) pss_nil)))
    (pss_cons (ps_for PassesOwn.never rfl (pi_range1 rfl mr (pa_cons pe_int pa_nil)) (pg_name (i := 5) scDoors.nd rfl (Or.inl rfl)) (pss_one (ps_for PassesOwn.never rfl (pi_seq (pe_lst (pa_cons (pe_tup (pa_cons (pv 2) (pa_cons (pv 3) (pa_cons (pv 2) pa_nil)))) (pa_cons (pe_tup (pa_cons (pv 2) (pa_cons (pv 1) (pa_cons (pv 2) pa_nil)))) (pa_cons (pe_tup (pa_cons (pv 1) (pa_cons (pv 3) (pa_cons (pv 3) pa_nil)))) pa_nil))))) (pg_tup rfl (pgs_cons (pg_name (i := 6) scDoors.nd rfl (Or.inl rfl)) (pgs_cons (pg_name (i := 7) scDoors.nd rfl (Or.inl rfl)) (pgs_cons (pg_name (i := 8) scDoors.nd rfl (Or.inl rfl)) pgs_nil)))) (pss_one (ps_if (pt_cmpR op_ne (pe_callB (call_reprX hr) rfl mrp PyProof.Rows.boot_repr (pa_cons (pe_call DT.ok hr rfl DT.m DT.k DT.b .nil pass0 (pa_cons (pv 5) (pa_cons (pv 6) (pa_cons (pv 7) pa_nil)))) pa_nil)) (pe_callB (call_reprX hr) rfl mrp PyProof.Rows.boot_repr (pa_cons (pe_tup (pa_cons pe_str (pa_cons (pv 8) pa_nil))) pa_nil)) (nomark _)) (pss_one (ps_ret pe_bl)) pss_nil)))))
    (pss_cons (ps_if (pt_cmpR op_ne (pe_callB (call_reprX hr) rfl mrp PyProof.Rows.boot_repr (pa_cons (pe_call DT.ok hr rfl DT.m DT.k DT.b .nil pass0 (pa_cons pe_int (pa_cons (pv 2) (pa_cons pe_non pa_nil)))) pa_nil)) (pe_callB (call_reprX hr) rfl mrp PyProof.Rows.boot_repr (pa_cons (pe_tup (pa_cons pe_str (pa_cons (pv 2) pa_nil))) pa_nil)) (nomark _)) (pss_one (ps_ret pe_bl)) pss_nil)
    (pss_cons (ps_set (i := 9) scDoors.nd rfl (Or.inl rfl) (pe_ix ix_list (PEH.out (peH_lst (paH_cons (PEH.mk (pe_op op_sub pe_int pe_int)) (paH_pre 3 [.non, .bl true, .str "1"] (paH_cons (peH_lst (paH_lits [.int 1])) (paH_cons (peH_tup (paH_lits [.int 1, .int 1])) paH_nil)))))) (pe_call D5.ok hr1 rfl D5.m D5.k D5.b .nil pass0 (pa_cons (pv 0) (pa_cons pe_int pa_nil))) (fun _ _ => rfl)))
    (pss_cons (ps_for PassesOwn.never rfl (pi_seq (pe_lst (pa_cons (pe_tup (pa_cons (pv 9) (pa_cons pe_int pa_nil))) (pa_cons (pe_tup (pa_cons pe_int (pa_cons (pv 9) pa_nil))) (pa_cons (pe_tup (pa_cons (pv 9) (pa_cons (pv 9) pa_nil))) (pa_cons (pe_tup (pa_cons pe_int (pa_cons pe_int pa_nil))) (pa_cons (pe_tup (pa_cons pe_int (pa_cons pe_int pa_nil))) pa_nil))))))) (pg_tup rfl (pgs_cons (pg_name (i := 6) scDoors.nd rfl (Or.inl rfl)) (pgs_cons (pg_name (i := 7) scDoors.nd rfl (Or.inl rfl)) pgs_nil))) (pss_one (ps_if (pt_cmpR op_ne (pe_callB (call_reprX hr) rfl mrp PyProof.Rows.boot_repr (pa_cons (pe_call DT.ok hr rfl DT.m DT.k DT.b .nil pass0 (pa_cons pe_int (pa_cons (pv 6) (pa_cons (pv 7) pa_nil)))) pa_nil)) (pe_callB (call_reprX hr) rfl mrp PyProof.Rows.boot_repr (pa_cons (pe_tup (pa_cons pe_str (pa_cons (pe_tup (pa_cons (pv 6) (pa_cons (pv 7) pa_nil))) pa_nil))) pa_nil)) (nomark _)) (pss_one (ps_ret pe_bl)) pss_nil)))
    (pss_cons (ps_setCT (i := 10) (xs := ["_law_k"]) (fv := [("_law_box_here", 0)]) scDoors.nd rfl rfl rfl (by decide +kernel) ⟨⟨rfl, Or.inl rfl, rfl⟩, trivial⟩ (pi_range1 rfl mr (pa_cons (pe_call D5.ok hr1 rfl D5.m D5.k D5.b .nil pass0 (pa_cons (pv 0) (pa_cons pe_int pa_nil))) pa_nil)) (fun _ _ _ _ _ => pg_name (i := 0) (ndT (by decide +kernel)) rfl (Or.inl rfl)) (fun _ _ _ _ _ => ptl_nil) (fun _ _ _ _ _ => pe_call D1.ok hr3 rfl D1.m D1.k D1.b .nil pass0 (pa_cons (pv 1) pa_nil)))
    (pss_cons (ps_for PassesOwn.never rfl (pi_seq (pe_lst (pa_cons (pv 2) (pa_cons (pv 3) (pa_cons (pv 1) pa_nil))))) (pg_name (i := 4) scDoors.nd rfl (Or.inl rfl)) (pss_cons (ps_expr (pe_bm PySem.F.plainAttrs_list PySem.F.slot_list_insert PySem.F.type_list_insert mt_insert (pv 10) (pa_cons (pe_call D5.ok hr1 rfl D5.m D5.k D5.b .nil pass0 (pa_cons (pv 0) (pa_cons (pe_op op_add (pe_callB call_len_seq rfl ml PySem.boot_len (pa_cons (pv 10) pa_nil)) pe_int) pa_nil))) (pa_cons (pv 4) pa_nil)))) (pss_cons (ps_setCT (i := 11) (xs := ["_law_one"]) (fv := []) scDoors.nd rfl rfl rfl (by decide +kernel) trivial (pi_seq (pv 10)) (fun _ _ _ _ _ => pg_name (i := 0) (ndT (by decide +kernel)) rfl (Or.inl rfl)) (fun _ _ _ _ _ => ptl_one (pt_not (pt_val (pe_call D4.ok hr2 rfl D4.m D4.k D4.b .nil pass0 (pa_cons (pv 0) pa_nil))))) (fun _ _ _ _ _ => pv 0)) (pss_one (ps_if (pt_cmpR op_ne (pe_callB (call_reprX hr) rfl mrp PyProof.Rows.boot_repr (pa_cons (pe_call DT.ok hr rfl DT.m DT.k DT.b .nil pass0 (pa_cons pe_int (pa_cons (pv 10) (pa_cons pe_non pa_nil)))) pa_nil)) (pe_callB (call_reprX hr) rfl mrp PyProof.Rows.boot_repr (pa_cons (pe_tup (pa_cons pe_str (pa_cons (pe_ix ix_list (pv 11) pe_int (fun _ _ => rfl)) pa_nil))) pa_nil)) (nomark _)) (pss_one (ps_ret pe_bl)) pss_nil)))))
    (pss_cons (ps_set (i := 4) scDoors.nd rfl (Or.inl rfl) (pe_ix ix_list (PEH.out (peH_lst (paH_pre 2 [.non, .str ""] (paH_cons peH_dnewK (paH_lits [.int 5, .bl true]))))) (pe_call D5.ok hr1 rfl D5.m D5.k D5.b .nil pass0 (pa_cons (pv 0) (pa_cons pe_int pa_nil))) (fun _ _ => rfl)))
    (pss_one (ps_ret (pe_cmpR op_eq (pe_callB (call_reprX hr) rfl mrp PyProof.Rows.boot_repr (pa_cons (pe_call DT.ok hr rfl DT.m DT.k DT.b .nil pass0 (pa_cons pe_int (pa_cons (pv 4) (pa_cons pe_non pa_nil)))) pa_nil)) (pe_callB (call_reprX hr) rfl mrp PyProof.Rows.boot_repr (pa_cons (pe_tup (pa_cons pe_str (pa_cons (pv 4) pa_nil))) pa_nil)) (nomark _)))))))))))))), ?_⟩
  have s1 : (1 : Nat) ≤ sizeLine := by decide
  have s2 : (2 : Nat) ≤ sizeLine := by decide
  have s3 : (3 : Nat) ≤ sizeLine := by decide
  refine ⟨_, rfl, b, rfl, hb, fun t x y H1 fr c1 sh xB yB b1 w1 => ?_⟩
  have nt : t ≠ b := fun z => by obtain ⟨_, _, e, _⟩ := hb; rw [z, e] at fr; cases fr
  have oS1 : Ob K b H1 (.ref t) true := .share c1 nt sh xB yB
  refine ⟨_, rfl, b, rfl, b1, fun vo H2 b2 w2 oO2 => ?_⟩
  refine ⟨_, rfl, b, rfl, b2, fun vt H3 b3 w3 oT => ?_⟩
  have oO := oO2.away w3
  have oS := (oS1.away w2).away w3
  have w03 := (w1.trans w2).trans w3
  obtain ⟨zO, rO⟩ := oO.nay
  obtain ⟨zT, rT⟩ := oT.nay
  refine ⟨_, rfl, _, rfl, _, rfl, s3, fun L hL => ⟨L, rfl, ?_⟩⟩
  have g4 := same_new hL (.lst [.ref t, vo, vt])
  have c4 : (upd H3 L (.lst [.ref t, vo, vt])) L = some (.lst [.ref t, vo, vt]) := upd_same
  generalize upd H3 L (.lst [.ref t, vo, vt]) = H4 at g4 c4 ⊢
  refine seq_for (K := K) (ys := [.ref t, vo, vt]) (.inl (SqL.of c4)) (fun j σ H' => Same H4 H' ∧ ∃ o, σ = [some (.ref b), some (.ref t), some vo, some vt, o, none, none, none, none, none, none, none]) ⟨Same.refl _, _, rfl⟩ (fun j σ H' hP o ho => by obtain ⟨g, _⟩ := hP; exact g _ _ ho) (fun j σ HA v hj hx hP => ?_) (fun σ HA hP => ?_)
  · obtain ⟨gA, o, rfl⟩ := hP
    obtain ⟨sv, ov⟩ : ∃ sv, Ob K b H3 v sv := by
      match j, hx with
      | 0, hx => cases hx; exact ⟨_, oS⟩
      | 1, hx => cases hx; exact ⟨_, oO⟩
      | 2, hx => cases hx; exact ⟨_, oT⟩
    have aA : Away b H3 HA := away_of (g4.trans gA)
    refine ⟨_, rfl, v, sv, rfl, ov.sh _ aA, rx_bool sv ⟨_, rfl, v, sv, rfl, ov.sh _ aA, fun HB gB => rx_bool sv ⟨rfl, _, rfl, ?_⟩⟩⟩
    rw [same_ne]
    exact iteF ⟨gA.trans gB, _, rfl⟩
  obtain ⟨gA, oA, rfl⟩ := hP
  refine ⟨5, rfl, by decide, by decide, ?_⟩
  refine for_range (lo := 0) (fun i σ H' => Same H4 H' ∧ ∃ o1 o2 o3 o4, σ = [some (.ref b), some (.ref t), some vo, some vt, oA, o1, o2, o3, o4, none, none, none]) ⟨gA, _, _, _, _, rfl⟩ (fun i σ HB hi hP => ?_) (fun σ HB hP => ?_)
  · obtain ⟨gB, o1, o2, o3, o4, rfl⟩ := hP
    have hi : i < 5 := hi
    refine ⟨_, rfl, _, rfl, _, rfl, s3, fun P1 hP1 => ?_⟩
    have g5 := same_new hP1 (.tup [vo, vt, vo])
    have c5 : (upd HB P1 (.tup [vo, vt, vo])) P1 = some (.tup [vo, vt, vo]) := upd_same
    generalize upd HB P1 (.tup [vo, vt, vo]) = H5 at g5 c5 ⊢
    refine ⟨_, rfl, _, rfl, _, rfl, s3, fun P2 hP2 => ?_⟩
    have g6 := same_new hP2 (.tup [vo, .ref t, vo])
    have c6 : (upd H5 P2 (.tup [vo, .ref t, vo])) P2 = some (.tup [vo, .ref t, vo]) := upd_same
    generalize upd H5 P2 (.tup [vo, .ref t, vo]) = H6 at g6 c6 ⊢
    refine ⟨_, rfl, _, rfl, _, rfl, s3, fun P3 hP3 => ?_⟩
    have g7 := same_new hP3 (.tup [.ref t, vt, vt])
    have c7 : (upd H6 P3 (.tup [.ref t, vt, vt])) P3 = some (.tup [.ref t, vt, vt]) := upd_same
    generalize upd H6 P3 (.tup [.ref t, vt, vt]) = H7 at g7 c7 ⊢
    refine ⟨s3, fun L5 hL5 => ⟨L5, rfl, ?_⟩⟩
    have g8 := same_new hL5 (.lst [.ref P1, .ref P2, .ref P3])
    have c8 : (upd H7 L5 (.lst [.ref P1, .ref P2, .ref P3])) L5 = some (.lst [.ref P1, .ref P2, .ref P3]) := upd_same
    generalize upd H7 L5 (.lst [.ref P1, .ref P2, .ref P3]) = H8 at g8 c8 ⊢
    have gB8 := ((g5.trans g6).trans g7).trans g8
    have a8 : Away b H3 H8 := away_of ((g4.trans gB).trans gB8)
    refine seq_for (K := K) (ys := [.ref P1, .ref P2, .ref P3]) (.inl (SqL.of c8)) (fun j σ H' => Same H8 H' ∧ ∃ u1 u2 u3, σ = [some (.ref b), some (.ref t), some vo, some vt, oA, some (.int (0 + (i : Int))), u1, u2, u3, none, none, none]) ⟨Same.refl _, _, _, _, rfl⟩ (fun j σ H' hP o ho => by obtain ⟨g, _⟩ := hP; exact g _ _ ho) (fun j σ HC v hj hx hP => ?_) (fun σ HC hP => ?_)
    · obtain ⟨gC, u1, u2, u3, rfl⟩ := hP
      obtain ⟨p, x', y', d', bx, b', z, e, cp, ox, oy, n, ed, rz⟩ : ∃ p x' y' d' bx b' z, v = .ref p ∧ H8 p = some (.tup [x', y', d']) ∧ Ob K b H3 x' bx ∧ Ob K b H3 y' b' ∧ (bx && b') = false ∧ d' = (if bx = true then y' else x') ∧ ∀ (H' : Hp) (r : Addr) (Q : VK), Away b H3 H' → H' r = some (.tup [.str "none", d']) → Q (.str z) H' → RX K [.ref r] H' Q := by
        match j, hx with
        | 0, hx => cases hx; exact ⟨P1, vo, vt, vo, false, false, zO, rfl, ((g6.trans g7).trans g8) _ _ c5, oO, oT, rfl, rfl, rO⟩
        | 1, hx => cases hx; exact ⟨P2, vo, .ref t, vo, false, true, zO, rfl, (g7.trans g8) _ _ c6, oO, oS, rfl, rfl, rO⟩
        | 2, hx => cases hx; exact ⟨P3, .ref t, vt, vt, true, false, zT, rfl, g8 _ _ c7, oS, oT, rfl, rfl, rT⟩
      subst e
      have aC : Away b H3 HC := a8.trans (away_of gC)
      refine ⟨p, _, rfl, SqT.of (gC _ _ cp), rfl, _, _, rfl, _, _, rfl, _, _, rfl, rfl, ?_⟩
      refine ⟨_, rfl, _, rfl, _, rfl, i, x', y', (by show [V.int (0 + (i : Int)), _, _] = _; rw [Int.zero_add]), .two (by omega) (ox.sh _ aC) (oy.sh _ aC) n fun r HD gD eD => ?_⟩
      rw [← ed] at eD
      have aD := aC.trans (away_of gD)
      refine rz HD r _ aD eD ⟨_, rfl, s2, fun r2 hr2 => ?_⟩
      have g9 := same_new hr2 (.tup [.str "none", d'])
      refine rz _ r2 _ (aD.trans (away_of g9)) upd_same ⟨rfl, _, rfl, ?_⟩
      rw [same_ne]
      exact iteF ⟨(gC.trans gD).trans g9, _, _, _, rfl⟩
    · obtain ⟨gC, u1, u2, u3, rfl⟩ := hP
      exact ⟨(gB.trans gB8).trans gC, _, _, _, _, rfl⟩
  obtain ⟨gB, o1, o2, o3, o4, rfl⟩ := hP
  have aB : Away b H3 HB := away_of (g4.trans gB)
  have bB := (b3.same g4).same gB
  refine ⟨_, rfl, 5, vo, .non, rfl, .one (oO.sh _ aB) fun r HC gC eC => ?_⟩
  have aC := aB.trans (away_of gC)
  refine rO HC r _ aC eC ⟨_, rfl, s2, fun r2 hr2 => ?_⟩
  have gr := same_new hr2 (.tup [.str "none", vo])
  refine rO _ r2 _ (aC.trans (away_of gr)) upd_same ⟨rfl, _, rfl, ?_⟩
  rw [same_ne]
  refine iteF ?_
  have aD := aC.trans (away_of gr)
  have bD := (bB.same gC).same gr
  generalize upd HC r2 (.tup [.str "none", vo]) = HD at aD bD ⊢
  refine ⟨_, _, rfl, rfl, s1, fun l1 hl1 => ?_⟩
  have f1 := same_new hl1 (.lst [.int 1])
  have e1 : (upd HD l1 (.lst [.int 1])) l1 = some (.lst [.int 1]) := upd_same
  have n1 : l1 ≠ b := (bD.ne hl1).symm
  have m1 := bD.same f1
  generalize upd HD l1 (.lst [.int 1]) = HE at f1 e1 m1 ⊢
  refine ⟨s2, fun l2 hl2 => ?_⟩
  have f2 := same_new hl2 (.tup [.int 1, .int 1])
  have e2 : (upd HE l2 (.tup [.int 1, .int 1])) l2 = some (.tup [.int 1, .int 1]) := upd_same
  have n2 : l2 ≠ b := (m1.ne hl2).symm
  have m2 := m1.same f2
  generalize upd HE l2 (.tup [.int 1, .int 1]) = HF at f2 e2 m2 ⊢
  refine ⟨(by show 6 ≤ sizeLine; decide), fun L7 hL7 => ?_⟩
  have f3 := same_new hL7 (.lst (.int (0 - 1) :: ([.non, .bl true, .str "1"] ++ [.ref l1, .ref l2])))
  have e3 : (upd HF L7 (.lst (.int (0 - 1) :: ([.non, .bl true, .str "1"] ++ [.ref l1, .ref l2])))) L7 = some (.lst (.int (0 - 1) :: ([.non, .bl true, .str "1"] ++ [.ref l1, .ref l2]))) := upd_same
  have n3 : L7 ≠ b := (m2.ne hL7).symm
  have m3 := m2.same f3
  generalize upd HF L7 (.lst (.int (0 - 1) :: ([.non, .bl true, .str "1"] ++ [.ref l1, .ref l2]))) = HG at f3 e3 m3 ⊢
  have e3 : HG L7 = some (.lst [.int (0 - 1), .non, .bl true, .str "1", .ref l1, .ref l2]) := e3
  refine ⟨_, rfl, b, 6, rfl, by decide, bg_small (by decide) (by decide), m3, fun k HI k0 k6 bI wI => ?_⟩
  obtain ⟨v, hv, hat⟩ := at_mem (xs := [.int (0 - 1), .non, .bl true, .str "1", .ref l1, .ref l2]) k0 k6
  refine ⟨L7, _, _, _, rfl, rfl, SqL.of (wI.away _ _ e3 n3), hat, ?_⟩
  have aI : Away b H3 HI := (aD.trans (away_of ((f1.trans f2).trans f3))).trans wI.away
  have z1 : HI l1 = some (.lst [.int 1]) := wI.away _ _ ((f2.trans f3) _ _ e1) n1
  have z2 : HI l2 = some (.tup [.int 1, .int 1]) := wI.away _ _ (f3 _ _ e2) n2
  obtain ⟨d, bd⟩ : ∃ d, Bd K b HI v d := by
    simp only [List.mem_cons, List.not_mem_nil, or_false] at hv
    rcases hv with rfl | rfl | rfl | rfl | rfl | rfl
    · exact ⟨.int (0 - 1), ⟨by decide +kernel, by decide +kernel, by decide +kernel, by decide +kernel⟩, rfl, fun _ _ => ⟨trivial, .int _⟩, by decide +kernel, by decide +kernel, by decide +kernel⟩
    · exact ⟨.none, ⟨by decide +kernel, by decide +kernel, by decide +kernel, by decide +kernel⟩, rfl, fun _ _ => ⟨trivial, .non⟩, rfl, rfl, rfl⟩
    · exact ⟨.bool true, ⟨by decide +kernel, by decide +kernel, by decide +kernel, by decide +kernel⟩, rfl, fun _ _ => ⟨trivial, .bl _⟩, rfl, rfl, rfl⟩
    · exact ⟨.str "1", ⟨by decide +kernel, by decide +kernel, by decide +kernel, by decide +kernel⟩, rfl, fun _ _ => ⟨(by show Str.length "1" ≤ 100000; decide +kernel), .str _⟩, rfl, rfl, rfl⟩
    · exact ⟨.list [.int 1], ⟨by decide +kernel, by decide +kernel, by decide +kernel, by decide +kernel⟩, by decide +kernel, fun H' g => ⟨.inl ⟨_, g _ _ z1 n1⟩, .lst (SqL.of (g _ _ z1 n1)) (.cons (.int 1) .nil)⟩, rfl, rfl, rfl⟩
    · exact ⟨.tuple [.int 1, .int 1], ⟨by decide +kernel, by decide +kernel, by decide +kernel, by decide +kernel⟩, by decide +kernel, fun H' g => ⟨.inr (.inl ⟨_, g _ _ z2 n2⟩), .tup (SqT.of (g _ _ z2 n2)) (.cons (.int 1) (.cons (.int 1) .nil))⟩, rfl, rfl, rfl⟩
  clear hv hat z1 z2 e1 e2 e3
  have oi : ∀ i : Int, i = 0 ∨ i = 1 → DOk 5 50 (.int i) := fun i hi => by rcases hi with rfl | rfl <;> exact ⟨by decide +kernel, by decide +kernel, by decide +kernel, by decide +kernel⟩
  refine ⟨_, rfl, s2, fun Q1 hQ1 => ?_⟩
  have k1 := same_new hQ1 (.tup [v, .int 1])
  have q1 : (upd HI Q1 (.tup [v, .int 1])) Q1 = some (.tup [v, .int 1]) := upd_same
  generalize upd HI Q1 (.tup [v, .int 1]) = HQ1 at k1 q1 ⊢
  refine ⟨_, rfl, s2, fun Q2 hQ2 => ?_⟩
  have k2 := same_new hQ2 (.tup [.int 1, v])
  have q2 : (upd HQ1 Q2 (.tup [.int 1, v])) Q2 = some (.tup [.int 1, v]) := upd_same
  generalize upd HQ1 Q2 (.tup [.int 1, v]) = HQ2 at k2 q2 ⊢
  refine ⟨_, rfl, _, rfl, s2, fun Q3 hQ3 => ?_⟩
  have k3 := same_new hQ3 (.tup [v, v])
  have q3 : (upd HQ2 Q3 (.tup [v, v])) Q3 = some (.tup [v, v]) := upd_same
  generalize upd HQ2 Q3 (.tup [v, v]) = HQ3 at k3 q3 ⊢
  refine ⟨s2, fun Q4 hQ4 => ?_⟩
  have k4 := same_new hQ4 (.tup [.int 1, .int 0])
  have q4 : (upd HQ3 Q4 (.tup [.int 1, .int 0])) Q4 = some (.tup [.int 1, .int 0]) := upd_same
  generalize upd HQ3 Q4 (.tup [.int 1, .int 0]) = HQ4 at k4 q4 ⊢
  refine ⟨s2, fun Q5 hQ5 => ?_⟩
  have k5 := same_new hQ5 (.tup [.int 0, .int 0])
  have q5 : (upd HQ4 Q5 (.tup [.int 0, .int 0])) Q5 = some (.tup [.int 0, .int 0]) := upd_same
  generalize upd HQ4 Q5 (.tup [.int 0, .int 0]) = HQ5 at k5 q5 ⊢
  refine ⟨(by show 5 ≤ sizeLine; decide), fun L8 hL8 => ⟨L8, rfl, ?_⟩⟩
  have k6' := same_new hL8 (.lst [.ref Q1, .ref Q2, .ref Q3, .ref Q4, .ref Q5])
  have q6 : (upd HQ5 L8 (.lst [.ref Q1, .ref Q2, .ref Q3, .ref Q4, .ref Q5])) L8 = some (.lst [.ref Q1, .ref Q2, .ref Q3, .ref Q4, .ref Q5]) := upd_same
  generalize upd HQ5 L8 (.lst [.ref Q1, .ref Q2, .ref Q3, .ref Q4, .ref Q5]) = HJ at k6' q6 ⊢
  have kIJ := ((((k1.trans k2).trans k3).trans k4).trans k5).trans k6'
  have aIJ : Away b HI HJ := away_of kIJ
  refine seq_for (K := K) (ys := [.ref Q1, .ref Q2, .ref Q3, .ref Q4, .ref Q5]) (.inl (SqL.of q6)) (fun j σ H' => Same HJ H' ∧ ∃ u1 u2, σ = [some (.ref b), some (.ref t), some vo, some vt, oA, o1, u1, u2, o4, some v, none, none]) ⟨Same.refl _, _, _, rfl⟩ (fun j σ H' hP o ho => by obtain ⟨g, _⟩ := hP; exact g _ _ ho) (fun j σ HM vv hj hx hP => ?_) (fun σ HM hP => ?_)
  · obtain ⟨gM, u1, u2, rfl⟩ := hP
    have iv : ∀ (i : Int) (H' : Hp), Away b HJ H' → Th H' (.int i) ∧ DV K H' (.int i) (.int i) := fun i _ _ => ⟨trivial, .int i⟩
    have vv' : ∀ H', Away b HJ H' → Th H' v ∧ DV K H' v d := fun H' g => bd.dv H' (aIJ.trans g)
    obtain ⟨p, x', y', dx, dy, e, cp, ox, oy, nx, ny, hx', hy', m⟩ : Pr K b HJ vv := by
      match j, hx with
      | 0, hx => cases hx; exact ⟨Q1, _, _, _, _, rfl, ((((k2.trans k3).trans k4).trans k5).trans k6') _ _ q1, bd.ok, oi 1 (.inr rfl), bd.nd, rfl, vv', iv 1, bd.m1⟩
      | 1, hx => cases hx; exact ⟨Q2, _, _, _, _, rfl, (((k3.trans k4).trans k5).trans k6') _ _ q2, oi 1 (.inr rfl), bd.ok, rfl, bd.nd, iv 1, vv', bd.m2⟩
      | 2, hx => cases hx; exact ⟨Q3, _, _, _, _, rfl, ((k4.trans k5).trans k6') _ _ q3, bd.ok, bd.ok, bd.nd, bd.nd, vv', vv', bd.m3⟩
      | 3, hx => cases hx; exact ⟨Q4, _, _, _, _, rfl, (k5.trans k6') _ _ q4, oi 1 (.inr rfl), oi 0 (.inl rfl), rfl, rfl, iv 1, iv 0, by decide +kernel⟩
      | 4, hx => cases hx; exact ⟨Q5, _, _, _, _, rfl, k6' _ _ q5, oi 0 (.inl rfl), oi 0 (.inl rfl), rfl, rfl, iv 0, iv 0, by decide +kernel⟩
    subst e
    refine ⟨p, _, rfl, SqT.of (gM _ _ cp), rfl, _, _, rfl, _, _, rfl, rfl, ?_⟩
    have aM : Away b HJ HM := away_of gM
    refine ⟨_, rfl, _, rfl, 6, x', y', rfl, .of (hx' _ aM).1 (hy' _ aM).1 m fun p2 HN gN ep r HO' gO er => ?_⟩
    have aO := (aM.trans (away_of gN)).trans (away_of gO)
    refine rx_pair ox oy nx ny (hx' _ aO).2 (hy' _ aO).2 (gO _ _ ep) er ⟨_, rfl, _, rfl, s2, fun p3 hp3 => ?_⟩
    have gp := same_new hp3 (.tup [x', y'])
    have cp3 : (upd HO' p3 (.tup [x', y'])) p3 = some (.tup [x', y']) := upd_same
    have aP := aO.trans (away_of gp)
    generalize upd HO' p3 (.tup [x', y']) = HP at gp cp3 aP ⊢
    refine ⟨s2, fun r3 hr3 => ?_⟩
    have gr3 := same_new hr3 (.tup [.str "none", .ref p3])
    have aR := aP.trans (away_of gr3)
    refine rx_pair ox oy nx ny (hx' _ aR).2 (hy' _ aR).2 (gr3 _ _ cp3) upd_same ⟨rfl, _, rfl, ?_⟩
    rw [same_ne]
    exact iteF ⟨(((gM.trans gN).trans gO).trans gp).trans gr3, _, _, rfl⟩
  obtain ⟨gM, u1, u2, rfl⟩ := hP
  have aM : Away b H3 HM := (aI.trans aIJ).trans (away_of gM)
  have bM := (bI.same kIJ).same gM
  clear bd oi aIJ
  refine ⟨_, rfl, b, 4, rfl, by decide, bg_small (by decide) (by decide), bM, fun n HC' n0 n4 bC wC => ⟨n, rfl, by omega, by omega, ?_⟩⟩
  have aC' : Away b H3 HC' := aM.trans wC.away
  refine range_comp (fun i D H' => ∃ ts ps, Away b HC' H' ∧ BoxAt H' b ∧ H' D = some (.lst (List.map V.ref ts)) ∧ ShsAt H' ts ps ∧ ts.length = i) (fun D hD => ⟨[], [], away_of (same_new hD _), bC.same (same_new hD _), upd_same, ⟨rfl, fun i t p e => nomatch e⟩, rfl⟩) (fun i D H' hD hi hP => ?_) (fun D H' hD hP => ?_)
  · obtain ⟨ts, ps, aD', bD', lD, sD, pz⟩ := hP
    have hi' : i < 4 := by omega
    refine ⟨rfl, ?_⟩
    unfold tYes
    dsimp only
    rw [if_pos rfl]
    have nD : D ≠ b := (bC.ne hD).symm
    refine ⟨_, rfl, b, rfl, bD', fun r p1 p2 HE' fr' cE sE p1B p2B bE aE => ?_⟩
    have lE : HE' D = some (.lst (List.map V.ref ts)) := aE _ _ lD nD
    have sE' := (shs_away sD bD' aE).put (ws := ts.map V.ref ++ [.ref r]) lE
    refine ⟨_, lE, ?_, ts ++ [r], ps ++ [(p1, p2)], fun c ob hc n' => ?_, ?_, by rw [upd_same, List.map_append]; rfl, ShsAt.snoc sE' (by rw [upd_ne (fun z => by subst z; rw [lE] at cE; cases cE)]; exact cE) sE, by rw [List.length_append, pz]; rfl⟩
    · rw [List.length_map, pz]
      have : 10 ≤ sizeLine := by decide
      omega
    · rw [upd_ne (ne_of_none hc hD)]; exact (aD'.trans aE) c ob hc n'
    · obtain ⟨d', s', e', z'⟩ := bE
      exact ⟨d', s', by rw [upd_ne (Ne.symm nD)]; exact e', z'⟩
  obtain ⟨ts, ps, aS, bS, lS, sS, tz⟩ := hP
  have nD : D ≠ b := (bC.ne hD).symm
  have tz : ts.length ≤ 4 := by omega
  have keepS : ∀ {H1' H2' : Hp}, Same H1' H2' → ShsAt H1' ts ps → ShsAt H2' ts ps := fun g h => h.same g
  have val : ∀ (H' : Hp) (u : V), Away b H3 H' → ShsAt H' ts ps → (u = vo ∨ u = vt ∨ u = .ref t ∨ u ∈ ts.map V.ref) → Sh H' u (!decide (u = vo ∨ u = vt)) := fun H' u a s hu => by
    by_cases c : u = vo ∨ u = vt
    · rw [decide_eq_true c]
      rcases c with rfl | rfl
      · exact oO.sh _ a
      · exact oT.sh _ a
    · rw [decide_eq_false c]
      rcases hu with h | h | rfl | h
      · exact absurd (.inl h) c
      · exact absurd (.inr h) c
      · exact oS.sh _ a
      · exact s.sh h
  have fr3 : H3 D = none := aC'.free bC hD
  refine ⟨_, rfl, _, rfl, _, rfl, s3, fun L9 hL9 => ⟨L9, rfl, ?_⟩⟩
  have g9 := same_new hL9 (.lst [vo, vt, .ref t])
  have c9 : (upd H' L9 (.lst [vo, vt, .ref t])) L9 = some (.lst [vo, vt, .ref t]) := upd_same
  have n9 : L9 ≠ b := (bS.ne hL9).symm
  have n9D : L9 ≠ D := fun z => by rw [z, lS] at hL9; cases hL9
  have a9 : Away b H3 (upd H' L9 (.lst [vo, vt, .ref t])) := (aC'.trans aS).trans (away_of g9)
  have b9 := bS.same g9
  have l9 := g9 _ _ lS
  have s9 := sS.same g9
  generalize upd H' L9 (.lst [vo, vt, .ref t]) = H9 at g9 c9 a9 b9 l9 s9 ⊢
  refine seq_for (K := K) (ys := [vo, vt, .ref t]) (.inl (SqL.of c9)) (fun j σ H' => Away b H3 H' ∧ BoxAt H' b ∧ H' L9 = some (.lst [vo, vt, .ref t]) ∧ ShsAt H' ts ps ∧ (∃ us, H' D = some (.lst us) ∧ us.length ≤ 4 + j ∧ (1 ≤ j → vo ∈ us) ∧ ∀ u ∈ us, u = vo ∨ u = vt ∨ u = .ref t ∨ u ∈ ts.map V.ref) ∧ ∃ w1 w2, σ = [some (.ref b), some (.ref t), some vo, some vt, w1, o1, u1, u2, o4, some v, some (.ref D), w2]) ⟨a9, b9, c9, s9, ⟨_, l9, by rw [List.length_map]; omega, fun z => absurd z (by decide), fun u hu => .inr (.inr (.inr hu))⟩, _, _, rfl⟩ (fun j σ H' hP o ho => by obtain ⟨_, _, e, _⟩ := hP; rw [c9] at ho; cases ho; exact e) (fun j σ HS th hj hx hP => ?_) (fun σ HS hP => ?_)
  · obtain ⟨aS', bS', cS', sS', ⟨us, lU, uz, uo, um⟩, w1', w2', rfl⟩ := hP
    have hj : j < 3 := hj
    have ht : th = vo ∨ th = vt ∨ th = .ref t := by
      match j, hx with
      | 0, hx => cases hx; exact .inl rfl
      | 1, hx => cases hx; exact .inr (.inl rfl)
      | 2, hx => cases hx; exact .inr (.inr rfl)
    have h0 : j = 0 → th = vo := fun z => by subst z; cases hx; rfl
    refine ⟨_, rfl, .inl ⟨rfl, _, SqL.of lU⟩, _, rfl, _, rfl, D, us, rfl, .inl (SqL.of lU), _, _, rfl, rfl, b, _, rfl, (by show (0 : Int) < (us.length : Nat) + 1; omega), bg_small (by show (0 : Int) < (us.length : Nat) + 1; omega) (by show ((us.length : Nat) : Int) + 1 < 1000; omega), bS', fun k4 HT k40 k41 bT wT => ?_⟩
    have k41 : k4 < (us.length : Nat) + 1 := k41
    have lT := wT.away _ _ lU nD
    refine ⟨_, rfl, D, us, k4, th, rfl, rfl, lT, k40, by omega, by omega, ?_⟩
    have sT := (shs_away sS' bS' wT.away).put (ws := insV us k4.toNat th) lT
    have aT : Away b H3 (upd HT D (.lst (insV us k4.toNat th))) := fun c o hc nc => by
      rw [upd_ne (ne_of_none hc fr3)]; exact (aS'.trans wT.away) c o hc nc
    have cT : (upd HT D (.lst (insV us k4.toNat th))) L9 = some (.lst [vo, vt, .ref t]) := by rw [upd_ne n9D]; exact wT.away _ _ cS' n9
    have bT' : BoxAt (upd HT D (.lst (insV us k4.toNat th))) b := by
      obtain ⟨d', s', e', z'⟩ := bT
      exact ⟨d', s', by rw [upd_ne (Ne.symm nD)]; exact e', z'⟩
    have lT' : (upd HT D (.lst (insV us k4.toNat th))) D = some (.lst (insV us k4.toNat th)) := upd_same
    have nm : ∀ u ∈ insV us k4.toNat th, u = vo ∨ u = vt ∨ u = .ref t ∨ u ∈ ts.map V.ref := fun u hu => by
      rcases insV_mem hu with rfl | hu
      · rcases ht with h | h | h
        · exact .inl h
        · exact .inr (.inl h)
        · exact .inr (.inr (.inl h))
      · exact um u hu
    have no : vo ∈ insV us k4.toNat th := by
      unfold insV
      by_cases z : j = 0
      · rw [h0 z]; simp
      · have := uo (by omega)
        rw [← List.take_append_drop k4.toNat us] at this
        rcases List.mem_append.mp this with m | m
        · exact List.mem_append_left _ m
        · exact List.mem_append_right _ (List.mem_cons_of_mem _ m)
    have nl : (insV us k4.toNat th).length ≤ 4 + (j + 1) := by rw [insV_len]; omega
    show tSeq _ _ _ _ (upd HT D (.lst (insV us k4.toNat th)))
    generalize insV us k4.toNat th = ws at *
    generalize upd HT D (.lst ws) = HU at sT aT cT bT' lT' ⊢
    refine ⟨_, rfl, D, rfl, ?_⟩
    refine seq_comp (K := K) (ys := ws) (.inl (SqL.of lT')) (fun i D' H' => Same HU H' ∧ H' D' = some (.lst ((ws.take i).filter fun u => decide (u = vo ∨ u = vt)))) (fun D' hD' => ⟨same_new hD' _, upd_same⟩) (fun i D' H' hD' hP o ho => hP.1 _ _ ho) (fun i D' HV u hD' hi hu hP => ?_) (fun D' HV hD' hP => ?_)
    · obtain ⟨g, hl⟩ := hP
      have su := (val HU u aT sT (nm u (List.mem_of_getElem? hu))).same g
      refine ⟨rfl, _, rfl, u, _, rfl, su, fun HW gW => ⟨_, rfl, ?_⟩⟩
      have len : ((ws.take i).filter fun u => decide (u = vo ∨ u = vt)).length < sizeLine := by
        have h1 := List.length_filter_le (fun u => decide (u = vo ∨ u = vt)) (ws.take i)
        have h2 : (ws.take i).length ≤ ws.length := by rw [List.length_take]; exact Nat.min_le_right _ _
        have : 20 < sizeLine := by decide
        omega
      by_cases c : u = vo ∨ u = vt
      · rw [decide_eq_true c]
        refine iteT ⟨_, rfl, _, gW _ _ hl, len, fun c' o' hc' => by rw [upd_ne (ne_of_none hc' hD')]; exact (g.trans gW) _ _ hc', ?_⟩
        rw [upd_same, take_next hu, List.filter_append]
        simp [List.filter, c]
      · rw [decide_eq_false c]
        refine iteF ⟨g.trans gW, ?_⟩
        rw [gW _ _ hl, take_next hu, List.filter_append]
        simp [List.filter, c]
    · obtain ⟨g, hl⟩ := hP
      rw [List.take_length] at hl
      obtain ⟨ix, wr, h1, h2, h3, h4⟩ := first_bad (f := fun u => decide (u = vo ∨ u = vt)) (vs := ws) ⟨vo, no, by simp⟩
      have h2' : wr = vo ∨ wr = vt := of_decide_eq_true h2
      have aV : Away b H3 HV := aT.trans (away_of g)
      have sV := sT.same g
      have wrong : Wrong K HV D wr := by
        refine ⟨ws, ix, .inl (SqL.of (g _ _ lT')), h1, ?_, fun j' u hj' hu => ?_⟩
        · have := val HV wr aV sV (nm wr (List.mem_of_getElem? h1))
          rw [show decide (wr = vo ∨ wr = vt) = true from h2] at this
          exact this
        · have := val HV u aV sV (nm u (List.mem_of_getElem? hu))
          rw [show decide (u = vo ∨ u = vt) = false from h3 j' u hj' hu] at this
          exact this
      obtain ⟨z, rz⟩ : ∃ z : Str, ∀ (H' : Hp) (r : Addr) (Q : VK), Away b H3 H' → H' r = some (.tup [.str "none", wr]) → Q (.str z) H' → RX K [.ref r] H' Q := by
        rcases h2' with rfl | rfl
        · exact ⟨zO, rO⟩
        · exact ⟨zT, rT⟩
      refine ⟨_, rfl, 7, .ref D, .non, rfl, .sum (.row (g _ _ lT') wrong) fun r HW gW eW => ?_⟩
      have aW := aV.trans (away_of gW)
      refine rz HW r _ aW eW ⟨_, rfl, D', _, _, _, rfl, rfl, SqL.of (gW _ _ hl), atI_nat (j := 0) h4, s2, fun r2 hr2 => ?_⟩
      have gx := same_new hr2 (.tup [.str "none", wr])
      refine rz _ r2 _ (aW.trans (away_of gx)) upd_same ⟨rfl, _, rfl, ?_⟩
      rw [same_ne]
      have gU := (g.trans gW).trans gx
      exact iteF ⟨aT.trans (away_of gU), bT'.same gU, gU _ _ cT, sT.same gU, ⟨ws, gU _ _ lT', nl, fun _ => no, nm⟩, _, _, rfl⟩
  obtain ⟨aX, bX, _, _, _, w1', w2', rfl⟩ := hP
  intro l3 hl3
  have y1 := same_new hl3 (.dK [])
  have i1 : (upd HS l3 (.dK [])) l3 = some (.dK []) := upd_same
  have v1 : l3 ≠ b := (bX.ne hl3).symm
  have bY := bX.same y1
  generalize upd HS l3 (.dK []) = HY at y1 i1 bY ⊢
  refine ⟨(by show 5 ≤ sizeLine; decide), fun LA hLA => ?_⟩
  have y2 := same_new hLA (.lst ([.non, .str ""] ++ (.ref l3 :: [.int 5, .bl true])))
  have i2 : (upd HY LA (.lst ([.non, .str ""] ++ (.ref l3 :: [.int 5, .bl true])))) LA = some (.lst ([.non, .str ""] ++ (.ref l3 :: [.int 5, .bl true]))) := upd_same
  have v2 : LA ≠ b := (bY.ne hLA).symm
  have bZ := bY.same y2
  generalize upd HY LA (.lst ([.non, .str ""] ++ (.ref l3 :: [.int 5, .bl true]))) = HZ at y2 i2 bZ ⊢
  have i2 : HZ LA = some (.lst [.non, .str "", .ref l3, .int 5, .bl true]) := i2
  refine ⟨_, rfl, b, 5, rfl, by decide, bg_small (by decide) (by decide), bZ, fun k' HQ' k0' k5' bQ wQ => ?_⟩
  obtain ⟨lv, hv, hat⟩ := at_mem (xs := [.non, .str "", .ref l3, .int 5, .bl true]) k0' k5'
  refine ⟨LA, _, _, _, rfl, rfl, SqL.of (wQ.away _ _ i2 v2), hat, ?_⟩
  have i3 := wQ.away _ _ (y2 _ _ i1) v1
  have aQ : Away b H HQ' := (w03.trans aX).trans ((away_of (y1.trans y2)).trans wQ.away)
  obtain ⟨ob, nr⟩ : Ob K b HQ' lv false ∧ NoRow HQ' lv ∧ Th HQ' lv := by
    simp only [List.mem_cons, List.not_mem_nil, or_false] at hv
    rcases hv with rfl | rfl | rfl | rfl | rfl
    · exact ⟨.flat (fun _ => trivial) (fun a z => nomatch z) (fun _ => .non) ⟨by decide +kernel, by decide +kernel, by decide +kernel, by decide +kernel⟩ rfl, (fun a xs z => nomatch z), trivial⟩
    · exact ⟨.flat (fun _ => by show Str.length "" ≤ 100000; decide +kernel) (fun a z => nomatch z) (fun _ => .str "") ⟨by decide +kernel, by decide +kernel, by decide +kernel, by decide +kernel⟩ rfl, (fun a xs z => nomatch z), (by show Str.length "" ≤ 100000; decide +kernel)⟩
    · exact ⟨.dct i3 v1, (fun a xs z => by cases z; rw [i3]; exact ⟨(fun z => nomatch z), (fun z => nomatch z)⟩), .inr (.inr ⟨_, i3⟩)⟩
    · exact ⟨.flat (fun _ => trivial) (fun a z => nomatch z) (fun _ => .int 5) ⟨by decide +kernel, by decide +kernel, by decide +kernel, by decide +kernel⟩ rfl, (fun a xs z => nomatch z), trivial⟩
    · exact ⟨.flat (fun _ => trivial) (fun a z => nomatch z) (fun _ => .bl true) ⟨by decide +kernel, by decide +kernel, by decide +kernel, by decide +kernel⟩ rfl, (fun a xs z => nomatch z), trivial⟩
  obtain ⟨z, rz⟩ := ob.nay
  refine ⟨_, rfl, 7, lv, .non, rfl, .sum (.no nr.2 nr.1) fun r HW gW eW => ?_⟩
  refine rz HW r _ (away_of gW) eW ⟨_, rfl, s2, fun r2 hr2 => ?_⟩
  have gx := same_new hr2 (.tup [.str "none", lv])
  refine rz _ r2 _ ((away_of gW).trans (away_of gx)) upd_same ⟨rfl, ?_⟩
  rw [decide_eq_true rfl]
  exact q _ ((aQ.trans (away_of gW)).trans (away_of gx))
end
end S
set_option Elab.async false
set_option linter.all false
set_option maxRecDepth 100000
namespace S
open PySem L2
theorem kit_errV {K : PySem.W.Frag} {C f : Addr} {bm : List Value} (ec : ErrC K C f bm) (h : bm.contains (.type "ValueError") = true) : PySem.W.kitOne K (.ref C) (.type "ValueError") = some true := by
  obtain ⟨cc, k1, k2, k3⟩ := err_cls ec
  unfold PySem.W.kitOne
  rw [if_neg (by simp)]
  unfold PySem.W.kitCls
  dsimp only
  rw [if_pos (show PySem.W.kitMeta "ValueError" = true by decide +kernel)]
  show PySem.W.mroIn K C (.type "ValueError") = some true
  rw [k3, List.contains_cons, h, Bool.or_true]
theorem at_any {xs : List V} {i : Int} (h0 : -(xs.length : Int) ≤ i) (h : i < (xs.length : Int)) : ∃ v, v ∈ xs ∧ atI xs i = some v := by
  by_cases c : 0 ≤ i
  · exact at_mem c h
  · have e : ixN xs.length i = some (i + (xs.length : Int)).toNat := by
      unfold ixN
      rw [if_neg c, if_pos h0]
    have hk : (i + (xs.length : Int)).toNat < xs.length := by omega
    refine ⟨xs[(i + (xs.length : Int)).toNat], List.getElem_mem hk, ?_⟩
    unfold atI
    rw [e]
    exact List.getElem?_eq_getElem hk
def spLaw (K : PySem.W.Frag) : Sp := fun vs H Q _ => ∃ (a : Addr) (ns : List Int), vs = [.ref a] ∧ SqL K H a (ns.map V.int) ∧ ns.length ≤ 63 ∧ ∀ H', Q (.bl true) H'
section
variable {P : Program} {w : World} {K : PySem.W.Frag} {mg : Str → Option Value} {base : Heap}
theorem scCase6 : FnScope ["_law_box_here", "_law_things_here", "_law_k", "_law_at"] ["_law_box_here"] (defScope s_law_case) := ⟨rfl, rfl, rfl, by decide +kernel, rfl, by decide +kernel, by decide +kernel⟩
set_option maxHeartbeats 1000000 in
theorem ok_case6 {f a1 a2 a3 a4 a5 CM fM : Addr} {bm : List Value} {fd d1 d2 d3 d4 d5 fdM : FuncData} (F : Fun K "_law_case" "_law_case" s_law_case f fd) (mr : mg "range" = none) (mis : mg "isinstance" = none) (mv : mg "ValueError" = none) (mM : mg "MeetError" = some (.ref CM))
    (ecM : ErrC K CM fM bm) (hV : bm.contains (.type "ValueError") = true) (fcM : PySem.W.findIn K (.ref CM) "__class__" = some (some (.builtin "object.__class__"))) (OM : FnOk P w K mg base CX0 1 fM fdM ["self", "text"] (spMeet K)) (bM : Binds K fdM ["self", "text"] [])
    (D1 : Def P w K mg base 2 "_law_things" ["_law_box_here"] spThings a1 d1) (D2 : Def P w K mg base 1 "_law_take" ["_law_box_here", "_law_many"] spTake a2 d2) (D3 : Def P w K mg base 6 "_law_made_right" ["_law_thing", "_law_other"] spMade a3 d3) (D4 : Def P w K mg base 6 "_law_kept_right" ["_law_number"] spKept a4 d4) (D5 : Def P w K mg base 7 "_law_doors_right" ["_law_box_here"] spDoors a5 d5) : FnOk P w K mg base CX0 8 f fd ["_law_box_here"] spDoors := by
  refine F.ok scCase6 (fun vs H Q E h => ?_) (fun cdv A outer s H vs Q E hr h => ?_)
  · obtain ⟨b, rfl, _⟩ := h
    rfl
  obtain ⟨b, rfl, hb, q⟩ := h
  have hr1 : Room 1 _ := hr.mono (by decide)
  have hr2 : Room 2 _ := hr.mono (by decide)
  have hr6 : Room 6 _ := hr.mono (by decide)
  refine ⟨_, pss_cons (ps_set (i := 1) scCase6.nd rfl (Or.inl rfl) (pe_call D1.ok hr2 rfl D1.m D1.k D1.b .nil pass0 (pa_cons (pv 0) pa_nil)))
    (pss_cons (ps_for PassesOwn.never rfl (pi_range1 rfl mr (pa_cons pe_int pa_nil)) (pg_name (i := 2) scCase6.nd rfl (Or.inl rfl))
      (pss_cons (ps_set (i := 3) scCase6.nd rfl (Or.inl rfl) (pe_call D2.ok hr1 rfl D2.m D2.k D2.b .nil pass0 (pa_cons (pv 0) (pa_cons pe_int pa_nil))))
      (pss_one (ps_if (pt_not (pt_val (pe_call D3.ok hr6 rfl D3.m D3.k D3.b .nil pass0 (pa_cons (pe_ix ix_list (pv 1) (pv 3) (fun _ _ => rfl)) (pa_cons (pe_ix ix_list (pv 1) (pe_op op_sub (pv 3) pe_int) (fun _ _ => rfl)) pa_nil))))) (pss_one (ps_ret pe_bl)) pss_nil))))
    (pss_cons (ps_if (PW.pt (pw_or (pt_not (pt_val (pe_call D4.ok hr6 rfl D4.m D4.k D4.b .nil pass0 (pa_cons (pe_call D2.ok hr1 rfl D2.m D2.k D2.b .nil pass0 (pa_cons (pv 0) (pa_cons pe_int pa_nil))) pa_nil))))
      (pw_or1 (pt_not (pt_val (pe_callB call_instE rfl mis PyProof.Rows.boot_isinstance (pa_cons (pe_mkErr ecM OM hr2 bM rfl mM (pa_cons pe_str pa_nil)) (pa_cons (pe_bltn (v := .ty "ValueError") rfl mv bVE rfl) pa_nil)))))))) (pss_one (ps_ret pe_bl)) pss_nil)
    (pss_one (ps_ret (pe_call D5.ok hr rfl D5.m D5.k D5.b .nil pass0 (pa_cons (pv 0) pa_nil)))))), ?_⟩
  refine ⟨_, rfl, b, rfl, hb, fun D H1 ts hD b1 w1 c1 tz tt => ?_⟩
  have nD : D ≠ b := fun z => by obtain ⟨_, _, e, _⟩ := hb; rw [z, e] at hD; cases hD
  refine ⟨2, rfl, by decide, by decide, ?_⟩
  refine for_range (lo := 0) (fun i σ H' => Away b H1 H' ∧ BoxAt H' b ∧ ∃ u1 u2, σ = [some (.ref b), some (.ref D), u1, u2]) ⟨Away.refl _, b1, _, _, rfl⟩ (fun i σ H2 hi hP => ?_) (fun σ H2 hP => ?_)
  · obtain ⟨w2, b2, u1, u2, rfl⟩ := hP
    refine ⟨_, rfl, b, 8, rfl, by decide, bg_small (by decide) (by decide), b2, fun k H3 k0 k8 b3 w3 => ?_⟩
    have w13 := w2.trans w3.away
    obtain ⟨x, hx, ax⟩ := at_mem (xs := ts) k0 (by rw [tz]; exact k8)
    obtain ⟨y, hy, ay⟩ := at_any (xs := ts) (i := k - 1) (by rw [tz]; omega) (by rw [tz]; omega)
    have c3 := w13 _ _ c1 nD
    refine ⟨_, rfl, _, rfl, D, _, _, _, rfl, rfl, SqL.of c3, ax, _, rfl, _, rfl, _, _, rfl, rfl, D, _, _, _, rfl, rfl, SqL.of c3, ay, b, x, y, rfl, (tt x hx).away w13, (tt y hy).away w13, fun H4 g4 => ⟨_, rfl, iteF ?_⟩⟩
    exact ⟨w13.trans (away_of g4), b3.same g4, _, _, rfl⟩
  · obtain ⟨w2, b2, u1, u2, rfl⟩ := hP
    refine ⟨_, rfl, b, 100, rfl, by decide, bg_small (by decide) (by decide), b2, fun k H3 k0 k8 b3 w3 => ⟨k, rfl, fun H4 g4 => ⟨_, rfl, iteF ?_⟩⟩⟩
    refine ⟨(by show 1 ≤ sizeLine; decide), fun e he => ?_⟩
    have g5 := same_new he (errO e CM none)
    refine ⟨e, CM, _, fM, bm, rfl, ecM, upd_same, rfl, .ty true upd_same ecM fcM (kit_errV ecM hV) ⟨_, rfl, iteF ?_⟩⟩
    refine ⟨_, rfl, b, rfl, (b3.same g4).same g5, fun H6 w6 => q H6 ?_⟩
    exact (((w1.trans w2).trans w3.away).trans (away_of (g4.trans g5))).trans w6
theorem scLaw : FnScope ["_law_script", "_law_k"] ["_law_script"] (defScope sLaw) := ⟨rfl, rfl, rfl, by decide +kernel, rfl, by decide +kernel, by decide +kernel⟩
theorem ok_law {f a1 a2 : Addr} {fd d1 d2 : FuncData} (F : Fun K "law" "law" sLaw f fd) (mr : mg "range" = none) (mx : mg "max" = none) (mn : mg "min" = none) (ml : mg "len" = none) (D1 : Def P w K mg base 1 "_law_box" ["_law_script", "_law_k"] (spBox K) a1 d1) (D2 : Def P w K mg base 8 "_law_case" ["_law_box_here"] spDoors a2 d2) : FnOk P w K mg base CX0 9 f fd ["_law_script"] (spLaw K) := by
  refine F.ok scLaw (fun vs H Q E h => ?_) (fun cdv A outer s H vs Q E hr h => ?_)
  · obtain ⟨a, ns, rfl, _⟩ := h
    rfl
  obtain ⟨a, ns, rfl, hS, hl, q⟩ := h
  have hr1 : Room 1 _ := hr.mono (by decide)
  refine ⟨_, pss_cons (ps_for PassesOwn.never rfl (pi_range1 rfl mr (pa_cons (pe_callB (call_max2 rfl) rfl mx PyProof.Rows.boot_max (pa_cons pe_int (pa_cons (pe_callB (call_min2 rfl) rfl mn PyProof.Rows.boot_min (pa_cons (pe_callB call_len_seq rfl ml PySem.boot_len (pa_cons (pv 0) pa_nil)) (pa_cons pe_int pa_nil))) pa_nil))) pa_nil)) (pg_name (i := 1) scLaw.nd rfl (Or.inl rfl))
      (pss_one (ps_if (pt_not (pt_val (pe_call D2.ok hr rfl D2.m D2.k D2.b .nil pass0 (pa_cons (pe_call D1.ok hr1 rfl D1.m D1.k D1.b .nil pass0 (pa_cons (pv 0) (pa_cons (pv 1) pa_nil))) pa_nil)))) (pss_one (ps_ret pe_bl)) pss_nil)))
    (pss_one (ps_ret pe_bl)), ?_⟩
  refine ⟨_, rfl, a, _, rfl, .inl hS, _, _, rfl, _, _, rfl, _, rfl, ?_, ?_, ?_⟩
  · split <;> (try split) <;> (try simp only [List.length_map]) <;> omega
  · split <;> (try split) <;> (try simp only [List.length_map]) <;> omega
  refine for_range (lo := 0) (fun i σ H' => ∃ k, σ = [some (.ref a), k] ∧ Same H H') ⟨_, rfl, Same.refl H⟩ ?_ ?_
  · rintro i σ H' hi ⟨k, rfl, g⟩
    have hi' : i < 100 := by
      refine Nat.lt_of_lt_of_le hi ?_
      split <;> (try split) <;> (try simp only [List.length_map]) <;> omega
    refine ⟨_, rfl, _, rfl, a, ns, _, rfl, g.seq hS, by omega, by omega, fun b H2 g2 hb hb2 => ?_⟩
    refine ⟨b, rfl, hb2, fun H3 a3 => ⟨_, rfl, iteF ⟨_, rfl, fun c o hc => ?_⟩⟩⟩
    have hc' := g c o hc
    exact a3 c o (g2 c o hc') (ne_of_none hc' hb)
  · rintro σ H' ⟨k, rfl, g⟩
    exact q H'
end
end S
set_option Elab.async false
set_option linter.all false
set_option maxRecDepth 100000
namespace S
open PySem L2
section
variable {P : Program} {w : World} {K : PySem.W.Frag} {mg : Str → Option Value} {base : Heap}
theorem scTake : FnScope ["_law_box_here", "_law_many", "_law_digit", "_law_one", "_law_two"] ["_law_box_here", "_law_many"] (defScope sTake) := ⟨rfl, rfl, rfl, by decide +kernel, rfl, by decide +kernel, by decide +kernel⟩
theorem ok_take {f : Addr} {fd : FuncData} (F : Fun K "_law_take" "_law_take" sTake f fd) : FnOk P w K mg base CX0 1 f fd ["_law_box_here", "_law_many"] spTake := by
  refine F.ok scTake (fun vs H Q E h => ?_) (fun cdv A outer s H vs Q E hr h => ?_)
  · obtain ⟨b, n, rfl, _⟩ := h
    rfl
  obtain ⟨b, n, rfl, n0, n1, ⟨d, z, hb, d0, s0, s1⟩, q⟩ := h
  refine ⟨_, pss_cons (ps_if (pt_cmpR op_gt (pe_ix ix_list (pv 0) pe_int (fun _ _ => rfl)) pe_int (nomark _))
      (pss_cons (ps_set (i := 2) scTake.nd rfl (Or.inl rfl) (pe_op op_mod (pe_ix ix_list (pv 0) pe_int (fun _ _ => rfl)) (pv 1)))
      (pss_cons (ps_asg (pe_op op_fdivB (pe_ix ix_list (pv 0) pe_int (fun _ _ => rfl)) (pv 1)) (pg_sub (pv 0) pe_int set_list))
      (pss_one (ps_ret (pv 2))))) pss_nil)
    (pss_cons (ps_asg (pe_op op_mod (pe_op op_mul (pe_ix ix_list (pv 0) pe_int (fun _ _ => rfl)) pe_int) pe_int) (pg_sub (pv 0) pe_int set_list))
    (pss_cons (ps_set (i := 3) scTake.nd rfl (Or.inl rfl) (pe_op op_mod (pe_op op_mul (pe_op op_add (pe_ix ix_list (pv 0) pe_int (fun _ _ => rfl)) (pe_op op_mul pe_int (pe_op op_fdiv (pe_ix ix_list (pv 0) pe_int (fun _ _ => rfl)) pe_int))) pe_int) pe_int))
    (pss_cons (ps_set (i := 4) scTake.nd rfl (Or.inl rfl) (pe_op op_mod (pe_op op_add (pe_op op_mul (pv 3) pe_int) (pe_op op_fdiv (pe_ix ix_list (pv 0) pe_int (fun _ _ => rfl)) pe_int)) pe_int))
    (pss_one (ps_ret (pe_op op_mod (pe_op op_add (pe_op op_mul (pv 3) pe_int) (pv 4)) (pv 1))))))), ?_⟩
  have bt : ∀ o, But b H (upd H b o) := fun o c hc => upd_ne hc
  refine ⟨_, rfl, b, _, _, _, rfl, rfl, SqL.of hb, rfl, _, _, rfl, rfl, _, rfl, ?_⟩
  refine ite2 (fun y => ?_) (fun y => ?_)
  · refine ⟨_, rfl, b, _, _, _, rfl, rfl, SqL.of hb, rfl, _, rfl, _, _, rfl, rfl, n0, ?_⟩
    refine ⟨_, rfl, b, _, _, _, rfl, rfl, SqL.of hb, rfl, _, rfl, _, _, rfl, rfl, ⟨n0, n1.abs (Nat.le_refl _)⟩, _, rfl, b, _, _, _, rfl, rfl, hb, rfl, ?_⟩
    exact ⟨_, rfl, q _ _ (Int.emod_nonneg _ (by omega)) (Int.emod_lt_of_pos _ n0) ⟨_, _, upd_same, Int.ediv_nonneg d0 (by omega), s0, s1⟩ (bt _)⟩
  · have m0 := Int.emod_nonneg (z * 48271) (b := 2147483647) (by decide)
    have m1 := Int.emod_lt_of_pos (z * 48271) (b := 2147483647) (by decide)
    refine ⟨_, rfl, b, _, _, _, rfl, rfl, SqL.of hb, rfl, _, _, rfl, rfl, .inr ⟨by decide, by decide⟩, _, _, rfl, rfl, (by show (0 : Int) < 2147483647; decide), _, rfl, b, _, _, _, rfl, rfl, hb, rfl, ?_⟩
    refine ⟨_, rfl, b, _, _, _, rfl, rfl, SqL.of upd_same, rfl, _, rfl, b, _, _, _, rfl, rfl, SqL.of upd_same, rfl, _, _, rfl, rfl, ⟨by decide, by decide⟩, _, _, rfl, rfl, .inl ⟨by decide, by decide⟩, _, _, rfl, rfl, _, _, rfl, rfl, .inr ⟨by decide, by decide⟩, _, _, rfl, rfl, (by show (0 : Int) < 2147483629; decide), ?_⟩
    refine ⟨_, rfl, _, _, rfl, rfl, .inr ⟨by decide, by decide⟩, _, rfl, b, _, _, _, rfl, rfl, SqL.of upd_same, rfl, _, _, rfl, rfl, ⟨by decide, by decide⟩, _, _, rfl, rfl, _, _, rfl, rfl, (by show (0 : Int) < 2147483399; decide), ?_⟩
    refine ⟨_, rfl, _, _, rfl, rfl, .inr ⟨by decide, by decide⟩, _, rfl, _, _, rfl, rfl, _, rfl, _, _, rfl, rfl, n0, ?_⟩
    exact q _ _ (Int.emod_nonneg _ (by omega)) (Int.emod_lt_of_pos _ n0) ⟨_, _, upd_same, d0, m0, by omega⟩ (bt _)
theorem scLCommon : FnScope ["_law_one", "_law_other"] ["_law_one", "_law_other"] (defScope s_law_common) := ⟨rfl, rfl, rfl, by decide +kernel, rfl, by decide +kernel, by decide +kernel⟩
theorem ok_lcommon {f : Addr} {fd : FuncData} (F : Fun K "_law_common" "_law_common" s_law_common f fd) : FnOk P w K mg base CX0 1 f fd ["_law_one", "_law_other"] spCommon := by
  refine F.ok scLCommon (fun vs H Q E h => ?_) (fun cdv A outer s H vs Q E hr h => ?_)
  · obtain ⟨a, b, rfl, _⟩ := h
    rfl
  obtain ⟨a, b, rfl, ha, hb, q⟩ := h
  refine ⟨_, pss_cons (ps_while PassesOwn.never (pt_cmpR op_gt (pv 1) pe_int (nomark _))
      (pss_one (ps_par (i := 0) (j := 1) rfl scLCommon.nd rfl rfl (by decide) rfl rfl (pa_cons (pv 1) (pa_cons (pe_op op_mod (pv 0) (pv 1)) pa_nil)) rfl)))
    (pss_one (ps_ret (pv 0))), ?_⟩
  refine ⟨fun k σ H' => ∃ x y : Int, σ = [some (.int x), some (.int y)] ∧ 0 ≤ x ∧ 0 ≤ y ∧ k = y.toNat ∧ gc x y = gc a b ∧ H' = H, ⟨_, a, b, rfl, ha, hb, rfl, rfl, rfl⟩, ?_⟩
  rintro k σ H' ⟨x, y, rfl, hx, hy, rfl, e, rfl⟩
  refine ⟨_, rfl, _, _, rfl, rfl, _, rfl, ?_⟩
  refine ite2 (fun c => ?_) (fun c => ?_)
  · have c' : 0 < y := of_decide_eq_true c
    refine ⟨fun σ' H2 => σ' = [some (.int y), some (.int (x % y))] ∧ H2 = H', fun σ' H2 ⟨e1, e2⟩ => ⟨_, ?_, y, x % y, e1, hy, Int.emod_nonneg _ (by omega), rfl, (gc_step hx c').trans e, e2⟩, ?_⟩
    · have := Int.emod_lt_of_pos x c'
      have := Int.emod_nonneg x (b := y) (by omega)
      omega
    · exact ⟨_, rfl, _, rfl, _, rfl, _, _, rfl, rfl, c', _, _, rfl, rfl, rfl⟩
  · have c' : y = 0 := by
      have : ¬ 0 < y := fun z => c (decide_eq_true z)
      omega
    subst c'
    rw [gc_zero hx] at e
    refine ⟨_, rfl, ?_⟩
    rw [e]; exact q
theorem bg_of {n : Nat} {i : Int} (h : 0 ≤ i) (g : i < 2 ^ n) : BG n i := ⟨h, g⟩
theorem scPart : FnScope ["_law_box_here", "_law_way", "_law_number", "_law_k"] ["_law_box_here"] (defScope s_law_part) := ⟨rfl, rfl, rfl, by decide +kernel, rfl, by decide +kernel, by decide +kernel⟩
set_option maxHeartbeats 1000000 in
theorem ok_part {f a1 : Addr} {fd d1 : FuncData} (F : Fun K "_law_part" "_law_part" s_law_part f fd) (mr : mg "range" = none) (D1 : Def P w K mg base 1 "_law_take" ["_law_box_here", "_law_many"] spTake a1 d1) : FnOk P w K mg base CX0 2 f fd ["_law_box_here"] spPart := by
  refine F.ok scPart (fun vs H Q E h => ?_) (fun cdv A outer s H vs Q E hr h => ?_)
  · obtain ⟨b, rfl, _⟩ := h
    rfl
  obtain ⟨b, rfl, hb, q⟩ := h
  refine ⟨_, pss_cons (ps_set (i := 1) scPart.nd rfl (Or.inl rfl) (pe_call D1.ok hr rfl D1.m D1.k D1.b .nil pass0 (pa_cons (pv 0) (pa_cons pe_int pa_nil))))
    (pss_cons (ps_if (pt_cmpR op_eq (pv 1) pe_int (nomark _)) (pss_one (ps_ret (pe_call D1.ok hr rfl D1.m D1.k D1.b .nil pass0 (pa_cons (pv 0) (pa_cons pe_int pa_nil))))) pss_nil)
    (pss_cons (ps_if (pt_cmpR op_eq (pv 1) pe_int (nomark _)) (pss_one (ps_ret (pe_call D1.ok hr rfl D1.m D1.k D1.b .nil pass0 (pa_cons (pv 0) (pa_cons pe_int pa_nil))))) pss_nil)
    (pss_cons (ps_if (pt_cmpR op_eq (pv 1) pe_int (nomark _)) (pss_one (ps_ret (pe_op op_mul (pe_op op_mul (pe_op op_add pe_int (pe_call D1.ok hr rfl D1.m D1.k D1.b .nil pass0 (pa_cons (pv 0) (pa_cons pe_int pa_nil)))) (pe_op op_add pe_int (pe_call D1.ok hr rfl D1.m D1.k D1.b .nil pass0 (pa_cons (pv 0) (pa_cons pe_int pa_nil))))) (pe_op op_add pe_int (pe_call D1.ok hr rfl D1.m D1.k D1.b .nil pass0 (pa_cons (pv 0) (pa_cons pe_int pa_nil))))))) pss_nil)
    (pss_cons (ps_if (pt_cmpR op_eq (pv 1) pe_int (nomark _)) (pss_one (ps_ret (pe_call D1.ok hr rfl D1.m D1.k D1.b .nil pass0 (pa_cons (pv 0) (pa_cons (pe_op op_pow pe_int pe_int) pa_nil))))) pss_nil)
    (pss_cons (ps_set (i := 2) scPart.nd rfl (Or.inl rfl) pe_int)
    (pss_cons (ps_for PassesOwn.never rfl (pi_range1 rfl mr (pa_cons (pe_op op_add pe_int (pe_call D1.ok hr rfl D1.m D1.k D1.b .nil pass0 (pa_cons (pv 0) (pa_cons pe_int pa_nil)))) pa_nil)) (pg_name (i := 3) scPart.nd rfl (Or.inl rfl)) (pss_one (ps_set (i := 2) scPart.nd rfl (Or.inl rfl) (pe_op op_mul (pv 2) pe_int))))
    (pss_one (ps_ret (pe_op op_sub (pv 2) (pe_call D1.ok hr rfl D1.m D1.k D1.b .nil pass0 (pa_cons (pv 0) (pa_cons pe_int pa_nil)))))))))))), ?_⟩
  have s1 : (100000 : Nat) ≤ sizeLine := by decide
  have small : ∀ {n : Int}, 0 < n → n < 1000 → BG 8000 n := fun h0 h1 => (bg_of (n := 10) (by omega) (by omega)).mono (by decide)
  have tr : ∀ {H1 H2 H3 : Hp}, But b H1 H2 → But b H2 H3 → But b H1 H3 := fun x y c h => (y c h).trans (x c h)
  refine ⟨_, rfl, b, 5, rfl, by decide, small (by decide) (by decide), hb, fun way H1 w0 w1 b1 t1 => ?_⟩
  refine ⟨_, rfl, rfl, _, rfl, ?_⟩
  refine ite2 (fun _ => ?_) (fun _ => ?_)
  · exact ⟨_, rfl, b, 4, rfl, by decide, small (by decide) (by decide), b1, fun r H2 r0 r1 b2 t2 => q r H2 ((bg_of (n := 10) r0 (by omega)).mono (by decide)) b2 (tr t1 t2)⟩
  refine ⟨_, rfl, rfl, _, rfl, ?_⟩
  refine ite2 (fun _ => ?_) (fun _ => ?_)
  · exact ⟨_, rfl, b, 30, rfl, by decide, small (by decide) (by decide), b1, fun r H2 r0 r1 b2 t2 => q r H2 ((bg_of (n := 10) r0 (by omega)).mono (by decide)) b2 (tr t1 t2)⟩
  refine ⟨_, rfl, rfl, _, rfl, ?_⟩
  refine ite2 (fun _ => ?_) (fun _ => ?_)
  · refine ⟨_, rfl, b, 12, rfl, by decide, small (by decide) (by decide), b1, fun x H2 x0 x1 b2 t2 => ⟨_, _, rfl, rfl, _, rfl, b, 12, rfl, by decide, small (by decide) (by decide), b2, fun y H3 y0 y1 b3 t3 => ⟨_, _, rfl, rfl, _, _, rfl, rfl, .inl ⟨by omega, by omega⟩, _, rfl, b, 12, rfl, by decide, small (by decide) (by decide), b3, fun z H4 z0 z1 b4 t4 => ⟨_, _, rfl, rfl, _, _, rfl, rfl, .inr ⟨by omega, by omega⟩, ?_⟩⟩⟩⟩
    have e1 : BG 5 (1 + x) := bg_of (by omega) (by omega)
    have e2 : BG 5 (1 + y) := bg_of (by omega) (by omega)
    have e3 : BG 5 (1 + z) := bg_of (by omega) (by omega)
    exact q _ H4 (((e1.mul e2).mul e3).mono (by decide)) b4 (tr (tr (tr t1 t2) t3) t4)
  refine ⟨_, rfl, rfl, _, rfl, ?_⟩
  refine ite2 (fun _ => ?_) (fun _ => ?_)
  · have e20 : BG 70 ((10 : Int) ^ (20 : Int).toNat) := ⟨by decide, by decide⟩
    exact ⟨_, rfl, _, _, rfl, rfl, ⟨by decide, by decide, by decide⟩, b, _, rfl, by decide, e20.mono (by decide), b1, fun r H2 r0 r1 b2 t2 => q r H2 ((e20.le r0 (Int.le_of_lt r1)).mono (by decide)) b2 (tr t1 t2)⟩
  refine ⟨_, rfl, b, 40, rfl, by decide, small (by decide) (by decide), b1, fun m H2 m0 m1 b2 t2 => ⟨_, _, rfl, rfl, _, rfl, by omega, by omega, ?_⟩⟩
  have p40' : ∀ i : Nat, i < 41 → ((0 : Int) ≤ 10 ^ i ∧ (10 : Int) ^ i < 2 ^ 134) ∧ 1 ≤ (10 : Int) ^ i := by decide +kernel
  have p40 : ∀ i : Nat, i ≤ 40 → BG 134 ((10 : Int) ^ i) ∧ 1 ≤ (10 : Int) ^ i := fun i hi => p40' i (by omega)
  refine for_range (lo := 0) (fun i σ H' => H' = H2 ∧ ∃ k, σ = [some (.ref b), some (.int way), some (.int (10 ^ i)), k]) ⟨rfl, _, rfl⟩ (fun i σ H' hi hP => ?_) (fun σ H' hP => ?_)
  · obtain ⟨rfl, k, rfl⟩ := hP
    refine ⟨_, rfl, _, _, rfl, rfl, .inr ⟨by decide, by decide⟩, rfl, some (.int (0 + (i : Int))), ?_⟩
    show [some (V.ref b), some (V.int way), some (V.int (10 ^ i * 10)), some (V.int (0 + (i : Int)))] = _
    rw [Int.pow_succ]
  · obtain ⟨rfl, k, rfl⟩ := hP
    refine ⟨_, rfl, _, rfl, b, 2, rfl, by decide, small (by decide) (by decide), b2, fun r H3 r0 r1 b3 t3 => ⟨_, _, rfl, rfl, ?_⟩⟩
    obtain ⟨pB, p1⟩ := p40 (1 + m).toNat (by omega)
    exact q _ H3 ((pB.le (by omega) (by omega)).mono (by decide)) b3 (tr (tr t1 t2) t3)
theorem scShare : FnScope ["_law_box_here", "_law_top", "_law_bottom", "_law_by"] ["_law_box_here"] (defScope s_law_share) := ⟨rfl, rfl, rfl, by decide +kernel, rfl, by decide +kernel, by decide +kernel⟩
theorem ok_share {f a1 a2 : Addr} {fd d1 d2 : FuncData} (F : Fun K "_law_share" "_law_share" s_law_share f fd) (D1 : Def P w K mg base 2 "_law_part" ["_law_box_here"] spPart a1 d1) (D2 : Def P w K mg base 1 "_law_common" ["_law_one", "_law_other"] spCommon a2 d2) : FnOk P w K mg base CX0 3 f fd ["_law_box_here"] spShare := by
  refine F.ok scShare (fun vs H Q E h => ?_) (fun cdv A outer s H vs Q E hr h => ?_)
  · obtain ⟨b, rfl, _⟩ := h
    rfl
  obtain ⟨b, rfl, hb, q⟩ := h
  have hr1 : Room 1 _ := hr.mono (by decide)
  refine ⟨_, pss_cons (ps_set (i := 1) scShare.nd rfl (Or.inl rfl) (pe_call D1.ok hr rfl D1.m D1.k D1.b .nil pass0 (pa_cons (pv 0) pa_nil)))
    (pss_cons (ps_set (i := 2) scShare.nd rfl (Or.inl rfl) (pe_op op_add pe_int (pe_call D1.ok hr rfl D1.m D1.k D1.b .nil pass0 (pa_cons (pv 0) pa_nil))))
    (pss_cons (ps_set (i := 3) scShare.nd rfl (Or.inl rfl) (pe_call D2.ok hr1 rfl D2.m D2.k D2.b .nil pass0 (pa_cons (pv 1) (pa_cons (pv 2) pa_nil))))
    (pss_one (ps_ret (pe_tup (pa_cons (pe_op op_fdivB (pv 1) (pv 3)) (pa_cons (pe_op op_fdivB (pv 2) (pv 3)) pa_nil))))))), ?_⟩
  refine ⟨_, rfl, b, rfl, hb, fun x H1 xB b1 t1 => ⟨_, rfl, b, rfl, b1, fun y H2 yB b2 t2 => ⟨_, _, rfl, rfl, ?_⟩⟩⟩
  have y1 : 1 ≤ 1 + y := by have := yB.1; omega
  have yB' : BG 136 (1 + y) := (bg_of (n := 135) (i := 1) (by decide) (by decide)).add yB
  have gp := gc_pos xB.1 (show 0 < 1 + y by omega)
  have gb : (gc x (1 + y)).natAbs < 2 ^ 8000 := (yB'.le (gc_nn _ _) (gc_le (by omega))).abs (by decide)
  refine ⟨_, rfl, _, rfl, x, 1 + y, rfl, xB.1, by omega, _, rfl, _, rfl, _, _, rfl, rfl, ⟨gp, gb⟩, _, rfl, _, rfl, _, _, rfl, rfl, ⟨gp, gb⟩, (by show 2 ≤ sizeLine; decide), fun r hr' => ?_⟩
  obtain ⟨ok1, _⟩ := low_ok xB.1 y1
  have aw : Away b H H2 := t1.away.trans t2.away
  exact q r _ _ _ (aw.free b2 hr') upd_same ok1 ((xB.div (gc_nn _ _)).mono (by decide)) ((yB'.div (gc_nn _ _)).mono (by decide)) (b2.same (same_new hr' _)) (aw.trans (away_of (same_new hr' _)))
end
end S
set_option Elab.async false
set_option linter.all false
set_option maxRecDepth 100000
namespace S
open PySem L2
def Cs21 (l : List Addr) (j : Nat) : Addr := l.getD j 0
def nodupB : List Addr → Bool
  | [] => true
  | x :: xs => (!xs.contains x) && nodupB xs
theorem nodupB_of : ∀ {l : List Addr}, nodupB l = true → l.Nodup
  | [], _ => List.nodup_nil
  | x :: xs, h => by
    unfold nodupB at h
    rw [Bool.and_eq_true, Bool.not_eq_true'] at h
    exact List.nodup_cons.mpr ⟨fun m => by rw [List.contains_iff_mem.mpr m] at h; exact Bool.noConfusion h.1, nodupB_of h.2⟩
theorem tab_mk {K : PySem.W.Frag} {CM : Addr} {cs : List Addr} {bv : List Value} (len : cs.length = 21) (nd : nodupB (CM :: cs) = true) (hb : ∀ a, bv.contains (.ref a) = false) (er : ∀ j, j ≤ 20 → ∃ f, ErrC K (Cs21 cs j) f (.ref CM :: bv)) (fc : ∀ j, j ≤ 20 → PySem.W.findIn K (.ref (Cs21 cs j)) "__class__" = some (some (.builtin "object.__class__"))) : Tab K (Cs21 cs) (.ref CM :: bv) := by
  have nd := nodupB_of nd
  obtain ⟨nM, nc⟩ := List.nodup_cons.mp nd
  have get : ∀ {i : Nat}, i ≤ 20 → ∃ h : i < cs.length, Cs21 cs i = cs[i] := fun {i} hi => ⟨by omega, by unfold Cs21; rw [List.getD_eq_getElem?_getD, List.getElem?_eq_getElem (by omega)]; rfl⟩
  refine ⟨er, fc, fun i j hi hj e => ?_, fun j hj => ?_⟩
  · obtain ⟨h1, e1⟩ := get hi
    obtain ⟨h2, e2⟩ := get hj
    rw [e1, e2] at e
    have pw := List.pairwise_iff_getElem.mp nc
    rcases Nat.lt_trichotomy i j with h | h | h
    · exact absurd e (pw i j h1 h2 h)
    · exact h
    · exact absurd e.symm (pw j i h2 h1 h)
  · obtain ⟨h1, e1⟩ := get hj
    rw [List.contains_cons, hb, Bool.or_false, e1]
    refine Bool.eq_false_iff.mpr fun z => nM ?_
    have : cs[j] = CM := Value.ref.inj (beq_iff_eq.mp z)
    rw [← this]
    exact List.getElem_mem h1
end S
set_option Elab.async false
set_option linter.all false
set_option maxRecDepth 100000
namespace HT
open PySem PySem.W PySem.Calls PyProof.Rows
def topRunT (tb : String → Option Builtin) (p : Program) (w : World) (m : Nat) (ann : Option Value) : Nat → SharedT → Thread → Option SharedT
  | 0, _, _ => none
  | n + 1, s, t => match through t with
    | true => some s
    | false => match stepOk m ann t with
      | false => none
      | true => match stepT (denote tb) p w s t with
        | some (s', t') => topRunT tb p w m ann n s' t'
        | none => none
theorem topRun_ofT {tb : String → Option Builtin} {p : Program} {w : World} {m : Nat} {ann : Option Value} : ∀ {n : Nat} {s s' : SharedT} {t : Thread}, topRunT tb p w m ann n s t = some s' → topRun tb p w m ann n s.abs t = some s'.abs
  | 0, _, _, _, h => by cases h
  | n + 1, s, s', t, h => by
    unfold topRunT at h
    unfold topRun
    cases he : through t with
    | true => rw [he] at h; cases h; rfl
    | false =>
      rw [he] at h
      cases hk : stepOk m ann t with
      | false => rw [hk] at h; cases h
      | true =>
        rw [hk] at h
        cases hs : stepT (denote tb) p w s t with
        | none => rw [hs] at h; cases h
        | some r => obtain ⟨a, b⟩ := r; rw [hs] at h; rw [stepT_spec hs]; exact topRun_ofT h
def bt (l : List Obj) : Nat → Nat → Nat → BT
  | 0, _, _ => .nil
  | n + 1, a, b => match l[b]? with
    | some o => .node o (bt l n (2 * a) (a + b)) (bt l n (2 * a) (2 * a + b))
    | none => .nil
noncomputable def bootT (P : Params) : BT := bt (boot_heap P).objs.toList 10 1 0
def bootN : Nat := 11
theorem boot_abs (P : Params) : absHeap (bootT P) bootN (boot_heap P).life = boot_heap P := by
  kernel_rfl
theorem boot_ann (P : Params) : (boot_heap P).nsMap mainGlobals "__annotations__" = some (Value.ref 6) := by kernel_rfl
theorem boot_ns (P : Params) : (boot_heap P).isNs mainGlobals = true := by kernel_rfl
theorem boot_size (P : Params) : (boot_heap P).objs.size = bootN := by kernel_rfl
noncomputable def start0 (P : Params) (os : OsState) : SharedT := ⟨bootT P, bootN, (boot_heap P).life, Array.mk [], boot_drawn, boot_toks, os⟩
theorem start0_abs (P : Params) (os : OsState) : (start0 P os).abs = ⟨boot_heap P, Array.mk [], boot_drawn, boot_toks, os⟩ := by
  unfold start0 SharedT.abs
  dsimp only
  rw [boot_abs]
noncomputable def ran (p q : Program) (loose : List Str) (Xt : Shared → Bool) {α : Type} (Yf : Shared → α) (N : Nat) (w : World) (os : OsState) :=
  (topRunT treeTable p w bootN (some (Value.ref 6)) N (start0 w.params os) (topStub p)).map fun s =>
    (staticsOk (importedModules p.main.body) (boot_heap w.params) s.abs.heap && namesBound p s.abs.heap && gensDone s.abs && laidKept (boot_heap w.params) s.abs.heap,
      openSeen q loose (importedModules p.main.body) Xt true s.abs, Yf s.abs)
theorem left_of {p q : Program} {loose : List Str} {Xt : Shared → Bool} {α : Type} {Yf : Shared → α} {Ya : World → α} {N : Nat}
    (e : opening p = plainProg p.main.scope.names) (hN : Nat.ble 600 N = true) (f : ∀ s, fenceModules? p s = some s)
    (h : ∀ w os, ran p q loose Xt Yf N w os = some (true, openGood q loose, Ya w)) : LeftO p q loose Xt Yf Ya N := fun w => by
  obtain ⟨⟨hp, gs, d, k, os⟩, e1, e2⟩ := Option.map_eq_some_iff.mp (boot_open e hN f w)
  obtain ⟨rfl, rfl, rfl, rfl⟩ : hp = boot_heap w.params ∧ gs = Array.mk [] ∧ d = boot_drawn ∧ k = boot_toks := by simpa using e2
  obtain ⟨s, r1, r2⟩ := Option.map_eq_some_iff.mp (h w os)
  have r3 := topRun_ofT r1
  rw [start0_abs] at r3
  obtain ⟨l1, l2, l3⟩ : _ ∧ _ ∧ _ := by simpa only [Prod.mk.injEq] using r2
  have t : topFrom treeTable p w N ⟨boot_heap w.params, Array.mk [], boot_drawn, boot_toks, os⟩ = some s.abs := by
    unfold topFrom
    dsimp only
    rw [boot_ann, boot_ns, boot_size, r3]
    show (match staticsOk (importedModules p.main.body) (boot_heap w.params) s.abs.heap && namesBound p s.abs.heap && gensDone s.abs && laidKept (boot_heap w.params) s.abs.heap with | true => _ | false => _) = _
    rw [l1]
  unfold openEnds
  rw [e1]
  show (topFrom treeTable p w N _).map _ = _
  rw [t]
  exact congrArg some (Prod.ext l2 l3)
def only (p : Program) (l : List Stmt) : Program := { p with main := { p.main with body := l } }
end HT
set_option Elab.async false
set_option linter.all false
set_option maxRecDepth 100000
namespace HT
open PySem PySem.W PySem.Calls PyProof.Rows
noncomputable def chk (p q : Program) (loose : List Str) (Xt : Shared → Bool) (N : Nat) (w : World) (os : OsState) :=
  (topRunT treeTable p w bootN (some (Value.ref 6)) N (start0 w.params os) (topStub p)).map fun s =>
    (staticsOk (importedModules p.main.body) (boot_heap w.params) s.abs.heap && namesBound p s.abs.heap && gensDone s.abs && laidKept (boot_heap w.params) s.abs.heap,
      openSeen q loose (importedModules p.main.body) Xt true s.abs)
noncomputable def obs (p : Program) {α : Type} (Yf : Shared → α) (N : Nat) (w : World) (os : OsState) :=
  (topRunT treeTable p w bootN (some (Value.ref 6)) N (start0 w.params os) (topStub p)).map fun s => Yf s.abs
theorem left_of2 {p q : Program} {loose : List Str} {Xt : Shared → Bool} {α : Type} {Yf : Shared → α} {Ya : World → α} {N : Nat}
    (e : opening p = plainProg p.main.scope.names) (hN : Nat.ble 600 N = true) (f : ∀ s, fenceModules? p s = some s)
    (h1 : ∀ w os, chk p q loose Xt N w os = some (true, openGood q loose)) (h2 : ∀ w os, obs p Yf N w os = some (Ya w)) : LeftO p q loose Xt Yf Ya N := left_of e hN f fun w os => by
  have a := h1 w os
  have b := h2 w os
  unfold chk at a
  unfold obs at b
  unfold ran
  obtain ⟨s, h, ea⟩ := Option.map_eq_some_iff.mp a
  rw [h] at b ⊢
  have eb : Yf s.abs = Ya w := Option.some.inj b
  rw [Option.map_some]
  congr 1
  injection ea with e1 e2
  rw [e1, e2, eb]
theorem obs_app {p : Program} {N : Nat} {w : World} {os : OsState} {as bs : List Addr} {r q : List (Option Obj)} (h1 : obs p (fun s => as.map s.heap.get?) N w os = some r) (h2 : obs p (fun s => bs.map s.heap.get?) N w os = some q) : obs p (fun s => (as ++ bs).map s.heap.get?) N w os = some (r ++ q) := by
  unfold obs at h1 h2 ⊢
  obtain ⟨s, h, ea⟩ := Option.map_eq_some_iff.mp h1
  rw [h] at h2 ⊢
  have eb : bs.map s.abs.heap.get? = q := Option.some.inj h2
  rw [Option.map_some]
  congr 1
  show (as ++ bs).map s.abs.heap.get? = r ++ q
  rw [List.map_append, eb]
  congr 1
end HT
set_option Elab.async false
set_option linter.all false
set_option maxRecDepth 100000
namespace S
open PySem L2
theorem kit_of {K : PySem.W.Frag} {t c : String} {b : Bool} (n : ((Value.type t) == (Value.type c)) = false) (m : PySem.W.kitMeta c = true) (s : PySem.W.subIn K (.type t) (.type c) = some b) : PySem.W.kitOne K (.type t) (.type c) = some b := by
  unfold PySem.W.kitOne
  rw [if_neg (by rw [n]; simp)]
  unfold PySem.W.kitCls
  dsimp only
  rw [if_pos m]
  exact s
abbrev bmV : List Value := [.type "ValueError", .type "Exception", .type "BaseException", .type "object"]
theorem tailV : L2E.Tail bmV "ValueError" := ⟨by decide +kernel, by decide +kernel, by decide +kernel⟩
theorem tailM (C : Addr) : L2E.Tail (.ref C :: bmV) "ValueError" := ⟨by rw [List.contains_cons, tailV.base, Bool.or_true], by rw [List.contains_cons, tailV.attr]; rfl, by rw [List.contains_cons, tailV.name]; rfl⟩
set_option maxHeartbeats 0 in
theorem all_mk {l : PySem.W.OpenLaw} {w : World} {K : PySem.W.Frag} {h : Heap} {mg : Str → Option Value} {fa CM C_e0 C_e1 C_e2 C_e3 C_e4 C_e5 C_e6 C_e7 C_e8 C_e9 C_e10 C_e11 C_e12 C_e13 C_e14 C_e15 C_e16 C_e17 C_e18 C_e19 C_e20 f_a f_b f_c f_d f_e f_f f_g f_h f_i f_j f_k f_l f_m f_n f_o f_p f_q f_r f_s f_t f_u f_v f_w f_x f_y f_z f_A f_B f_C f_D f_E f_F f_G f_H f_I f_J f_K f_L f_M f_N f_O f_P f_Q f_R f_S f_T f_U f_V f_W f_X f_Y f_Z f_a0 : Addr} (X : K.In h) (G : h.Ns mainGlobals mg) (hfa : mg "law" = some (.ref fa))
    {od_a an_a od_b an_b od_c an_c od_d an_d od_e an_e od_f an_f od_g an_g od_h an_h od_i an_i od_j an_j od_k an_k od_l an_l od_m an_m od_n an_n od_o an_o od_p an_p od_q an_q od_r an_r od_s an_s od_t an_t od_u an_u od_v an_v od_w an_w od_x an_x od_y an_y od_z an_z od_A an_A od_B an_B od_C an_C od_D an_D od_E an_E od_F an_F od_G an_G od_H an_H od_I an_I od_J an_J od_K an_K od_L an_L od_M an_M od_N an_N od_O an_O od_P an_P od_Q an_Q od_R an_R od_S an_S od_T an_T od_U an_U od_V an_V od_W an_W od_X an_X od_Y an_Y od_Z an_Z od_a0 an_a0 : Option Addr} {sl_a sl_b sl_c sl_d sl_e sl_f sl_g sl_h sl_i sl_j sl_k sl_l sl_m sl_n sl_o sl_p sl_q sl_r sl_s sl_t sl_u sl_v sl_w sl_x sl_y sl_z sl_A sl_B sl_C sl_D sl_E sl_F sl_G sl_H sl_I sl_J sl_K sl_L sl_M sl_N sl_O sl_P sl_Q sl_R sl_S sl_T sl_U sl_V sl_W sl_X sl_Y sl_Z sl_a0 : Array (Option Value)} {oc_a kV_a dc_a pm_a cd_a ct_a oc_b kV_b dc_b pm_b cd_b ct_b oc_c kV_c dc_c pm_c cd_c ct_c oc_d kV_d dc_d pm_d cd_d ct_d oc_e kV_e dc_e pm_e cd_e ct_e oc_f kV_f dc_f pm_f cd_f ct_f oc_g kV_g dc_g pm_g cd_g ct_g oc_h kV_h dc_h pm_h cd_h ct_h oc_i kV_i dc_i pm_i cd_i ct_i oc_j kV_j dc_j pm_j cd_j ct_j oc_k kV_k dc_k pm_k cd_k ct_k oc_l kV_l dc_l pm_l cd_l ct_l oc_m kV_m dc_m pm_m cd_m ct_m oc_n kV_n dc_n pm_n cd_n ct_n oc_o kV_o dc_o pm_o cd_o ct_o oc_p kV_p dc_p pm_p cd_p ct_p oc_q kV_q dc_q pm_q cd_q ct_q oc_r kV_r dc_r pm_r cd_r ct_r oc_s kV_s dc_s pm_s cd_s ct_s oc_t kV_t dc_t pm_t cd_t ct_t oc_u kV_u dc_u pm_u cd_u ct_u oc_v kV_v dc_v pm_v cd_v ct_v oc_w kV_w dc_w pm_w cd_w ct_w oc_x kV_x dc_x pm_x cd_x ct_x oc_y kV_y dc_y pm_y cd_y ct_y oc_z kV_z dc_z pm_z cd_z ct_z oc_A kV_A dc_A pm_A cd_A ct_A oc_B kV_B dc_B pm_B cd_B ct_B oc_C kV_C dc_C pm_C cd_C ct_C oc_D kV_D dc_D pm_D cd_D ct_D oc_E kV_E dc_E pm_E cd_E ct_E oc_F kV_F dc_F pm_F cd_F ct_F oc_G kV_G dc_G pm_G cd_G ct_G oc_H kV_H dc_H pm_H cd_H ct_H oc_I kV_I dc_I pm_I cd_I ct_I oc_J kV_J dc_J pm_J cd_J ct_J oc_K kV_K dc_K pm_K cd_K ct_K oc_L kV_L dc_L pm_L cd_L ct_L oc_M kV_M dc_M pm_M cd_M ct_M oc_N kV_N dc_N pm_N cd_N ct_N oc_O kV_O dc_O pm_O cd_O ct_O oc_P kV_P dc_P pm_P cd_P ct_P oc_Q kV_Q dc_Q pm_Q cd_Q ct_Q oc_R kV_R dc_R pm_R cd_R ct_R oc_S kV_S dc_S pm_S cd_S ct_S oc_T kV_T dc_T pm_T cd_T ct_T oc_U kV_U dc_U pm_U cd_U ct_U oc_V kV_V dc_V pm_V cd_V ct_V oc_W kV_W dc_W pm_W cd_W ct_W oc_X kV_X dc_X pm_X cd_X ct_X oc_Y kV_Y dc_Y pm_Y cd_Y ct_Y oc_Z kV_Z dc_Z pm_Z cd_Z ct_Z oc_a0 kV_a0 dc_a0 pm_a0 cd_a0 ct_a0 : Value}
    {nmM qnM nme0 qne0 nme1 qne1 nme2 qne2 nme3 qne3 nme4 qne4 nme5 qne5 nme6 qne6 nme7 qne7 nme8 qne8 nme9 qne9 nme10 qne10 nme11 qne11 nme12 qne12 nme13 qne13 nme14 qne14 nme15 qne15 nme16 qne16 nme17 qne17 nme18 qne18 nme19 qne19 nme20 qne20 : Str} {nNM nNe0 nNe1 nNe2 nNe3 nNe4 nNe5 nNe6 nNe7 nNe8 nNe9 nNe10 nNe11 nNe12 nNe13 nNe14 nNe15 nNe16 nNe17 nNe18 nNe19 nNe20 : Addr} {bsM sbM bse0 sbe0 bse1 sbe1 bse2 sbe2 bse3 sbe3 bse4 sbe4 bse5 sbe5 bse6 sbe6 bse7 sbe7 bse8 sbe8 bse9 sbe9 bse10 sbe10 bse11 sbe11 bse12 sbe12 bse13 sbe13 bse14 sbe14 bse15 sbe15 bse16 sbe16 bse17 sbe17 bse18 sbe18 bse19 sbe19 bse20 sbe20 : List Value} {snM sne0 sne1 sne2 sne3 sne4 sne5 sne6 sne7 sne8 sne9 sne10 sne11 sne12 sne13 sne14 sne15 sne16 sne17 sne18 sne19 sne20 : List Str} {abM abe0 abe1 abe2 abe3 abe4 abe5 abe6 abe7 abe8 abe9 abe10 abe11 abe12 abe13 abe14 abe15 abe16 abe17 abe18 abe19 abe20 : Bool} {coM coe0 coe1 coe2 coe3 coe4 coe5 coe6 coe7 coe8 coe9 coe10 coe11 coe12 coe13 coe14 coe15 coe16 coe17 coe18 coe19 coe20 : Option Bool} {ddM dde0 dde1 dde2 dde3 dde4 dde5 dde6 dde7 dde8 dde9 dde10 dde11 dde12 dde13 dde14 dde15 dde16 dde17 dde18 dde19 dde20 : Option Addr} {k0M k1M k2M k3M k5M k0e0 k1e0 k2e0 k3e0 k5e0 k0e1 k1e1 k2e1 k3e1 k5e1 k0e2 k1e2 k2e2 k3e2 k5e2 k0e3 k1e3 k2e3 k3e3 k5e3 k0e4 k1e4 k2e4 k3e4 k5e4 k0e5 k1e5 k2e5 k3e5 k5e5 k0e6 k1e6 k2e6 k3e6 k5e6 k0e7 k1e7 k2e7 k3e7 k5e7 k0e8 k1e8 k2e8 k3e8 k5e8 k0e9 k1e9 k2e9 k3e9 k5e9 k0e10 k1e10 k2e10 k3e10 k5e10 k0e11 k1e11 k2e11 k3e11 k5e11 k0e12 k1e12 k2e12 k3e12 k5e12 k0e13 k1e13 k2e13 k3e13 k5e13 k0e14 k1e14 k2e14 k3e14 k5e14 k0e15 k1e15 k2e15 k3e15 k5e15 k0e16 k1e16 k2e16 k3e16 k5e16 k0e17 k1e17 k2e17 k3e17 k5e17 k0e18 k1e18 k2e18 k3e18 k5e18 k0e19 k1e19 k2e19 k3e19 k5e19 k0e20 k1e20 k2e20 k3e20 k5e20 : Option Value}
    (gM : PySem.W.nsIn K mainGlobals "MeetError" = some (some (.ref CM)))
    (ge0 : PySem.W.nsIn K mainGlobals "NoHouses" = some (some (.ref C_e0)))
    (ge1 : PySem.W.nsIn K mainGlobals "NoHouse" = some (some (.ref C_e1)))
    (ge2 : PySem.W.nsIn K mainGlobals "NoSet" = some (some (.ref C_e2)))
    (ge3 : PySem.W.nsIn K mainGlobals "Twice" = some (some (.ref C_e3)))
    (ge4 : PySem.W.nsIn K mainGlobals "NoLots" = some (some (.ref C_e4)))
    (ge5 : PySem.W.nsIn K mainGlobals "TooMany" = some (some (.ref C_e5)))
    (ge6 : PySem.W.nsIn K mainGlobals "NoPlan" = some (some (.ref C_e6)))
    (ge7 : PySem.W.nsIn K mainGlobals "NoText" = some (some (.ref C_e7)))
    (ge8 : PySem.W.nsIn K mainGlobals "NoShare" = some (some (.ref C_e8)))
    (ge9 : PySem.W.nsIn K mainGlobals "NoNumber" = some (some (.ref C_e9)))
    (ge10 : PySem.W.nsIn K mainGlobals "Apart" = some (some (.ref C_e10)))
    (ge11 : PySem.W.nsIn K mainGlobals "NoChance" = some (some (.ref C_e11)))
    (ge12 : PySem.W.nsIn K mainGlobals "NoDealing" = some (some (.ref C_e12)))
    (ge13 : PySem.W.nsIn K mainGlobals "NoKind" = some (some (.ref C_e13)))
    (ge14 : PySem.W.nsIn K mainGlobals "NoneStands" = some (some (.ref C_e14)))
    (ge15 : PySem.W.nsIn K mainGlobals "Fallen" = some (some (.ref C_e15)))
    (ge16 : PySem.W.nsIn K mainGlobals "Standing" = some (some (.ref C_e16)))
    (ge17 : PySem.W.nsIn K mainGlobals "NoValue" = some (some (.ref C_e17)))
    (ge18 : PySem.W.nsIn K mainGlobals "NoUndo" = some (some (.ref C_e18)))
    (ge19 : PySem.W.nsIn K mainGlobals "NoSystem" = some (some (.ref C_e19)))
    (ge20 : PySem.W.nsIn K mainGlobals "NoLine" = some (some (.ref C_e20)))
    (a_a : PySem.W.findIn K (.ref CM) "__init__" = some (some (.ref f_a))) (i_a : PySem.W.isFn K (.ref f_a) = true)
    (l_a : K.lookup f_a = some ⟨oc_a, od_a, .func (PySem.W.fnOf "__init__" "MeetError.__init__" (defArgs sMeetErrorInit) (defBody sMeetErrorInit) (defScope sMeetErrorInit) .none kV_a dc_a pm_a an_a cd_a ct_a), sl_a⟩) (c_a : PySem.W.codeIn K cd_a "MeetError.__init__" = true) (k_a : PySem.W.keepIn K (.ref f_a) = true)
    (a_b : PySem.W.findIn K (.ref C_e0) "__init__" = some (some (.ref f_b))) (i_b : PySem.W.isFn K (.ref f_b) = true)
    (l_b : K.lookup f_b = some ⟨oc_b, od_b, .func (PySem.W.fnOf "__init__" "NoHouses.__init__" (defArgs sNoHousesInit) (defBody sNoHousesInit) (defScope sNoHousesInit) .none kV_b dc_b pm_b an_b cd_b ct_b), sl_b⟩) (c_b : PySem.W.codeIn K cd_b "NoHouses.__init__" = true) (k_b : PySem.W.keepIn K (.ref f_b) = true)
    (a_c : PySem.W.findIn K (.ref C_e1) "__init__" = some (some (.ref f_c))) (i_c : PySem.W.isFn K (.ref f_c) = true)
    (l_c : K.lookup f_c = some ⟨oc_c, od_c, .func (PySem.W.fnOf "__init__" "NoHouse.__init__" (defArgs sNoHouseInit) (defBody sNoHouseInit) (defScope sNoHouseInit) .none kV_c dc_c pm_c an_c cd_c ct_c), sl_c⟩) (c_c : PySem.W.codeIn K cd_c "NoHouse.__init__" = true) (k_c : PySem.W.keepIn K (.ref f_c) = true)
    (a_d : PySem.W.findIn K (.ref C_e2) "__init__" = some (some (.ref f_d))) (i_d : PySem.W.isFn K (.ref f_d) = true)
    (l_d : K.lookup f_d = some ⟨oc_d, od_d, .func (PySem.W.fnOf "__init__" "NoSet.__init__" (defArgs sNoSetInit) (defBody sNoSetInit) (defScope sNoSetInit) .none kV_d dc_d pm_d an_d cd_d ct_d), sl_d⟩) (c_d : PySem.W.codeIn K cd_d "NoSet.__init__" = true) (k_d : PySem.W.keepIn K (.ref f_d) = true)
    (a_e : PySem.W.findIn K (.ref C_e3) "__init__" = some (some (.ref f_e))) (i_e : PySem.W.isFn K (.ref f_e) = true)
    (l_e : K.lookup f_e = some ⟨oc_e, od_e, .func (PySem.W.fnOf "__init__" "Twice.__init__" (defArgs sTwiceInit) (defBody sTwiceInit) (defScope sTwiceInit) .none kV_e dc_e pm_e an_e cd_e ct_e), sl_e⟩) (c_e : PySem.W.codeIn K cd_e "Twice.__init__" = true) (k_e : PySem.W.keepIn K (.ref f_e) = true)
    (a_f : PySem.W.findIn K (.ref C_e4) "__init__" = some (some (.ref f_f))) (i_f : PySem.W.isFn K (.ref f_f) = true)
    (l_f : K.lookup f_f = some ⟨oc_f, od_f, .func (PySem.W.fnOf "__init__" "NoLots.__init__" (defArgs sNoLotsInit) (defBody sNoLotsInit) (defScope sNoLotsInit) .none kV_f dc_f pm_f an_f cd_f ct_f), sl_f⟩) (c_f : PySem.W.codeIn K cd_f "NoLots.__init__" = true) (k_f : PySem.W.keepIn K (.ref f_f) = true)
    (a_g : PySem.W.findIn K (.ref C_e5) "__init__" = some (some (.ref f_g))) (i_g : PySem.W.isFn K (.ref f_g) = true)
    (l_g : K.lookup f_g = some ⟨oc_g, od_g, .func (PySem.W.fnOf "__init__" "TooMany.__init__" (defArgs sTooManyInit) (defBody sTooManyInit) (defScope sTooManyInit) .none kV_g dc_g pm_g an_g cd_g ct_g), sl_g⟩) (c_g : PySem.W.codeIn K cd_g "TooMany.__init__" = true) (k_g : PySem.W.keepIn K (.ref f_g) = true)
    (a_h : PySem.W.findIn K (.ref C_e6) "__init__" = some (some (.ref f_h))) (i_h : PySem.W.isFn K (.ref f_h) = true)
    (l_h : K.lookup f_h = some ⟨oc_h, od_h, .func (PySem.W.fnOf "__init__" "NoPlan.__init__" (defArgs sNoPlanInit) (defBody sNoPlanInit) (defScope sNoPlanInit) .none kV_h dc_h pm_h an_h cd_h ct_h), sl_h⟩) (c_h : PySem.W.codeIn K cd_h "NoPlan.__init__" = true) (k_h : PySem.W.keepIn K (.ref f_h) = true)
    (a_i : PySem.W.findIn K (.ref C_e7) "__init__" = some (some (.ref f_i))) (i_i : PySem.W.isFn K (.ref f_i) = true)
    (l_i : K.lookup f_i = some ⟨oc_i, od_i, .func (PySem.W.fnOf "__init__" "NoText.__init__" (defArgs sNoTextInit) (defBody sNoTextInit) (defScope sNoTextInit) .none kV_i dc_i pm_i an_i cd_i ct_i), sl_i⟩) (c_i : PySem.W.codeIn K cd_i "NoText.__init__" = true) (k_i : PySem.W.keepIn K (.ref f_i) = true)
    (a_j : PySem.W.findIn K (.ref C_e8) "__init__" = some (some (.ref f_j))) (i_j : PySem.W.isFn K (.ref f_j) = true)
    (l_j : K.lookup f_j = some ⟨oc_j, od_j, .func (PySem.W.fnOf "__init__" "NoShare.__init__" (defArgs sNoShareInit) (defBody sNoShareInit) (defScope sNoShareInit) .none kV_j dc_j pm_j an_j cd_j ct_j), sl_j⟩) (c_j : PySem.W.codeIn K cd_j "NoShare.__init__" = true) (k_j : PySem.W.keepIn K (.ref f_j) = true)
    (a_k : PySem.W.findIn K (.ref C_e9) "__init__" = some (some (.ref f_k))) (i_k : PySem.W.isFn K (.ref f_k) = true)
    (l_k : K.lookup f_k = some ⟨oc_k, od_k, .func (PySem.W.fnOf "__init__" "NoNumber.__init__" (defArgs sNoNumberInit) (defBody sNoNumberInit) (defScope sNoNumberInit) .none kV_k dc_k pm_k an_k cd_k ct_k), sl_k⟩) (c_k : PySem.W.codeIn K cd_k "NoNumber.__init__" = true) (k_k : PySem.W.keepIn K (.ref f_k) = true)
    (a_l : PySem.W.findIn K (.ref C_e10) "__init__" = some (some (.ref f_l))) (i_l : PySem.W.isFn K (.ref f_l) = true)
    (l_l : K.lookup f_l = some ⟨oc_l, od_l, .func (PySem.W.fnOf "__init__" "Apart.__init__" (defArgs sApartInit) (defBody sApartInit) (defScope sApartInit) .none kV_l dc_l pm_l an_l cd_l ct_l), sl_l⟩) (c_l : PySem.W.codeIn K cd_l "Apart.__init__" = true) (k_l : PySem.W.keepIn K (.ref f_l) = true)
    (a_m : PySem.W.findIn K (.ref C_e11) "__init__" = some (some (.ref f_m))) (i_m : PySem.W.isFn K (.ref f_m) = true)
    (l_m : K.lookup f_m = some ⟨oc_m, od_m, .func (PySem.W.fnOf "__init__" "NoChance.__init__" (defArgs sNoChanceInit) (defBody sNoChanceInit) (defScope sNoChanceInit) .none kV_m dc_m pm_m an_m cd_m ct_m), sl_m⟩) (c_m : PySem.W.codeIn K cd_m "NoChance.__init__" = true) (k_m : PySem.W.keepIn K (.ref f_m) = true)
    (a_n : PySem.W.findIn K (.ref C_e12) "__init__" = some (some (.ref f_n))) (i_n : PySem.W.isFn K (.ref f_n) = true)
    (l_n : K.lookup f_n = some ⟨oc_n, od_n, .func (PySem.W.fnOf "__init__" "NoDealing.__init__" (defArgs sNoDealingInit) (defBody sNoDealingInit) (defScope sNoDealingInit) .none kV_n dc_n pm_n an_n cd_n ct_n), sl_n⟩) (c_n : PySem.W.codeIn K cd_n "NoDealing.__init__" = true) (k_n : PySem.W.keepIn K (.ref f_n) = true)
    (a_o : PySem.W.findIn K (.ref C_e13) "__init__" = some (some (.ref f_o))) (i_o : PySem.W.isFn K (.ref f_o) = true)
    (l_o : K.lookup f_o = some ⟨oc_o, od_o, .func (PySem.W.fnOf "__init__" "NoKind.__init__" (defArgs sNoKindInit) (defBody sNoKindInit) (defScope sNoKindInit) .none kV_o dc_o pm_o an_o cd_o ct_o), sl_o⟩) (c_o : PySem.W.codeIn K cd_o "NoKind.__init__" = true) (k_o : PySem.W.keepIn K (.ref f_o) = true)
    (a_p : PySem.W.findIn K (.ref C_e14) "__init__" = some (some (.ref f_p))) (i_p : PySem.W.isFn K (.ref f_p) = true)
    (l_p : K.lookup f_p = some ⟨oc_p, od_p, .func (PySem.W.fnOf "__init__" "NoneStands.__init__" (defArgs sNoneStandsInit) (defBody sNoneStandsInit) (defScope sNoneStandsInit) .none kV_p dc_p pm_p an_p cd_p ct_p), sl_p⟩) (c_p : PySem.W.codeIn K cd_p "NoneStands.__init__" = true) (k_p : PySem.W.keepIn K (.ref f_p) = true)
    (a_q : PySem.W.findIn K (.ref C_e15) "__init__" = some (some (.ref f_q))) (i_q : PySem.W.isFn K (.ref f_q) = true)
    (l_q : K.lookup f_q = some ⟨oc_q, od_q, .func (PySem.W.fnOf "__init__" "Fallen.__init__" (defArgs sFallenInit) (defBody sFallenInit) (defScope sFallenInit) .none kV_q dc_q pm_q an_q cd_q ct_q), sl_q⟩) (c_q : PySem.W.codeIn K cd_q "Fallen.__init__" = true) (k_q : PySem.W.keepIn K (.ref f_q) = true)
    (a_r : PySem.W.findIn K (.ref C_e16) "__init__" = some (some (.ref f_r))) (i_r : PySem.W.isFn K (.ref f_r) = true)
    (l_r : K.lookup f_r = some ⟨oc_r, od_r, .func (PySem.W.fnOf "__init__" "Standing.__init__" (defArgs sStandingInit) (defBody sStandingInit) (defScope sStandingInit) .none kV_r dc_r pm_r an_r cd_r ct_r), sl_r⟩) (c_r : PySem.W.codeIn K cd_r "Standing.__init__" = true) (k_r : PySem.W.keepIn K (.ref f_r) = true)
    (a_s : PySem.W.findIn K (.ref C_e17) "__init__" = some (some (.ref f_s))) (i_s : PySem.W.isFn K (.ref f_s) = true)
    (l_s : K.lookup f_s = some ⟨oc_s, od_s, .func (PySem.W.fnOf "__init__" "NoValue.__init__" (defArgs sNoValueInit) (defBody sNoValueInit) (defScope sNoValueInit) .none kV_s dc_s pm_s an_s cd_s ct_s), sl_s⟩) (c_s : PySem.W.codeIn K cd_s "NoValue.__init__" = true) (k_s : PySem.W.keepIn K (.ref f_s) = true)
    (a_t : PySem.W.findIn K (.ref C_e18) "__init__" = some (some (.ref f_t))) (i_t : PySem.W.isFn K (.ref f_t) = true)
    (l_t : K.lookup f_t = some ⟨oc_t, od_t, .func (PySem.W.fnOf "__init__" "NoUndo.__init__" (defArgs sNoUndoInit) (defBody sNoUndoInit) (defScope sNoUndoInit) .none kV_t dc_t pm_t an_t cd_t ct_t), sl_t⟩) (c_t : PySem.W.codeIn K cd_t "NoUndo.__init__" = true) (k_t : PySem.W.keepIn K (.ref f_t) = true)
    (a_u : PySem.W.findIn K (.ref C_e19) "__init__" = some (some (.ref f_u))) (i_u : PySem.W.isFn K (.ref f_u) = true)
    (l_u : K.lookup f_u = some ⟨oc_u, od_u, .func (PySem.W.fnOf "__init__" "NoSystem.__init__" (defArgs sNoSystemInit) (defBody sNoSystemInit) (defScope sNoSystemInit) .none kV_u dc_u pm_u an_u cd_u ct_u), sl_u⟩) (c_u : PySem.W.codeIn K cd_u "NoSystem.__init__" = true) (k_u : PySem.W.keepIn K (.ref f_u) = true)
    (a_v : PySem.W.findIn K (.ref C_e20) "__init__" = some (some (.ref f_v))) (i_v : PySem.W.isFn K (.ref f_v) = true)
    (l_v : K.lookup f_v = some ⟨oc_v, od_v, .func (PySem.W.fnOf "__init__" "NoLine.__init__" (defArgs sNoLineInit) (defBody sNoLineInit) (defScope sNoLineInit) .none kV_v dc_v pm_v an_v cd_v ct_v), sl_v⟩) (c_v : PySem.W.codeIn K cd_v "NoLine.__init__" = true) (k_v : PySem.W.keepIn K (.ref f_v) = true)
    (a_w : PySem.W.nsIn K mainGlobals "is_whole" = some (some (.ref f_w)))
    (l_w : K.lookup f_w = some ⟨oc_w, od_w, .func (PySem.W.fnOf "is_whole" "is_whole" (defArgs sWhole) (defBody sWhole) (defScope sWhole) .none kV_w dc_w pm_w an_w cd_w ct_w), sl_w⟩) (c_w : PySem.W.codeIn K cd_w "is_whole" = true) (k_w : PySem.W.keepIn K (.ref f_w) = true)
    (a_x : PySem.W.nsIn K mainGlobals "common" = some (some (.ref f_x)))
    (l_x : K.lookup f_x = some ⟨oc_x, od_x, .func (PySem.W.fnOf "common" "common" (defArgs sCommon) (defBody sCommon) (defScope sCommon) .none kV_x dc_x pm_x an_x cd_x ct_x), sl_x⟩) (c_x : PySem.W.codeIn K cd_x "common" = true) (k_x : PySem.W.keepIn K (.ref f_x) = true)
    (a_y : PySem.W.nsIn K mainGlobals "make_a_share" = some (some (.ref f_y)))
    (l_y : K.lookup f_y = some ⟨oc_y, od_y, .func (PySem.W.fnOf "make_a_share" "make_a_share" (defArgs sMakeA) (defBody sMakeA) (defScope sMakeA) .none kV_y dc_y pm_y an_y cd_y ct_y), sl_y⟩) (c_y : PySem.W.codeIn K cd_y "make_a_share" = true) (k_y : PySem.W.keepIn K (.ref f_y) = true)
    (a_z : PySem.W.nsIn K mainGlobals "is_share" = some (some (.ref f_z)))
    (l_z : K.lookup f_z = some ⟨oc_z, od_z, .func (PySem.W.fnOf "is_share" "is_share" (defArgs sIsShare) (defBody sIsShare) (defScope sIsShare) .none kV_z dc_z pm_z an_z cd_z ct_z), sl_z⟩) (c_z : PySem.W.codeIn K cd_z "is_share" = true) (k_z : PySem.W.keepIn K (.ref f_z) = true)
    (a_A : PySem.W.nsIn K mainGlobals "share_of" = some (some (.ref f_A)))
    (l_A : K.lookup f_A = some ⟨oc_A, od_A, .func (PySem.W.fnOf "share_of" "share_of" (defArgs sShareOf) (defBody sShareOf) (defScope sShareOf) .none kV_A dc_A pm_A an_A cd_A ct_A), sl_A⟩) (c_A : PySem.W.codeIn K cd_A "share_of" = true) (k_A : PySem.W.keepIn K (.ref f_A) = true)
    (a_B : PySem.W.nsIn K mainGlobals "check_shares" = some (some (.ref f_B)))
    (l_B : K.lookup f_B = some ⟨oc_B, od_B, .func (PySem.W.fnOf "check_shares" "check_shares" (defArgs sCheckS) (defBody sCheckS) (defScope sCheckS) .none kV_B dc_B pm_B an_B cd_B ct_B), sl_B⟩) (c_B : PySem.W.codeIn K cd_B "check_shares" = true) (k_B : PySem.W.keepIn K (.ref f_B) = true)
    (a_C : PySem.W.nsIn K mainGlobals "plus_share" = some (some (.ref f_C)))
    (l_C : K.lookup f_C = some ⟨oc_C, od_C, .func (PySem.W.fnOf "plus_share" "plus_share" (defArgs sPlus) (defBody sPlus) (defScope sPlus) .none kV_C dc_C pm_C an_C cd_C ct_C), sl_C⟩) (c_C : PySem.W.codeIn K cd_C "plus_share" = true) (k_C : PySem.W.keepIn K (.ref f_C) = true)
    (a_D : PySem.W.nsIn K mainGlobals "minus_share" = some (some (.ref f_D)))
    (l_D : K.lookup f_D = some ⟨oc_D, od_D, .func (PySem.W.fnOf "minus_share" "minus_share" (defArgs sMinus) (defBody sMinus) (defScope sMinus) .none kV_D dc_D pm_D an_D cd_D ct_D), sl_D⟩) (c_D : PySem.W.codeIn K cd_D "minus_share" = true) (k_D : PySem.W.keepIn K (.ref f_D) = true)
    (a_E : PySem.W.nsIn K mainGlobals "times_share" = some (some (.ref f_E)))
    (l_E : K.lookup f_E = some ⟨oc_E, od_E, .func (PySem.W.fnOf "times_share" "times_share" (defArgs sTimes) (defBody sTimes) (defScope sTimes) .none kV_E dc_E pm_E an_E cd_E ct_E), sl_E⟩) (c_E : PySem.W.codeIn K cd_E "times_share" = true) (k_E : PySem.W.keepIn K (.ref f_E) = true)
    (a_F : PySem.W.nsIn K mainGlobals "less_than" = some (some (.ref f_F)))
    (l_F : K.lookup f_F = some ⟨oc_F, od_F, .func (PySem.W.fnOf "less_than" "less_than" (defArgs sLess) (defBody sLess) (defScope sLess) .none kV_F dc_F pm_F an_F cd_F ct_F), sl_F⟩) (c_F : PySem.W.codeIn K cd_F "less_than" = true) (k_F : PySem.W.keepIn K (.ref f_F) = true)
    (a_G : PySem.W.nsIn K mainGlobals "sum_shares" = some (some (.ref f_G)))
    (l_G : K.lookup f_G = some ⟨oc_G, od_G, .func (PySem.W.fnOf "sum_shares" "sum_shares" (defArgs sSumS) (defBody sSumS) (defScope sSumS) .none kV_G dc_G pm_G an_G cd_G ct_G), sl_G⟩) (c_G : PySem.W.codeIn K cd_G "sum_shares" = true) (k_G : PySem.W.keepIn K (.ref f_G) = true)
    (a_H : PySem.W.nsIn K mainGlobals "share_text" = some (some (.ref f_H)))
    (l_H : K.lookup f_H = some ⟨oc_H, od_H, .func (PySem.W.fnOf "share_text" "share_text" (defArgs sShareText) (defBody sShareText) (defScope sShareText) .none kV_H dc_H pm_H an_H cd_H ct_H), sl_H⟩) (c_H : PySem.W.codeIn K cd_H "share_text" = true) (k_H : PySem.W.keepIn K (.ref f_H) = true)
    (a_I : PySem.W.nsIn K mainGlobals "_law_box" = some (some (.ref f_I)))
    (l_I : K.lookup f_I = some ⟨oc_I, od_I, .func (PySem.W.fnOf "_law_box" "_law_box" (defArgs sBox) (defBody sBox) (defScope sBox) .none kV_I dc_I pm_I an_I cd_I ct_I), sl_I⟩) (c_I : PySem.W.codeIn K cd_I "_law_box" = true) (k_I : PySem.W.keepIn K (.ref f_I) = true)
    (a_J : PySem.W.nsIn K mainGlobals "_law_take" = some (some (.ref f_J)))
    (l_J : K.lookup f_J = some ⟨oc_J, od_J, .func (PySem.W.fnOf "_law_take" "_law_take" (defArgs sTake) (defBody sTake) (defScope sTake) .none kV_J dc_J pm_J an_J cd_J ct_J), sl_J⟩) (c_J : PySem.W.codeIn K cd_J "_law_take" = true) (k_J : PySem.W.keepIn K (.ref f_J) = true)
    (a_K : PySem.W.nsIn K mainGlobals "_law_common" = some (some (.ref f_K)))
    (l_K : K.lookup f_K = some ⟨oc_K, od_K, .func (PySem.W.fnOf "_law_common" "_law_common" (defArgs s_law_common) (defBody s_law_common) (defScope s_law_common) .none kV_K dc_K pm_K an_K cd_K ct_K), sl_K⟩) (c_K : PySem.W.codeIn K cd_K "_law_common" = true) (k_K : PySem.W.keepIn K (.ref f_K) = true)
    (a_L : PySem.W.nsIn K mainGlobals "_law_part" = some (some (.ref f_L)))
    (l_L : K.lookup f_L = some ⟨oc_L, od_L, .func (PySem.W.fnOf "_law_part" "_law_part" (defArgs s_law_part) (defBody s_law_part) (defScope s_law_part) .none kV_L dc_L pm_L an_L cd_L ct_L), sl_L⟩) (c_L : PySem.W.codeIn K cd_L "_law_part" = true) (k_L : PySem.W.keepIn K (.ref f_L) = true)
    (a_M : PySem.W.nsIn K mainGlobals "_law_share" = some (some (.ref f_M)))
    (l_M : K.lookup f_M = some ⟨oc_M, od_M, .func (PySem.W.fnOf "_law_share" "_law_share" (defArgs s_law_share) (defBody s_law_share) (defScope s_law_share) .none kV_M dc_M pm_M an_M cd_M ct_M), sl_M⟩) (c_M : PySem.W.codeIn K cd_M "_law_share" = true) (k_M : PySem.W.keepIn K (.ref f_M) = true)
    (a_N : PySem.W.nsIn K mainGlobals "_law_first_ones" = some (some (.ref f_N)))
    (l_N : K.lookup f_N = some ⟨oc_N, od_N, .func (PySem.W.fnOf "_law_first_ones" "_law_first_ones" (defArgs s_law_first_ones) (defBody s_law_first_ones) (defScope s_law_first_ones) .none kV_N dc_N pm_N an_N cd_N ct_N), sl_N⟩) (c_N : PySem.W.codeIn K cd_N "_law_first_ones" = true) (k_N : PySem.W.keepIn K (.ref f_N) = true)
    (a_O : PySem.W.nsIn K mainGlobals "_law_other_ones" = some (some (.ref f_O)))
    (l_O : K.lookup f_O = some ⟨oc_O, od_O, .func (PySem.W.fnOf "_law_other_ones" "_law_other_ones" (defArgs s_law_other_ones) (defBody s_law_other_ones) (defScope s_law_other_ones) .none kV_O dc_O pm_O an_O cd_O ct_O), sl_O⟩) (c_O : PySem.W.codeIn K cd_O "_law_other_ones" = true) (k_O : PySem.W.keepIn K (.ref f_O) = true)
    (a_P : PySem.W.nsIn K mainGlobals "_law_error" = some (some (.ref f_P)))
    (l_P : K.lookup f_P = some ⟨oc_P, od_P, .func (PySem.W.fnOf "_law_error" "_law_error" (defArgs s_law_error) (defBody s_law_error) (defScope s_law_error) .none kV_P dc_P pm_P an_P cd_P ct_P), sl_P⟩) (c_P : PySem.W.codeIn K cd_P "_law_error" = true) (k_P : PySem.W.keepIn K (.ref f_P) = true)
    (a_Q : PySem.W.nsIn K mainGlobals "_law_kinds" = some (some (.ref f_Q)))
    (l_Q : K.lookup f_Q = some ⟨oc_Q, od_Q, .func (PySem.W.fnOf "_law_kinds" "_law_kinds" (defArgs s_law_kinds) (defBody s_law_kinds) (defScope s_law_kinds) .none kV_Q dc_Q pm_Q an_Q cd_Q ct_Q), sl_Q⟩) (c_Q : PySem.W.codeIn K cd_Q "_law_kinds" = true) (k_Q : PySem.W.keepIn K (.ref f_Q) = true)
    (a_R : PySem.W.nsIn K mainGlobals "_law_fields" = some (some (.ref f_R)))
    (l_R : K.lookup f_R = some ⟨oc_R, od_R, .func (PySem.W.fnOf "_law_fields" "_law_fields" (defArgs s_law_fields) (defBody s_law_fields) (defScope s_law_fields) .none kV_R dc_R pm_R an_R cd_R ct_R), sl_R⟩) (c_R : PySem.W.codeIn K cd_R "_law_fields" = true) (k_R : PySem.W.keepIn K (.ref f_R) = true)
    (a_S : PySem.W.nsIn K mainGlobals "_law_things" = some (some (.ref f_S)))
    (l_S : K.lookup f_S = some ⟨oc_S, od_S, .func (PySem.W.fnOf "_law_things" "_law_things" (defArgs s_law_things) (defBody s_law_things) (defScope s_law_things) .none kV_S dc_S pm_S an_S cd_S ct_S), sl_S⟩) (c_S : PySem.W.codeIn K cd_S "_law_things" = true) (k_S : PySem.W.keepIn K (.ref f_S) = true)
    (a_T : PySem.W.nsIn K mainGlobals "_law_made_right" = some (some (.ref f_T)))
    (l_T : K.lookup f_T = some ⟨oc_T, od_T, .func (PySem.W.fnOf "_law_made_right" "_law_made_right" (defArgs s_law_made_right) (defBody s_law_made_right) (defScope s_law_made_right) .none kV_T dc_T pm_T an_T cd_T ct_T), sl_T⟩) (c_T : PySem.W.codeIn K cd_T "_law_made_right" = true) (k_T : PySem.W.keepIn K (.ref f_T) = true)
    (a_U : PySem.W.nsIn K mainGlobals "_law_kept_right" = some (some (.ref f_U)))
    (l_U : K.lookup f_U = some ⟨oc_U, od_U, .func (PySem.W.fnOf "_law_kept_right" "_law_kept_right" (defArgs s_law_kept_right) (defBody s_law_kept_right) (defScope s_law_kept_right) .none kV_U dc_U pm_U an_U cd_U ct_U), sl_U⟩) (c_U : PySem.W.codeIn K cd_U "_law_kept_right" = true) (k_U : PySem.W.keepIn K (.ref f_U) = true)
    (a_V : PySem.W.nsIn K mainGlobals "_law_told" = some (some (.ref f_V)))
    (l_V : K.lookup f_V = some ⟨oc_V, od_V, .func (PySem.W.fnOf "_law_told" "_law_told" (defArgs s_law_told) (defBody s_law_told) (defScope s_law_told) .none kV_V dc_V pm_V an_V cd_V ct_V), sl_V⟩) (c_V : PySem.W.codeIn K cd_V "_law_told" = true) (k_V : PySem.W.keepIn K (.ref f_V) = true)
    (a_W : PySem.W.nsIn K mainGlobals "_law_is_share" = some (some (.ref f_W)))
    (l_W : K.lookup f_W = some ⟨oc_W, od_W, .func (PySem.W.fnOf "_law_is_share" "_law_is_share" (defArgs s_law_is_share) (defBody s_law_is_share) (defScope s_law_is_share) .none kV_W dc_W pm_W an_W cd_W ct_W), sl_W⟩) (c_W : PySem.W.codeIn K cd_W "_law_is_share" = true) (k_W : PySem.W.keepIn K (.ref f_W) = true)
    (a_X : PySem.W.nsIn K mainGlobals "_law_odd" = some (some (.ref f_X)))
    (l_X : K.lookup f_X = some ⟨oc_X, od_X, .func (PySem.W.fnOf "_law_odd" "_law_odd" (defArgs s_law_odd) (defBody s_law_odd) (defScope s_law_odd) .none kV_X dc_X pm_X an_X cd_X ct_X), sl_X⟩) (c_X : PySem.W.codeIn K cd_X "_law_odd" = true) (k_X : PySem.W.keepIn K (.ref f_X) = true)
    (a_Y : PySem.W.nsIn K mainGlobals "_law_doors_right" = some (some (.ref f_Y)))
    (l_Y : K.lookup f_Y = some ⟨oc_Y, od_Y, .func (PySem.W.fnOf "_law_doors_right" "_law_doors_right" (defArgs s_law_doors_right) (defBody s_law_doors_right) (defScope s_law_doors_right) .none kV_Y dc_Y pm_Y an_Y cd_Y ct_Y), sl_Y⟩) (c_Y : PySem.W.codeIn K cd_Y "_law_doors_right" = true) (k_Y : PySem.W.keepIn K (.ref f_Y) = true)
    (a_Z : PySem.W.nsIn K mainGlobals "_law_case" = some (some (.ref f_Z)))
    (l_Z : K.lookup f_Z = some ⟨oc_Z, od_Z, .func (PySem.W.fnOf "_law_case" "_law_case" (defArgs s_law_case) (defBody s_law_case) (defScope s_law_case) .none kV_Z dc_Z pm_Z an_Z cd_Z ct_Z), sl_Z⟩) (c_Z : PySem.W.codeIn K cd_Z "_law_case" = true) (k_Z : PySem.W.keepIn K (.ref f_Z) = true)
    (a_a0 : PySem.W.nsIn K mainGlobals "law" = some (some (.ref f_a0)))
    (l_a0 : K.lookup f_a0 = some ⟨oc_a0, od_a0, .func (PySem.W.fnOf "law" "law" (defArgs sLaw) (defBody sLaw) (defScope sLaw) .none kV_a0 dc_a0 pm_a0 an_a0 cd_a0 ct_a0), sl_a0⟩) (c_a0 : PySem.W.codeIn K cd_a0 "law" = true) (k_a0 : PySem.W.keepIn K (.ref f_a0) = true)
    (oM : K.lookup CM = some (excClassObj nmM qnM CM nNM bsM bmV true snM sbM abM coM ddM k0M k1M k2M k3M k5M "ValueError.__new__")) (kcM : PySem.W.keepIn K (.ref CM) = true) (saM : PySem.W.findIn K (.ref CM) "__setattr__" = some (some (.builtin "object.__setattr__"))) (gaM : PySem.W.findIn K (.ref CM) "__getattribute__" = some (some (.builtin "BaseException.__getattribute__"))) (ghM : PySem.W.findIn K (.ref CM) "__getattr__" = some none)
    (oe0 : K.lookup C_e0 = some (excClassObj nme0 qne0 C_e0 nNe0 bse0 (.ref CM :: bmV) true sne0 sbe0 abe0 coe0 dde0 k0e0 k1e0 k2e0 k3e0 k5e0 "ValueError.__new__")) (kce0 : PySem.W.keepIn K (.ref C_e0) = true) (sae0 : PySem.W.findIn K (.ref C_e0) "__setattr__" = some (some (.builtin "object.__setattr__"))) (gae0 : PySem.W.findIn K (.ref C_e0) "__getattribute__" = some (some (.builtin "BaseException.__getattribute__"))) (ghe0 : PySem.W.findIn K (.ref C_e0) "__getattr__" = some none)
    (oe1 : K.lookup C_e1 = some (excClassObj nme1 qne1 C_e1 nNe1 bse1 (.ref CM :: bmV) true sne1 sbe1 abe1 coe1 dde1 k0e1 k1e1 k2e1 k3e1 k5e1 "ValueError.__new__")) (kce1 : PySem.W.keepIn K (.ref C_e1) = true) (sae1 : PySem.W.findIn K (.ref C_e1) "__setattr__" = some (some (.builtin "object.__setattr__"))) (gae1 : PySem.W.findIn K (.ref C_e1) "__getattribute__" = some (some (.builtin "BaseException.__getattribute__"))) (ghe1 : PySem.W.findIn K (.ref C_e1) "__getattr__" = some none)
    (oe2 : K.lookup C_e2 = some (excClassObj nme2 qne2 C_e2 nNe2 bse2 (.ref CM :: bmV) true sne2 sbe2 abe2 coe2 dde2 k0e2 k1e2 k2e2 k3e2 k5e2 "ValueError.__new__")) (kce2 : PySem.W.keepIn K (.ref C_e2) = true) (sae2 : PySem.W.findIn K (.ref C_e2) "__setattr__" = some (some (.builtin "object.__setattr__"))) (gae2 : PySem.W.findIn K (.ref C_e2) "__getattribute__" = some (some (.builtin "BaseException.__getattribute__"))) (ghe2 : PySem.W.findIn K (.ref C_e2) "__getattr__" = some none)
    (oe3 : K.lookup C_e3 = some (excClassObj nme3 qne3 C_e3 nNe3 bse3 (.ref CM :: bmV) true sne3 sbe3 abe3 coe3 dde3 k0e3 k1e3 k2e3 k3e3 k5e3 "ValueError.__new__")) (kce3 : PySem.W.keepIn K (.ref C_e3) = true) (sae3 : PySem.W.findIn K (.ref C_e3) "__setattr__" = some (some (.builtin "object.__setattr__"))) (gae3 : PySem.W.findIn K (.ref C_e3) "__getattribute__" = some (some (.builtin "BaseException.__getattribute__"))) (ghe3 : PySem.W.findIn K (.ref C_e3) "__getattr__" = some none)
    (oe4 : K.lookup C_e4 = some (excClassObj nme4 qne4 C_e4 nNe4 bse4 (.ref CM :: bmV) true sne4 sbe4 abe4 coe4 dde4 k0e4 k1e4 k2e4 k3e4 k5e4 "ValueError.__new__")) (kce4 : PySem.W.keepIn K (.ref C_e4) = true) (sae4 : PySem.W.findIn K (.ref C_e4) "__setattr__" = some (some (.builtin "object.__setattr__"))) (gae4 : PySem.W.findIn K (.ref C_e4) "__getattribute__" = some (some (.builtin "BaseException.__getattribute__"))) (ghe4 : PySem.W.findIn K (.ref C_e4) "__getattr__" = some none)
    (oe5 : K.lookup C_e5 = some (excClassObj nme5 qne5 C_e5 nNe5 bse5 (.ref CM :: bmV) true sne5 sbe5 abe5 coe5 dde5 k0e5 k1e5 k2e5 k3e5 k5e5 "ValueError.__new__")) (kce5 : PySem.W.keepIn K (.ref C_e5) = true) (sae5 : PySem.W.findIn K (.ref C_e5) "__setattr__" = some (some (.builtin "object.__setattr__"))) (gae5 : PySem.W.findIn K (.ref C_e5) "__getattribute__" = some (some (.builtin "BaseException.__getattribute__"))) (ghe5 : PySem.W.findIn K (.ref C_e5) "__getattr__" = some none)
    (oe6 : K.lookup C_e6 = some (excClassObj nme6 qne6 C_e6 nNe6 bse6 (.ref CM :: bmV) true sne6 sbe6 abe6 coe6 dde6 k0e6 k1e6 k2e6 k3e6 k5e6 "ValueError.__new__")) (kce6 : PySem.W.keepIn K (.ref C_e6) = true) (sae6 : PySem.W.findIn K (.ref C_e6) "__setattr__" = some (some (.builtin "object.__setattr__"))) (gae6 : PySem.W.findIn K (.ref C_e6) "__getattribute__" = some (some (.builtin "BaseException.__getattribute__"))) (ghe6 : PySem.W.findIn K (.ref C_e6) "__getattr__" = some none)
    (oe7 : K.lookup C_e7 = some (excClassObj nme7 qne7 C_e7 nNe7 bse7 (.ref CM :: bmV) true sne7 sbe7 abe7 coe7 dde7 k0e7 k1e7 k2e7 k3e7 k5e7 "ValueError.__new__")) (kce7 : PySem.W.keepIn K (.ref C_e7) = true) (sae7 : PySem.W.findIn K (.ref C_e7) "__setattr__" = some (some (.builtin "object.__setattr__"))) (gae7 : PySem.W.findIn K (.ref C_e7) "__getattribute__" = some (some (.builtin "BaseException.__getattribute__"))) (ghe7 : PySem.W.findIn K (.ref C_e7) "__getattr__" = some none)
    (oe8 : K.lookup C_e8 = some (excClassObj nme8 qne8 C_e8 nNe8 bse8 (.ref CM :: bmV) true sne8 sbe8 abe8 coe8 dde8 k0e8 k1e8 k2e8 k3e8 k5e8 "ValueError.__new__")) (kce8 : PySem.W.keepIn K (.ref C_e8) = true) (sae8 : PySem.W.findIn K (.ref C_e8) "__setattr__" = some (some (.builtin "object.__setattr__"))) (gae8 : PySem.W.findIn K (.ref C_e8) "__getattribute__" = some (some (.builtin "BaseException.__getattribute__"))) (ghe8 : PySem.W.findIn K (.ref C_e8) "__getattr__" = some none)
    (oe9 : K.lookup C_e9 = some (excClassObj nme9 qne9 C_e9 nNe9 bse9 (.ref CM :: bmV) true sne9 sbe9 abe9 coe9 dde9 k0e9 k1e9 k2e9 k3e9 k5e9 "ValueError.__new__")) (kce9 : PySem.W.keepIn K (.ref C_e9) = true) (sae9 : PySem.W.findIn K (.ref C_e9) "__setattr__" = some (some (.builtin "object.__setattr__"))) (gae9 : PySem.W.findIn K (.ref C_e9) "__getattribute__" = some (some (.builtin "BaseException.__getattribute__"))) (ghe9 : PySem.W.findIn K (.ref C_e9) "__getattr__" = some none)
    (oe10 : K.lookup C_e10 = some (excClassObj nme10 qne10 C_e10 nNe10 bse10 (.ref CM :: bmV) true sne10 sbe10 abe10 coe10 dde10 k0e10 k1e10 k2e10 k3e10 k5e10 "ValueError.__new__")) (kce10 : PySem.W.keepIn K (.ref C_e10) = true) (sae10 : PySem.W.findIn K (.ref C_e10) "__setattr__" = some (some (.builtin "object.__setattr__"))) (gae10 : PySem.W.findIn K (.ref C_e10) "__getattribute__" = some (some (.builtin "BaseException.__getattribute__"))) (ghe10 : PySem.W.findIn K (.ref C_e10) "__getattr__" = some none)
    (oe11 : K.lookup C_e11 = some (excClassObj nme11 qne11 C_e11 nNe11 bse11 (.ref CM :: bmV) true sne11 sbe11 abe11 coe11 dde11 k0e11 k1e11 k2e11 k3e11 k5e11 "ValueError.__new__")) (kce11 : PySem.W.keepIn K (.ref C_e11) = true) (sae11 : PySem.W.findIn K (.ref C_e11) "__setattr__" = some (some (.builtin "object.__setattr__"))) (gae11 : PySem.W.findIn K (.ref C_e11) "__getattribute__" = some (some (.builtin "BaseException.__getattribute__"))) (ghe11 : PySem.W.findIn K (.ref C_e11) "__getattr__" = some none)
    (oe12 : K.lookup C_e12 = some (excClassObj nme12 qne12 C_e12 nNe12 bse12 (.ref CM :: bmV) true sne12 sbe12 abe12 coe12 dde12 k0e12 k1e12 k2e12 k3e12 k5e12 "ValueError.__new__")) (kce12 : PySem.W.keepIn K (.ref C_e12) = true) (sae12 : PySem.W.findIn K (.ref C_e12) "__setattr__" = some (some (.builtin "object.__setattr__"))) (gae12 : PySem.W.findIn K (.ref C_e12) "__getattribute__" = some (some (.builtin "BaseException.__getattribute__"))) (ghe12 : PySem.W.findIn K (.ref C_e12) "__getattr__" = some none)
    (oe13 : K.lookup C_e13 = some (excClassObj nme13 qne13 C_e13 nNe13 bse13 (.ref CM :: bmV) true sne13 sbe13 abe13 coe13 dde13 k0e13 k1e13 k2e13 k3e13 k5e13 "ValueError.__new__")) (kce13 : PySem.W.keepIn K (.ref C_e13) = true) (sae13 : PySem.W.findIn K (.ref C_e13) "__setattr__" = some (some (.builtin "object.__setattr__"))) (gae13 : PySem.W.findIn K (.ref C_e13) "__getattribute__" = some (some (.builtin "BaseException.__getattribute__"))) (ghe13 : PySem.W.findIn K (.ref C_e13) "__getattr__" = some none)
    (oe14 : K.lookup C_e14 = some (excClassObj nme14 qne14 C_e14 nNe14 bse14 (.ref CM :: bmV) true sne14 sbe14 abe14 coe14 dde14 k0e14 k1e14 k2e14 k3e14 k5e14 "ValueError.__new__")) (kce14 : PySem.W.keepIn K (.ref C_e14) = true) (sae14 : PySem.W.findIn K (.ref C_e14) "__setattr__" = some (some (.builtin "object.__setattr__"))) (gae14 : PySem.W.findIn K (.ref C_e14) "__getattribute__" = some (some (.builtin "BaseException.__getattribute__"))) (ghe14 : PySem.W.findIn K (.ref C_e14) "__getattr__" = some none)
    (oe15 : K.lookup C_e15 = some (excClassObj nme15 qne15 C_e15 nNe15 bse15 (.ref CM :: bmV) true sne15 sbe15 abe15 coe15 dde15 k0e15 k1e15 k2e15 k3e15 k5e15 "ValueError.__new__")) (kce15 : PySem.W.keepIn K (.ref C_e15) = true) (sae15 : PySem.W.findIn K (.ref C_e15) "__setattr__" = some (some (.builtin "object.__setattr__"))) (gae15 : PySem.W.findIn K (.ref C_e15) "__getattribute__" = some (some (.builtin "BaseException.__getattribute__"))) (ghe15 : PySem.W.findIn K (.ref C_e15) "__getattr__" = some none)
    (oe16 : K.lookup C_e16 = some (excClassObj nme16 qne16 C_e16 nNe16 bse16 (.ref CM :: bmV) true sne16 sbe16 abe16 coe16 dde16 k0e16 k1e16 k2e16 k3e16 k5e16 "ValueError.__new__")) (kce16 : PySem.W.keepIn K (.ref C_e16) = true) (sae16 : PySem.W.findIn K (.ref C_e16) "__setattr__" = some (some (.builtin "object.__setattr__"))) (gae16 : PySem.W.findIn K (.ref C_e16) "__getattribute__" = some (some (.builtin "BaseException.__getattribute__"))) (ghe16 : PySem.W.findIn K (.ref C_e16) "__getattr__" = some none)
    (oe17 : K.lookup C_e17 = some (excClassObj nme17 qne17 C_e17 nNe17 bse17 (.ref CM :: bmV) true sne17 sbe17 abe17 coe17 dde17 k0e17 k1e17 k2e17 k3e17 k5e17 "ValueError.__new__")) (kce17 : PySem.W.keepIn K (.ref C_e17) = true) (sae17 : PySem.W.findIn K (.ref C_e17) "__setattr__" = some (some (.builtin "object.__setattr__"))) (gae17 : PySem.W.findIn K (.ref C_e17) "__getattribute__" = some (some (.builtin "BaseException.__getattribute__"))) (ghe17 : PySem.W.findIn K (.ref C_e17) "__getattr__" = some none)
    (oe18 : K.lookup C_e18 = some (excClassObj nme18 qne18 C_e18 nNe18 bse18 (.ref CM :: bmV) true sne18 sbe18 abe18 coe18 dde18 k0e18 k1e18 k2e18 k3e18 k5e18 "ValueError.__new__")) (kce18 : PySem.W.keepIn K (.ref C_e18) = true) (sae18 : PySem.W.findIn K (.ref C_e18) "__setattr__" = some (some (.builtin "object.__setattr__"))) (gae18 : PySem.W.findIn K (.ref C_e18) "__getattribute__" = some (some (.builtin "BaseException.__getattribute__"))) (ghe18 : PySem.W.findIn K (.ref C_e18) "__getattr__" = some none)
    (oe19 : K.lookup C_e19 = some (excClassObj nme19 qne19 C_e19 nNe19 bse19 (.ref CM :: bmV) true sne19 sbe19 abe19 coe19 dde19 k0e19 k1e19 k2e19 k3e19 k5e19 "ValueError.__new__")) (kce19 : PySem.W.keepIn K (.ref C_e19) = true) (sae19 : PySem.W.findIn K (.ref C_e19) "__setattr__" = some (some (.builtin "object.__setattr__"))) (gae19 : PySem.W.findIn K (.ref C_e19) "__getattribute__" = some (some (.builtin "BaseException.__getattribute__"))) (ghe19 : PySem.W.findIn K (.ref C_e19) "__getattr__" = some none)
    (oe20 : K.lookup C_e20 = some (excClassObj nme20 qne20 C_e20 nNe20 bse20 (.ref CM :: bmV) true sne20 sbe20 abe20 coe20 dde20 k0e20 k1e20 k2e20 k3e20 k5e20 "ValueError.__new__")) (kce20 : PySem.W.keepIn K (.ref C_e20) = true) (sae20 : PySem.W.findIn K (.ref C_e20) "__setattr__" = some (some (.builtin "object.__setattr__"))) (gae20 : PySem.W.findIn K (.ref C_e20) "__getattribute__" = some (some (.builtin "BaseException.__getattribute__"))) (ghe20 : PySem.W.findIn K (.ref C_e20) "__getattr__" = some none)
    (spM : PySem.W.specialIn K (.ref CM) "__getattribute__" = some (some (.builtin "type.__getattribute__"))) (rdM : PySem.W.readsIn K CM (.type "type") = true) (fcM : PySem.W.findCls K (.ref CM) (.type "type") "__init__" = some (.val (.ref f_a)))
    (nfe0 : PySem.W.findIn K (.ref C_e0) "found" = some none)
    (nfe1 : PySem.W.findIn K (.ref C_e1) "found" = some none)
    (nfe2 : PySem.W.findIn K (.ref C_e2) "found" = some none)
    (nfe3 : PySem.W.findIn K (.ref C_e3) "found" = some none)
    (nfe4 : PySem.W.findIn K (.ref C_e4) "found" = some none)
    (nfe5 : PySem.W.findIn K (.ref C_e5) "found" = some none)
    (nfe6 : PySem.W.findIn K (.ref C_e6) "found" = some none)
    (nfe7 : PySem.W.findIn K (.ref C_e7) "place" = some none)
    (nfe8 : PySem.W.findIn K (.ref C_e8) "found" = some none)
    (nfe9 : PySem.W.findIn K (.ref C_e9) "found" = some none)
    (nfe10 : PySem.W.findIn K (.ref C_e10) "one" = some none)
    (nfe11 : PySem.W.findIn K (.ref C_e11) "found" = some none)
    (nfe12 : PySem.W.findIn K (.ref C_e12) "found" = some none)
    (nfe13 : PySem.W.findIn K (.ref C_e13) "found" = some none)
    (nfe14 : PySem.W.findIn K (.ref C_e14) "kind" = some none)
    (nfe15 : PySem.W.findIn K (.ref C_e15) "name" = some none)
    (nfe16 : PySem.W.findIn K (.ref C_e16) "name" = some none)
    (nfe17 : PySem.W.findIn K (.ref C_e17) "found" = some none)
    (nfe19 : PySem.W.findIn K (.ref C_e19) "name" = some none)
    (nfe20 : PySem.W.findIn K (.ref C_e20) "found" = some none)
    (exn : PySem.W.exmOne K (.ref C_e8) (.ref C_e8) = some true)
    (nfx : PySem.W.findIn K (.ref C_e10) "other" = some none)
    (fcM0 : PySem.W.findIn K (.ref CM) "__class__" = some (some (.builtin "object.__class__")))
    (fce0 : PySem.W.findIn K (.ref C_e0) "__class__" = some (some (.builtin "object.__class__")))
    (fce1 : PySem.W.findIn K (.ref C_e1) "__class__" = some (some (.builtin "object.__class__")))
    (fce2 : PySem.W.findIn K (.ref C_e2) "__class__" = some (some (.builtin "object.__class__")))
    (fce3 : PySem.W.findIn K (.ref C_e3) "__class__" = some (some (.builtin "object.__class__")))
    (fce4 : PySem.W.findIn K (.ref C_e4) "__class__" = some (some (.builtin "object.__class__")))
    (fce5 : PySem.W.findIn K (.ref C_e5) "__class__" = some (some (.builtin "object.__class__")))
    (fce6 : PySem.W.findIn K (.ref C_e6) "__class__" = some (some (.builtin "object.__class__")))
    (fce7 : PySem.W.findIn K (.ref C_e7) "__class__" = some (some (.builtin "object.__class__")))
    (fce8 : PySem.W.findIn K (.ref C_e8) "__class__" = some (some (.builtin "object.__class__")))
    (fce9 : PySem.W.findIn K (.ref C_e9) "__class__" = some (some (.builtin "object.__class__")))
    (fce10 : PySem.W.findIn K (.ref C_e10) "__class__" = some (some (.builtin "object.__class__")))
    (fce11 : PySem.W.findIn K (.ref C_e11) "__class__" = some (some (.builtin "object.__class__")))
    (fce12 : PySem.W.findIn K (.ref C_e12) "__class__" = some (some (.builtin "object.__class__")))
    (fce13 : PySem.W.findIn K (.ref C_e13) "__class__" = some (some (.builtin "object.__class__")))
    (fce14 : PySem.W.findIn K (.ref C_e14) "__class__" = some (some (.builtin "object.__class__")))
    (fce15 : PySem.W.findIn K (.ref C_e15) "__class__" = some (some (.builtin "object.__class__")))
    (fce16 : PySem.W.findIn K (.ref C_e16) "__class__" = some (some (.builtin "object.__class__")))
    (fce17 : PySem.W.findIn K (.ref C_e17) "__class__" = some (some (.builtin "object.__class__")))
    (fce18 : PySem.W.findIn K (.ref C_e18) "__class__" = some (some (.builtin "object.__class__")))
    (fce19 : PySem.W.findIn K (.ref C_e19) "__class__" = some (some (.builtin "object.__class__")))
    (fce20 : PySem.W.findIn K (.ref C_e20) "__class__" = some (some (.builtin "object.__class__")))
    (ndp : nodupB (CM :: [C_e0, C_e1, C_e2, C_e3, C_e4, C_e5, C_e6, C_e7, C_e8, C_e9, C_e10, C_e11, C_e12, C_e13, C_e14, C_e15, C_e16, C_e17, C_e18, C_e19, C_e20]) = true)
    (z_isinstance : PySem.W.nsIn K mainGlobals "isinstance" = some none) (z_int : PySem.W.nsIn K mainGlobals "int" = some none) (z_bool : PySem.W.nsIn K mainGlobals "bool" = some none) (z_len : PySem.W.nsIn K mainGlobals "len" = some none) (z_list : PySem.W.nsIn K mainGlobals "list" = some none) (z_range : PySem.W.nsIn K mainGlobals "range" = some none) (z_repr : PySem.W.nsIn K mainGlobals "repr" = some none) (z_tuple : PySem.W.nsIn K mainGlobals "tuple" = some none) (z_max : PySem.W.nsIn K mainGlobals "max" = some none) (z_min : PySem.W.nsIn K mainGlobals "min" = some none) (z_ValueError : PySem.W.nsIn K mainGlobals "ValueError" = some none)
    (s_i_non : PySem.W.subIn K (.type "NoneType") (.type "int") = some false) (s_i_bool : PySem.W.subIn K (.type "bool") (.type "int") = some true) (s_i_str : PySem.W.subIn K (.type "str") (.type "int") = some false) (s_i_list : PySem.W.subIn K (.type "list") (.type "int") = some false) (s_i_tup : PySem.W.subIn K (.type "tuple") (.type "int") = some false) (s_i_dict : PySem.W.subIn K (.type "dict") (.type "int") = some false) (s_b_non : PySem.W.subIn K (.type "NoneType") (.type "bool") = some false) (s_b_int : PySem.W.subIn K (.type "int") (.type "bool") = some false) (s_b_str : PySem.W.subIn K (.type "str") (.type "bool") = some false) (s_b_list : PySem.W.subIn K (.type "list") (.type "bool") = some false) (s_b_tup : PySem.W.subIn K (.type "tuple") (.type "bool") = some false) (s_b_dict : PySem.W.subIn K (.type "dict") (.type "bool") = some false) (s_t_non : PySem.W.subIn K (.type "NoneType") (.type "tuple") = some false) (s_t_bool : PySem.W.subIn K (.type "bool") (.type "tuple") = some false) (s_t_int : PySem.W.subIn K (.type "int") (.type "tuple") = some false) (s_t_str : PySem.W.subIn K (.type "str") (.type "tuple") = some false) (s_t_list : PySem.W.subIn K (.type "list") (.type "tuple") = some false) (s_t_dict : PySem.W.subIn K (.type "dict") (.type "tuple") = some false) (s_l_non : PySem.W.subIn K (.type "NoneType") (.type "list") = some false) (s_l_bool : PySem.W.subIn K (.type "bool") (.type "list") = some false) (s_l_int : PySem.W.subIn K (.type "int") (.type "list") = some false) (s_l_str : PySem.W.subIn K (.type "str") (.type "list") = some false) (s_l_tup : PySem.W.subIn K (.type "tuple") (.type "list") = some false) (s_l_dict : PySem.W.subIn K (.type "dict") (.type "list") = some false) :
    ∃ fd : FuncData, (∀ (s : Shared) (v : Value), BindsTo s fd ⟨[v], []⟩ [("_law_script", v)]) ∧ ∀ base : Heap, K.In base → base.Ns mainGlobals mg → FnOk l.prog w K mg base CX0 9 fa fd ["_law_script"] (spLaw K) := by
  have e := hfa.symm.trans (PySem.W.mg_of X G a_a0)
  cases e
  have F_a := fun_mk (st := sMeetErrorInit) l_a c_a k_a
  have F_b := fun_mk (st := sNoHousesInit) l_b c_b k_b
  have F_c := fun_mk (st := sNoHouseInit) l_c c_c k_c
  have F_d := fun_mk (st := sNoSetInit) l_d c_d k_d
  have F_e := fun_mk (st := sTwiceInit) l_e c_e k_e
  have F_f := fun_mk (st := sNoLotsInit) l_f c_f k_f
  have F_g := fun_mk (st := sTooManyInit) l_g c_g k_g
  have F_h := fun_mk (st := sNoPlanInit) l_h c_h k_h
  have F_i := fun_mk (st := sNoTextInit) l_i c_i k_i
  have F_j := fun_mk (st := sNoShareInit) l_j c_j k_j
  have F_k := fun_mk (st := sNoNumberInit) l_k c_k k_k
  have F_l := fun_mk (st := sApartInit) l_l c_l k_l
  have F_m := fun_mk (st := sNoChanceInit) l_m c_m k_m
  have F_n := fun_mk (st := sNoDealingInit) l_n c_n k_n
  have F_o := fun_mk (st := sNoKindInit) l_o c_o k_o
  have F_p := fun_mk (st := sNoneStandsInit) l_p c_p k_p
  have F_q := fun_mk (st := sFallenInit) l_q c_q k_q
  have F_r := fun_mk (st := sStandingInit) l_r c_r k_r
  have F_s := fun_mk (st := sNoValueInit) l_s c_s k_s
  have F_t := fun_mk (st := sNoUndoInit) l_t c_t k_t
  have F_u := fun_mk (st := sNoSystemInit) l_u c_u k_u
  have F_v := fun_mk (st := sNoLineInit) l_v c_v k_v
  have F_w := fun_mk (st := sWhole) l_w c_w k_w
  have F_x := fun_mk (st := sCommon) l_x c_x k_x
  have F_y := fun_mk (st := sMakeA) l_y c_y k_y
  have F_z := fun_mk (st := sIsShare) l_z c_z k_z
  have F_A := fun_mk (st := sShareOf) l_A c_A k_A
  have F_B := fun_mk (st := sCheckS) l_B c_B k_B
  have F_C := fun_mk (st := sPlus) l_C c_C k_C
  have F_D := fun_mk (st := sMinus) l_D c_D k_D
  have F_E := fun_mk (st := sTimes) l_E c_E k_E
  have F_F := fun_mk (st := sLess) l_F c_F k_F
  have F_G := fun_mk (st := sSumS) l_G c_G k_G
  have F_H := fun_mk (st := sShareText) l_H c_H k_H
  have F_I := fun_mk (st := sBox) l_I c_I k_I
  have F_J := fun_mk (st := sTake) l_J c_J k_J
  have F_K := fun_mk (st := s_law_common) l_K c_K k_K
  have F_L := fun_mk (st := s_law_part) l_L c_L k_L
  have F_M := fun_mk (st := s_law_share) l_M c_M k_M
  have F_N := fun_mk (st := s_law_first_ones) l_N c_N k_N
  have F_O := fun_mk (st := s_law_other_ones) l_O c_O k_O
  have F_P := fun_mk (st := s_law_error) l_P c_P k_P
  have F_Q := fun_mk (st := s_law_kinds) l_Q c_Q k_Q
  have F_R := fun_mk (st := s_law_fields) l_R c_R k_R
  have F_S := fun_mk (st := s_law_things) l_S c_S k_S
  have F_T := fun_mk (st := s_law_made_right) l_T c_T k_T
  have F_U := fun_mk (st := s_law_kept_right) l_U c_U k_U
  have F_V := fun_mk (st := s_law_told) l_V c_V k_V
  have F_W := fun_mk (st := s_law_is_share) l_W c_W k_W
  have F_X := fun_mk (st := s_law_odd) l_X c_X k_X
  have F_Y := fun_mk (st := s_law_doors_right) l_Y c_Y k_Y
  have F_Z := fun_mk (st := s_law_case) l_Z c_Z k_Z
  have F_a0 := fun_mk (st := sLaw) l_a0 c_a0 k_a0
  have b_a := F_a.binds (ps := ["self", "text"]) fun _ _ _ _ _ _ us hl => match us, hl with | [_, _], _ => rfl
  have b_b := F_b.binds (ps := ["self", "found"]) fun _ _ _ _ _ _ us hl => match us, hl with | [_, _], _ => rfl
  have b_c := F_c.binds (ps := ["self", "found"]) fun _ _ _ _ _ _ us hl => match us, hl with | [_, _], _ => rfl
  have b_d := F_d.binds (ps := ["self", "found"]) fun _ _ _ _ _ _ us hl => match us, hl with | [_, _], _ => rfl
  have b_e := F_e.binds (ps := ["self", "found"]) fun _ _ _ _ _ _ us hl => match us, hl with | [_, _], _ => rfl
  have b_f := F_f.binds (ps := ["self", "found"]) fun _ _ _ _ _ _ us hl => match us, hl with | [_, _], _ => rfl
  have b_g := F_g.binds (ps := ["self", "found"]) fun _ _ _ _ _ _ us hl => match us, hl with | [_, _], _ => rfl
  have b_h := F_h.binds (ps := ["self", "found"]) fun _ _ _ _ _ _ us hl => match us, hl with | [_, _], _ => rfl
  have b_i := F_i.binds (ps := ["self", "place"]) fun _ _ _ _ _ _ us hl => match us, hl with | [_, _], _ => rfl
  have b_j := F_j.binds (ps := ["self", "found"]) fun _ _ _ _ _ _ us hl => match us, hl with | [_, _], _ => rfl
  have b_k := F_k.binds (ps := ["self", "found"]) fun _ _ _ _ _ _ us hl => match us, hl with | [_, _], _ => rfl
  have b_l := F_l.binds (ps := ["self", "one", "other"]) fun _ _ _ _ _ _ us hl => match us, hl with | [_, _, _], _ => rfl
  have b_m := F_m.binds (ps := ["self", "found"]) fun _ _ _ _ _ _ us hl => match us, hl with | [_, _], _ => rfl
  have b_n := F_n.binds (ps := ["self", "found"]) fun _ _ _ _ _ _ us hl => match us, hl with | [_, _], _ => rfl
  have b_o := F_o.binds (ps := ["self", "found"]) fun _ _ _ _ _ _ us hl => match us, hl with | [_, _], _ => rfl
  have b_p := F_p.binds (ps := ["self", "kind"]) fun _ _ _ _ _ _ us hl => match us, hl with | [_, _], _ => rfl
  have b_q := F_q.binds (ps := ["self", "name"]) fun _ _ _ _ _ _ us hl => match us, hl with | [_, _], _ => rfl
  have b_r := F_r.binds (ps := ["self", "name"]) fun _ _ _ _ _ _ us hl => match us, hl with | [_, _], _ => rfl
  have b_s := F_s.binds (ps := ["self", "found"]) fun _ _ _ _ _ _ us hl => match us, hl with | [_, _], _ => rfl
  have b_t := F_t.binds (ps := ["self"]) fun _ _ _ _ _ _ us hl => match us, hl with | [_], _ => rfl
  have b_u := F_u.binds (ps := ["self", "name"]) fun _ _ _ _ _ _ us hl => match us, hl with | [_, _], _ => rfl
  have b_v := F_v.binds (ps := ["self", "found"]) fun _ _ _ _ _ _ us hl => match us, hl with | [_, _], _ => rfl
  have b_w := F_w.binds (ps := ["thing"]) fun _ _ _ _ _ _ us hl => match us, hl with | [_], _ => rfl
  have b_x := F_x.binds (ps := ["one", "other"]) fun _ _ _ _ _ _ us hl => match us, hl with | [_, _], _ => rfl
  have b_y := F_y.binds (ps := ["top", "bottom"]) fun _ _ _ _ _ _ us hl => match us, hl with | [_, _], _ => rfl
  have b_z := F_z.binds (ps := ["thing"]) fun _ _ _ _ _ _ us hl => match us, hl with | [_], _ => rfl
  have b_A := F_A.binds (ps := ["top", "bottom"]) fun _ _ _ _ _ _ us hl => match us, hl with | [_, _], _ => rfl
  have b_B := F_B.binds (ps := ["shares"]) fun _ _ _ _ _ _ us hl => match us, hl with | [_], _ => rfl
  have b_C := F_C.binds (ps := ["one", "other"]) fun _ _ _ _ _ _ us hl => match us, hl with | [_, _], _ => rfl
  have b_D := F_D.binds (ps := ["one", "other"]) fun _ _ _ _ _ _ us hl => match us, hl with | [_, _], _ => rfl
  have b_E := F_E.binds (ps := ["one", "other"]) fun _ _ _ _ _ _ us hl => match us, hl with | [_, _], _ => rfl
  have b_F := F_F.binds (ps := ["one", "other"]) fun _ _ _ _ _ _ us hl => match us, hl with | [_, _], _ => rfl
  have b_G := F_G.binds (ps := ["shares"]) fun _ _ _ _ _ _ us hl => match us, hl with | [_], _ => rfl
  have b_H := F_H.binds (ps := ["share"]) fun _ _ _ _ _ _ us hl => match us, hl with | [_], _ => rfl
  have b_I := F_I.binds (ps := ["_law_script", "_law_k"]) fun _ _ _ _ _ _ us hl => match us, hl with | [_, _], _ => rfl
  have b_J := F_J.binds (ps := ["_law_box_here", "_law_many"]) fun _ _ _ _ _ _ us hl => match us, hl with | [_, _], _ => rfl
  have b_K := F_K.binds (ps := ["_law_one", "_law_other"]) fun _ _ _ _ _ _ us hl => match us, hl with | [_, _], _ => rfl
  have b_L := F_L.binds (ps := ["_law_box_here"]) fun _ _ _ _ _ _ us hl => match us, hl with | [_], _ => rfl
  have b_M := F_M.binds (ps := ["_law_box_here"]) fun _ _ _ _ _ _ us hl => match us, hl with | [_], _ => rfl
  have b_N := F_N.binds (ps := ["_law_k", "_law_thing", "_law_other"]) fun _ _ _ _ _ _ us hl => match us, hl with | [_, _, _], _ => rfl
  have b_O := F_O.binds (ps := ["_law_k", "_law_thing", "_law_other"]) fun _ _ _ _ _ _ us hl => match us, hl with | [_, _, _], _ => rfl
  have b_P := F_P.binds (ps := ["_law_k", "_law_thing", "_law_other"]) fun _ _ _ _ _ _ us hl => match us, hl with | [_, _, _], _ => rfl
  have b_Q := F_Q.binds (ps := ["_law_error_here"]) fun _ _ _ _ _ _ us hl => match us, hl with | [_], _ => rfl
  have b_R := F_R.binds (ps := ["_law_k", "_law_error_here"]) fun _ _ _ _ _ _ us hl => match us, hl with | [_, _], _ => rfl
  have b_S := F_S.binds (ps := ["_law_box_here"]) fun _ _ _ _ _ _ us hl => match us, hl with | [_], _ => rfl
  have b_T := F_T.binds (ps := ["_law_thing", "_law_other"]) fun _ _ _ _ _ _ us hl => match us, hl with | [_, _], _ => rfl
  have b_U := F_U.binds (ps := ["_law_number"]) fun _ _ _ _ _ _ us hl => match us, hl with | [_], _ => rfl
  have b_V := F_V.binds (ps := ["_law_way", "_law_one", "_law_other"]) fun _ _ _ _ _ _ us hl => match us, hl with | [_, _, _], _ => rfl
  have b_W := F_W.binds (ps := ["_law_thing"]) fun _ _ _ _ _ _ us hl => match us, hl with | [_], _ => rfl
  have b_X := F_X.binds (ps := ["_law_box_here"]) fun _ _ _ _ _ _ us hl => match us, hl with | [_], _ => rfl
  have b_Y := F_Y.binds (ps := ["_law_box_here"]) fun _ _ _ _ _ _ us hl => match us, hl with | [_], _ => rfl
  have b_Z := F_Z.binds (ps := ["_law_box_here"]) fun _ _ _ _ _ _ us hl => match us, hl with | [_], _ => rfl
  have m_isinstance := PySem.W.mg_none_of X G z_isinstance
  have m_int := PySem.W.mg_none_of X G z_int
  have m_bool := PySem.W.mg_none_of X G z_bool
  have m_len := PySem.W.mg_none_of X G z_len
  have m_list := PySem.W.mg_none_of X G z_list
  have m_range := PySem.W.mg_none_of X G z_range
  have m_repr := PySem.W.mg_none_of X G z_repr
  have m_tuple := PySem.W.mg_none_of X G z_tuple
  have m_max := PySem.W.mg_none_of X G z_max
  have m_min := PySem.W.mg_none_of X G z_min
  have m_ValueError := PySem.W.mg_none_of X G z_ValueError
  have t_i_non := kit_of (by decide +kernel) (by decide +kernel) s_i_non
  have t_i_bool := kit_of (by decide +kernel) (by decide +kernel) s_i_bool
  have t_i_str := kit_of (by decide +kernel) (by decide +kernel) s_i_str
  have t_i_list := kit_of (by decide +kernel) (by decide +kernel) s_i_list
  have t_i_tup := kit_of (by decide +kernel) (by decide +kernel) s_i_tup
  have t_i_dict := kit_of (by decide +kernel) (by decide +kernel) s_i_dict
  have t_b_non := kit_of (by decide +kernel) (by decide +kernel) s_b_non
  have t_b_int := kit_of (by decide +kernel) (by decide +kernel) s_b_int
  have t_b_str := kit_of (by decide +kernel) (by decide +kernel) s_b_str
  have t_b_list := kit_of (by decide +kernel) (by decide +kernel) s_b_list
  have t_b_tup := kit_of (by decide +kernel) (by decide +kernel) s_b_tup
  have t_b_dict := kit_of (by decide +kernel) (by decide +kernel) s_b_dict
  have t_t_non := kit_of (by decide +kernel) (by decide +kernel) s_t_non
  have t_t_bool := kit_of (by decide +kernel) (by decide +kernel) s_t_bool
  have t_t_int := kit_of (by decide +kernel) (by decide +kernel) s_t_int
  have t_t_str := kit_of (by decide +kernel) (by decide +kernel) s_t_str
  have t_t_list := kit_of (by decide +kernel) (by decide +kernel) s_t_list
  have t_t_dict := kit_of (by decide +kernel) (by decide +kernel) s_t_dict
  have t_l_non := kit_of (by decide +kernel) (by decide +kernel) s_l_non
  have t_l_bool := kit_of (by decide +kernel) (by decide +kernel) s_l_bool
  have t_l_int := kit_of (by decide +kernel) (by decide +kernel) s_l_int
  have t_l_str := kit_of (by decide +kernel) (by decide +kernel) s_l_str
  have t_l_tup := kit_of (by decide +kernel) (by decide +kernel) s_l_tup
  have t_l_dict := kit_of (by decide +kernel) (by decide +kernel) s_l_dict
  have mCM := PySem.W.mg_of X G gM
  have mCe0 := PySem.W.mg_of X G ge0
  have mCe1 := PySem.W.mg_of X G ge1
  have mCe2 := PySem.W.mg_of X G ge2
  have mCe3 := PySem.W.mg_of X G ge3
  have mCe4 := PySem.W.mg_of X G ge4
  have mCe5 := PySem.W.mg_of X G ge5
  have mCe6 := PySem.W.mg_of X G ge6
  have mCe7 := PySem.W.mg_of X G ge7
  have mCe8 := PySem.W.mg_of X G ge8
  have mCe9 := PySem.W.mg_of X G ge9
  have mCe10 := PySem.W.mg_of X G ge10
  have mCe11 := PySem.W.mg_of X G ge11
  have mCe12 := PySem.W.mg_of X G ge12
  have mCe13 := PySem.W.mg_of X G ge13
  have mCe14 := PySem.W.mg_of X G ge14
  have mCe15 := PySem.W.mg_of X G ge15
  have mCe16 := PySem.W.mg_of X G ge16
  have mCe17 := PySem.W.mg_of X G ge17
  have mCe18 := PySem.W.mg_of X G ge18
  have mCe19 := PySem.W.mg_of X G ge19
  have mCe20 := PySem.W.mg_of X G ge20
  have ecM : ErrC K CM f_a bmV := ⟨⟨_, _, _, _, _, _, _, _, _, _, _, _, _, _, oM⟩, a_a, i_a, kcM, saM, gaM, ghM, tailV, by decide +kernel, by decide +kernel, PySem.F.store_ValueError.passes⟩
  have cfM : ClsFn K CM f_a := ⟨spM, rdM, fcM, k_a⟩
  have ece0 : ErrC K C_e0 f_b (.ref CM :: bmV) := ⟨⟨_, _, _, _, _, _, _, _, _, _, _, _, _, _, oe0⟩, a_b, i_b, kce0, sae0, gae0, ghe0, tailM CM, by rw [List.contains_cons]; simp, by rw [List.contains_cons]; simp, fun x => by rw [refuseLoop_ref]; exact PySem.F.store_ValueError.passes x⟩
  have ece1 : ErrC K C_e1 f_c (.ref CM :: bmV) := ⟨⟨_, _, _, _, _, _, _, _, _, _, _, _, _, _, oe1⟩, a_c, i_c, kce1, sae1, gae1, ghe1, tailM CM, by rw [List.contains_cons]; simp, by rw [List.contains_cons]; simp, fun x => by rw [refuseLoop_ref]; exact PySem.F.store_ValueError.passes x⟩
  have ece2 : ErrC K C_e2 f_d (.ref CM :: bmV) := ⟨⟨_, _, _, _, _, _, _, _, _, _, _, _, _, _, oe2⟩, a_d, i_d, kce2, sae2, gae2, ghe2, tailM CM, by rw [List.contains_cons]; simp, by rw [List.contains_cons]; simp, fun x => by rw [refuseLoop_ref]; exact PySem.F.store_ValueError.passes x⟩
  have ece3 : ErrC K C_e3 f_e (.ref CM :: bmV) := ⟨⟨_, _, _, _, _, _, _, _, _, _, _, _, _, _, oe3⟩, a_e, i_e, kce3, sae3, gae3, ghe3, tailM CM, by rw [List.contains_cons]; simp, by rw [List.contains_cons]; simp, fun x => by rw [refuseLoop_ref]; exact PySem.F.store_ValueError.passes x⟩
  have ece4 : ErrC K C_e4 f_f (.ref CM :: bmV) := ⟨⟨_, _, _, _, _, _, _, _, _, _, _, _, _, _, oe4⟩, a_f, i_f, kce4, sae4, gae4, ghe4, tailM CM, by rw [List.contains_cons]; simp, by rw [List.contains_cons]; simp, fun x => by rw [refuseLoop_ref]; exact PySem.F.store_ValueError.passes x⟩
  have ece5 : ErrC K C_e5 f_g (.ref CM :: bmV) := ⟨⟨_, _, _, _, _, _, _, _, _, _, _, _, _, _, oe5⟩, a_g, i_g, kce5, sae5, gae5, ghe5, tailM CM, by rw [List.contains_cons]; simp, by rw [List.contains_cons]; simp, fun x => by rw [refuseLoop_ref]; exact PySem.F.store_ValueError.passes x⟩
  have ece6 : ErrC K C_e6 f_h (.ref CM :: bmV) := ⟨⟨_, _, _, _, _, _, _, _, _, _, _, _, _, _, oe6⟩, a_h, i_h, kce6, sae6, gae6, ghe6, tailM CM, by rw [List.contains_cons]; simp, by rw [List.contains_cons]; simp, fun x => by rw [refuseLoop_ref]; exact PySem.F.store_ValueError.passes x⟩
  have ece7 : ErrC K C_e7 f_i (.ref CM :: bmV) := ⟨⟨_, _, _, _, _, _, _, _, _, _, _, _, _, _, oe7⟩, a_i, i_i, kce7, sae7, gae7, ghe7, tailM CM, by rw [List.contains_cons]; simp, by rw [List.contains_cons]; simp, fun x => by rw [refuseLoop_ref]; exact PySem.F.store_ValueError.passes x⟩
  have ece8 : ErrC K C_e8 f_j (.ref CM :: bmV) := ⟨⟨_, _, _, _, _, _, _, _, _, _, _, _, _, _, oe8⟩, a_j, i_j, kce8, sae8, gae8, ghe8, tailM CM, by rw [List.contains_cons]; simp, by rw [List.contains_cons]; simp, fun x => by rw [refuseLoop_ref]; exact PySem.F.store_ValueError.passes x⟩
  have ece9 : ErrC K C_e9 f_k (.ref CM :: bmV) := ⟨⟨_, _, _, _, _, _, _, _, _, _, _, _, _, _, oe9⟩, a_k, i_k, kce9, sae9, gae9, ghe9, tailM CM, by rw [List.contains_cons]; simp, by rw [List.contains_cons]; simp, fun x => by rw [refuseLoop_ref]; exact PySem.F.store_ValueError.passes x⟩
  have ece10 : ErrC K C_e10 f_l (.ref CM :: bmV) := ⟨⟨_, _, _, _, _, _, _, _, _, _, _, _, _, _, oe10⟩, a_l, i_l, kce10, sae10, gae10, ghe10, tailM CM, by rw [List.contains_cons]; simp, by rw [List.contains_cons]; simp, fun x => by rw [refuseLoop_ref]; exact PySem.F.store_ValueError.passes x⟩
  have ece11 : ErrC K C_e11 f_m (.ref CM :: bmV) := ⟨⟨_, _, _, _, _, _, _, _, _, _, _, _, _, _, oe11⟩, a_m, i_m, kce11, sae11, gae11, ghe11, tailM CM, by rw [List.contains_cons]; simp, by rw [List.contains_cons]; simp, fun x => by rw [refuseLoop_ref]; exact PySem.F.store_ValueError.passes x⟩
  have ece12 : ErrC K C_e12 f_n (.ref CM :: bmV) := ⟨⟨_, _, _, _, _, _, _, _, _, _, _, _, _, _, oe12⟩, a_n, i_n, kce12, sae12, gae12, ghe12, tailM CM, by rw [List.contains_cons]; simp, by rw [List.contains_cons]; simp, fun x => by rw [refuseLoop_ref]; exact PySem.F.store_ValueError.passes x⟩
  have ece13 : ErrC K C_e13 f_o (.ref CM :: bmV) := ⟨⟨_, _, _, _, _, _, _, _, _, _, _, _, _, _, oe13⟩, a_o, i_o, kce13, sae13, gae13, ghe13, tailM CM, by rw [List.contains_cons]; simp, by rw [List.contains_cons]; simp, fun x => by rw [refuseLoop_ref]; exact PySem.F.store_ValueError.passes x⟩
  have ece14 : ErrC K C_e14 f_p (.ref CM :: bmV) := ⟨⟨_, _, _, _, _, _, _, _, _, _, _, _, _, _, oe14⟩, a_p, i_p, kce14, sae14, gae14, ghe14, tailM CM, by rw [List.contains_cons]; simp, by rw [List.contains_cons]; simp, fun x => by rw [refuseLoop_ref]; exact PySem.F.store_ValueError.passes x⟩
  have ece15 : ErrC K C_e15 f_q (.ref CM :: bmV) := ⟨⟨_, _, _, _, _, _, _, _, _, _, _, _, _, _, oe15⟩, a_q, i_q, kce15, sae15, gae15, ghe15, tailM CM, by rw [List.contains_cons]; simp, by rw [List.contains_cons]; simp, fun x => by rw [refuseLoop_ref]; exact PySem.F.store_ValueError.passes x⟩
  have ece16 : ErrC K C_e16 f_r (.ref CM :: bmV) := ⟨⟨_, _, _, _, _, _, _, _, _, _, _, _, _, _, oe16⟩, a_r, i_r, kce16, sae16, gae16, ghe16, tailM CM, by rw [List.contains_cons]; simp, by rw [List.contains_cons]; simp, fun x => by rw [refuseLoop_ref]; exact PySem.F.store_ValueError.passes x⟩
  have ece17 : ErrC K C_e17 f_s (.ref CM :: bmV) := ⟨⟨_, _, _, _, _, _, _, _, _, _, _, _, _, _, oe17⟩, a_s, i_s, kce17, sae17, gae17, ghe17, tailM CM, by rw [List.contains_cons]; simp, by rw [List.contains_cons]; simp, fun x => by rw [refuseLoop_ref]; exact PySem.F.store_ValueError.passes x⟩
  have ece18 : ErrC K C_e18 f_t (.ref CM :: bmV) := ⟨⟨_, _, _, _, _, _, _, _, _, _, _, _, _, _, oe18⟩, a_t, i_t, kce18, sae18, gae18, ghe18, tailM CM, by rw [List.contains_cons]; simp, by rw [List.contains_cons]; simp, fun x => by rw [refuseLoop_ref]; exact PySem.F.store_ValueError.passes x⟩
  have ece19 : ErrC K C_e19 f_u (.ref CM :: bmV) := ⟨⟨_, _, _, _, _, _, _, _, _, _, _, _, _, _, oe19⟩, a_u, i_u, kce19, sae19, gae19, ghe19, tailM CM, by rw [List.contains_cons]; simp, by rw [List.contains_cons]; simp, fun x => by rw [refuseLoop_ref]; exact PySem.F.store_ValueError.passes x⟩
  have ece20 : ErrC K C_e20 f_v (.ref CM :: bmV) := ⟨⟨_, _, _, _, _, _, _, _, _, _, _, _, _, _, oe20⟩, a_v, i_v, kce20, sae20, gae20, ghe20, tailM CM, by rw [List.contains_cons]; simp, by rw [List.contains_cons]; simp, fun x => by rw [refuseLoop_ref]; exact PySem.F.store_ValueError.passes x⟩
  have m_w := PySem.W.mg_of X G a_w
  have m_x := PySem.W.mg_of X G a_x
  have m_y := PySem.W.mg_of X G a_y
  have m_z := PySem.W.mg_of X G a_z
  have m_A := PySem.W.mg_of X G a_A
  have m_B := PySem.W.mg_of X G a_B
  have m_C := PySem.W.mg_of X G a_C
  have m_D := PySem.W.mg_of X G a_D
  have m_E := PySem.W.mg_of X G a_E
  have m_F := PySem.W.mg_of X G a_F
  have m_G := PySem.W.mg_of X G a_G
  have m_H := PySem.W.mg_of X G a_H
  have m_I := PySem.W.mg_of X G a_I
  have m_J := PySem.W.mg_of X G a_J
  have m_K := PySem.W.mg_of X G a_K
  have m_L := PySem.W.mg_of X G a_L
  have m_M := PySem.W.mg_of X G a_M
  have m_N := PySem.W.mg_of X G a_N
  have m_O := PySem.W.mg_of X G a_O
  have m_P := PySem.W.mg_of X G a_P
  have m_Q := PySem.W.mg_of X G a_Q
  have m_R := PySem.W.mg_of X G a_R
  have m_S := PySem.W.mg_of X G a_S
  have m_T := PySem.W.mg_of X G a_T
  have m_U := PySem.W.mg_of X G a_U
  have m_V := PySem.W.mg_of X G a_V
  have m_W := PySem.W.mg_of X G a_W
  have m_X := PySem.W.mg_of X G a_X
  have m_Y := PySem.W.mg_of X G a_Y
  have m_Z := PySem.W.mg_of X G a_Z
  have kk : KitS K := ⟨t_i_non, t_i_bool, t_i_str, t_i_list, t_i_tup, t_i_dict, t_b_non, t_b_int, t_b_str, t_b_list, t_b_tup, t_b_dict, t_t_non, t_t_bool, t_t_int, t_t_str, t_t_list, t_t_dict, t_l_non, t_l_bool, t_l_int, t_l_str, t_l_tup, t_l_dict⟩
  have er21 : ∀ j, j ≤ 20 → ∃ f, ErrC K ((Cs21 [C_e0, C_e1, C_e2, C_e3, C_e4, C_e5, C_e6, C_e7, C_e8, C_e9, C_e10, C_e11, C_e12, C_e13, C_e14, C_e15, C_e16, C_e17, C_e18, C_e19, C_e20]) j) f (.ref CM :: bmV) := (fun j hj => match j, hj with | 0, _ => ⟨_, ece0⟩ | 1, _ => ⟨_, ece1⟩ | 2, _ => ⟨_, ece2⟩ | 3, _ => ⟨_, ece3⟩ | 4, _ => ⟨_, ece4⟩ | 5, _ => ⟨_, ece5⟩ | 6, _ => ⟨_, ece6⟩ | 7, _ => ⟨_, ece7⟩ | 8, _ => ⟨_, ece8⟩ | 9, _ => ⟨_, ece9⟩ | 10, _ => ⟨_, ece10⟩ | 11, _ => ⟨_, ece11⟩ | 12, _ => ⟨_, ece12⟩ | 13, _ => ⟨_, ece13⟩ | 14, _ => ⟨_, ece14⟩ | 15, _ => ⟨_, ece15⟩ | 16, _ => ⟨_, ece16⟩ | 17, _ => ⟨_, ece17⟩ | 18, _ => ⟨_, ece18⟩ | 19, _ => ⟨_, ece19⟩ | 20, _ => ⟨_, ece20⟩ | (n + 21), h => absurd h (by omega))
  have fc21 : ∀ j, j ≤ 20 → PySem.W.findIn K (.ref ((Cs21 [C_e0, C_e1, C_e2, C_e3, C_e4, C_e5, C_e6, C_e7, C_e8, C_e9, C_e10, C_e11, C_e12, C_e13, C_e14, C_e15, C_e16, C_e17, C_e18, C_e19, C_e20]) j)) "__class__" = some (some (.builtin "object.__class__")) := (fun j hj => match j, hj with | 0, _ => fce0 | 1, _ => fce1 | 2, _ => fce2 | 3, _ => fce3 | 4, _ => fce4 | 5, _ => fce5 | 6, _ => fce6 | 7, _ => fce7 | 8, _ => fce8 | 9, _ => fce9 | 10, _ => fce10 | 11, _ => fce11 | 12, _ => fce12 | 13, _ => fce13 | 14, _ => fce14 | 15, _ => fce15 | 16, _ => fce16 | 17, _ => fce17 | 18, _ => fce18 | 19, _ => fce19 | 20, _ => fce20 | (n + 21), h => absurd h (by omega))
  have T6 : Tab K (Cs21 [C_e0, C_e1, C_e2, C_e3, C_e4, C_e5, C_e6, C_e7, C_e8, C_e9, C_e10, C_e11, C_e12, C_e13, C_e14, C_e15, C_e16, C_e17, C_e18, C_e19, C_e20]) (.ref CM :: bmV) := tab_mk (by rfl) ndp (fun a => by simp) er21 fc21
  have TM : TabM mg (Cs21 [C_e0, C_e1, C_e2, C_e3, C_e4, C_e5, C_e6, C_e7, C_e8, C_e9, C_e10, C_e11, C_e12, C_e13, C_e14, C_e15, C_e16, C_e17, C_e18, C_e19, C_e20]) := ⟨mCe0, mCe1, mCe2, mCe3, mCe4, mCe5, mCe6, mCe7, mCe8, mCe9, mCe10, mCe11, mCe12, mCe13, mCe14, mCe15, mCe16, mCe17, mCe18, mCe19, mCe20⟩
  have nf21 : ∀ j, j ≤ 20 → j ≠ 10 → j ≠ 18 → PySem.W.findIn K (.ref ((Cs21 [C_e0, C_e1, C_e2, C_e3, C_e4, C_e5, C_e6, C_e7, C_e8, C_e9, C_e10, C_e11, C_e12, C_e13, C_e14, C_e15, C_e16, C_e17, C_e18, C_e19, C_e20]) j)) (fldOf j) = some none := (fun j hj => match j, hj with | 0, _ => (fun _ _ => nfe0) | 1, _ => (fun _ _ => nfe1) | 2, _ => (fun _ _ => nfe2) | 3, _ => (fun _ _ => nfe3) | 4, _ => (fun _ _ => nfe4) | 5, _ => (fun _ _ => nfe5) | 6, _ => (fun _ _ => nfe6) | 7, _ => (fun _ _ => nfe7) | 8, _ => (fun _ _ => nfe8) | 9, _ => (fun _ _ => nfe9) | 10, _ => (fun h => absurd rfl h) | 11, _ => (fun _ _ => nfe11) | 12, _ => (fun _ _ => nfe12) | 13, _ => (fun _ _ => nfe13) | 14, _ => (fun _ _ => nfe14) | 15, _ => (fun _ _ => nfe15) | 16, _ => (fun _ _ => nfe16) | 17, _ => (fun _ _ => nfe17) | 18, _ => (fun _ h => absurd rfl h) | 19, _ => (fun _ _ => nfe19) | 20, _ => (fun _ _ => nfe20) | (n + 21), h => absurd h (by omega))
  have kM21 : ∀ j, j ≤ 20 → PySem.W.kitOne K (.ref ((Cs21 [C_e0, C_e1, C_e2, C_e3, C_e4, C_e5, C_e6, C_e7, C_e8, C_e9, C_e10, C_e11, C_e12, C_e13, C_e14, C_e15, C_e16, C_e17, C_e18, C_e19, C_e20]) j)) (.ref CM) = some true := fun j hj => by obtain ⟨f, ec⟩ := T6.er j hj; rw [kit_err ec ecM]; simp
  have hV : bmV.contains (.type "ValueError") = true := by decide +kernel
  have kV21 : ∀ j, j ≤ 20 → PySem.W.kitOne K (.ref ((Cs21 [C_e0, C_e1, C_e2, C_e3, C_e4, C_e5, C_e6, C_e7, C_e8, C_e9, C_e10, C_e11, C_e12, C_e13, C_e14, C_e15, C_e16, C_e17, C_e18, C_e19, C_e20]) j)) (.type "ValueError") = some true := fun j hj => by obtain ⟨f, ec⟩ := T6.er j hj; exact kit_errV ec (by rw [List.contains_cons, hV, Bool.or_true])
  refine ⟨PySem.W.fnOf "law" "law" (defArgs sLaw) (defBody sLaw) (defScope sLaw) .none kV_a0 dc_a0 pm_a0 an_a0 cd_a0 ct_a0, fun s v => .of_eq rfl, fun base _ _ => ?_⟩
  have O_a := ok_mInit (P := l.prog) (w := w) (mg := mg) (base := base) F_a m_ValueError
  have O_b := ok_NoHousesI (P := l.prog) (w := w) (mg := mg) (base := base) F_b ece0 nfe0 cfM O_a b_a mCM
  have O_c := ok_NoHouseI (P := l.prog) (w := w) (mg := mg) (base := base) F_c ece1 nfe1 cfM O_a b_a mCM
  have O_d := ok_NoSetI (P := l.prog) (w := w) (mg := mg) (base := base) F_d ece2 nfe2 cfM O_a b_a mCM
  have O_e := ok_TwiceI (P := l.prog) (w := w) (mg := mg) (base := base) F_e ece3 nfe3 cfM O_a b_a mCM
  have O_f := ok_NoLotsI (P := l.prog) (w := w) (mg := mg) (base := base) F_f ece4 nfe4 cfM O_a b_a mCM
  have O_g := ok_TooManyI (P := l.prog) (w := w) (mg := mg) (base := base) F_g ece5 nfe5 cfM O_a b_a mCM
  have O_h := ok_NoPlanI (P := l.prog) (w := w) (mg := mg) (base := base) F_h ece6 nfe6 cfM O_a b_a mCM
  have O_i := ok_NoTextI (P := l.prog) (w := w) (mg := mg) (base := base) F_i ece7 nfe7 cfM O_a b_a mCM
  have O_j := ok_NoShareI (P := l.prog) (w := w) (mg := mg) (base := base) F_j ece8 nfe8 cfM O_a b_a mCM
  have O_k := ok_NoNumberI (P := l.prog) (w := w) (mg := mg) (base := base) F_k ece9 nfe9 cfM O_a b_a mCM
  have O_l := ok_ApartI (P := l.prog) (w := w) (mg := mg) (base := base) F_l ece10 nfe10 nfx cfM O_a b_a mCM
  have O_m := ok_NoChanceI (P := l.prog) (w := w) (mg := mg) (base := base) F_m ece11 nfe11 cfM O_a b_a mCM
  have O_n := ok_NoDealingI (P := l.prog) (w := w) (mg := mg) (base := base) F_n ece12 nfe12 cfM O_a b_a mCM
  have O_o := ok_NoKindI (P := l.prog) (w := w) (mg := mg) (base := base) F_o ece13 nfe13 cfM O_a b_a mCM
  have O_p := ok_NoneStandsI (P := l.prog) (w := w) (mg := mg) (base := base) F_p ece14 nfe14 cfM O_a b_a mCM
  have O_q := ok_FallenI (P := l.prog) (w := w) (mg := mg) (base := base) F_q ece15 nfe15 cfM O_a b_a mCM
  have O_r := ok_StandingI (P := l.prog) (w := w) (mg := mg) (base := base) F_r ece16 nfe16 cfM O_a b_a mCM
  have O_s := ok_NoValueI (P := l.prog) (w := w) (mg := mg) (base := base) F_s ece17 nfe17 cfM O_a b_a mCM
  have O_t := ok_NoUndoI (P := l.prog) (w := w) (mg := mg) (base := base) F_t ece18 cfM O_a b_a mCM
  have O_u := ok_NoSystemI (P := l.prog) (w := w) (mg := mg) (base := base) F_u ece19 nfe19 cfM O_a b_a mCM
  have O_v := ok_NoLineI (P := l.prog) (w := w) (mg := mg) (base := base) F_v ece20 nfe20 cfM O_a b_a mCM
  have E0 : EK l.prog w K mg base "NoHouses" ["self", "found"] (spErr1 ((Cs21 [C_e0, C_e1, C_e2, C_e3, C_e4, C_e5, C_e6, C_e7, C_e8, C_e9, C_e10, C_e11, C_e12, C_e13, C_e14, C_e15, C_e16, C_e17, C_e18, C_e19, C_e20]) 0) "found") ((Cs21 [C_e0, C_e1, C_e2, C_e3, C_e4, C_e5, C_e6, C_e7, C_e8, C_e9, C_e10, C_e11, C_e12, C_e13, C_e14, C_e15, C_e16, C_e17, C_e18, C_e19, C_e20]) 0) := ⟨⟨_, _, _, ece0, O_b, b_b⟩, mCe0⟩
  have E1 : EK l.prog w K mg base "NoHouse" ["self", "found"] (spErr1 ((Cs21 [C_e0, C_e1, C_e2, C_e3, C_e4, C_e5, C_e6, C_e7, C_e8, C_e9, C_e10, C_e11, C_e12, C_e13, C_e14, C_e15, C_e16, C_e17, C_e18, C_e19, C_e20]) 1) "found") ((Cs21 [C_e0, C_e1, C_e2, C_e3, C_e4, C_e5, C_e6, C_e7, C_e8, C_e9, C_e10, C_e11, C_e12, C_e13, C_e14, C_e15, C_e16, C_e17, C_e18, C_e19, C_e20]) 1) := ⟨⟨_, _, _, ece1, O_c, b_c⟩, mCe1⟩
  have E2 : EK l.prog w K mg base "NoSet" ["self", "found"] (spErr1 ((Cs21 [C_e0, C_e1, C_e2, C_e3, C_e4, C_e5, C_e6, C_e7, C_e8, C_e9, C_e10, C_e11, C_e12, C_e13, C_e14, C_e15, C_e16, C_e17, C_e18, C_e19, C_e20]) 2) "found") ((Cs21 [C_e0, C_e1, C_e2, C_e3, C_e4, C_e5, C_e6, C_e7, C_e8, C_e9, C_e10, C_e11, C_e12, C_e13, C_e14, C_e15, C_e16, C_e17, C_e18, C_e19, C_e20]) 2) := ⟨⟨_, _, _, ece2, O_d, b_d⟩, mCe2⟩
  have E3 : EK l.prog w K mg base "Twice" ["self", "found"] (spErr1 ((Cs21 [C_e0, C_e1, C_e2, C_e3, C_e4, C_e5, C_e6, C_e7, C_e8, C_e9, C_e10, C_e11, C_e12, C_e13, C_e14, C_e15, C_e16, C_e17, C_e18, C_e19, C_e20]) 3) "found") ((Cs21 [C_e0, C_e1, C_e2, C_e3, C_e4, C_e5, C_e6, C_e7, C_e8, C_e9, C_e10, C_e11, C_e12, C_e13, C_e14, C_e15, C_e16, C_e17, C_e18, C_e19, C_e20]) 3) := ⟨⟨_, _, _, ece3, O_e, b_e⟩, mCe3⟩
  have E4 : EK l.prog w K mg base "NoLots" ["self", "found"] (spErr1 ((Cs21 [C_e0, C_e1, C_e2, C_e3, C_e4, C_e5, C_e6, C_e7, C_e8, C_e9, C_e10, C_e11, C_e12, C_e13, C_e14, C_e15, C_e16, C_e17, C_e18, C_e19, C_e20]) 4) "found") ((Cs21 [C_e0, C_e1, C_e2, C_e3, C_e4, C_e5, C_e6, C_e7, C_e8, C_e9, C_e10, C_e11, C_e12, C_e13, C_e14, C_e15, C_e16, C_e17, C_e18, C_e19, C_e20]) 4) := ⟨⟨_, _, _, ece4, O_f, b_f⟩, mCe4⟩
  have E5 : EK l.prog w K mg base "TooMany" ["self", "found"] (spErr1 ((Cs21 [C_e0, C_e1, C_e2, C_e3, C_e4, C_e5, C_e6, C_e7, C_e8, C_e9, C_e10, C_e11, C_e12, C_e13, C_e14, C_e15, C_e16, C_e17, C_e18, C_e19, C_e20]) 5) "found") ((Cs21 [C_e0, C_e1, C_e2, C_e3, C_e4, C_e5, C_e6, C_e7, C_e8, C_e9, C_e10, C_e11, C_e12, C_e13, C_e14, C_e15, C_e16, C_e17, C_e18, C_e19, C_e20]) 5) := ⟨⟨_, _, _, ece5, O_g, b_g⟩, mCe5⟩
  have E6 : EK l.prog w K mg base "NoPlan" ["self", "found"] (spErr1 ((Cs21 [C_e0, C_e1, C_e2, C_e3, C_e4, C_e5, C_e6, C_e7, C_e8, C_e9, C_e10, C_e11, C_e12, C_e13, C_e14, C_e15, C_e16, C_e17, C_e18, C_e19, C_e20]) 6) "found") ((Cs21 [C_e0, C_e1, C_e2, C_e3, C_e4, C_e5, C_e6, C_e7, C_e8, C_e9, C_e10, C_e11, C_e12, C_e13, C_e14, C_e15, C_e16, C_e17, C_e18, C_e19, C_e20]) 6) := ⟨⟨_, _, _, ece6, O_h, b_h⟩, mCe6⟩
  have E7 : EK l.prog w K mg base "NoText" ["self", "place"] (spErr1 ((Cs21 [C_e0, C_e1, C_e2, C_e3, C_e4, C_e5, C_e6, C_e7, C_e8, C_e9, C_e10, C_e11, C_e12, C_e13, C_e14, C_e15, C_e16, C_e17, C_e18, C_e19, C_e20]) 7) "place") ((Cs21 [C_e0, C_e1, C_e2, C_e3, C_e4, C_e5, C_e6, C_e7, C_e8, C_e9, C_e10, C_e11, C_e12, C_e13, C_e14, C_e15, C_e16, C_e17, C_e18, C_e19, C_e20]) 7) := ⟨⟨_, _, _, ece7, O_i, b_i⟩, mCe7⟩
  have E8 : EK l.prog w K mg base "NoShare" ["self", "found"] (spErr1 ((Cs21 [C_e0, C_e1, C_e2, C_e3, C_e4, C_e5, C_e6, C_e7, C_e8, C_e9, C_e10, C_e11, C_e12, C_e13, C_e14, C_e15, C_e16, C_e17, C_e18, C_e19, C_e20]) 8) "found") ((Cs21 [C_e0, C_e1, C_e2, C_e3, C_e4, C_e5, C_e6, C_e7, C_e8, C_e9, C_e10, C_e11, C_e12, C_e13, C_e14, C_e15, C_e16, C_e17, C_e18, C_e19, C_e20]) 8) := ⟨⟨_, _, _, ece8, O_j, b_j⟩, mCe8⟩
  have E9 : EK l.prog w K mg base "NoNumber" ["self", "found"] (spErr1 ((Cs21 [C_e0, C_e1, C_e2, C_e3, C_e4, C_e5, C_e6, C_e7, C_e8, C_e9, C_e10, C_e11, C_e12, C_e13, C_e14, C_e15, C_e16, C_e17, C_e18, C_e19, C_e20]) 9) "found") ((Cs21 [C_e0, C_e1, C_e2, C_e3, C_e4, C_e5, C_e6, C_e7, C_e8, C_e9, C_e10, C_e11, C_e12, C_e13, C_e14, C_e15, C_e16, C_e17, C_e18, C_e19, C_e20]) 9) := ⟨⟨_, _, _, ece9, O_k, b_k⟩, mCe9⟩
  have E10 : EK l.prog w K mg base "Apart" ["self", "one", "other"] (spErr2 ((Cs21 [C_e0, C_e1, C_e2, C_e3, C_e4, C_e5, C_e6, C_e7, C_e8, C_e9, C_e10, C_e11, C_e12, C_e13, C_e14, C_e15, C_e16, C_e17, C_e18, C_e19, C_e20]) 10) "one" "other") ((Cs21 [C_e0, C_e1, C_e2, C_e3, C_e4, C_e5, C_e6, C_e7, C_e8, C_e9, C_e10, C_e11, C_e12, C_e13, C_e14, C_e15, C_e16, C_e17, C_e18, C_e19, C_e20]) 10) := ⟨⟨_, _, _, ece10, O_l, b_l⟩, mCe10⟩
  have E11 : EK l.prog w K mg base "NoChance" ["self", "found"] (spErr1 ((Cs21 [C_e0, C_e1, C_e2, C_e3, C_e4, C_e5, C_e6, C_e7, C_e8, C_e9, C_e10, C_e11, C_e12, C_e13, C_e14, C_e15, C_e16, C_e17, C_e18, C_e19, C_e20]) 11) "found") ((Cs21 [C_e0, C_e1, C_e2, C_e3, C_e4, C_e5, C_e6, C_e7, C_e8, C_e9, C_e10, C_e11, C_e12, C_e13, C_e14, C_e15, C_e16, C_e17, C_e18, C_e19, C_e20]) 11) := ⟨⟨_, _, _, ece11, O_m, b_m⟩, mCe11⟩
  have E12 : EK l.prog w K mg base "NoDealing" ["self", "found"] (spErr1 ((Cs21 [C_e0, C_e1, C_e2, C_e3, C_e4, C_e5, C_e6, C_e7, C_e8, C_e9, C_e10, C_e11, C_e12, C_e13, C_e14, C_e15, C_e16, C_e17, C_e18, C_e19, C_e20]) 12) "found") ((Cs21 [C_e0, C_e1, C_e2, C_e3, C_e4, C_e5, C_e6, C_e7, C_e8, C_e9, C_e10, C_e11, C_e12, C_e13, C_e14, C_e15, C_e16, C_e17, C_e18, C_e19, C_e20]) 12) := ⟨⟨_, _, _, ece12, O_n, b_n⟩, mCe12⟩
  have E13 : EK l.prog w K mg base "NoKind" ["self", "found"] (spErr1 ((Cs21 [C_e0, C_e1, C_e2, C_e3, C_e4, C_e5, C_e6, C_e7, C_e8, C_e9, C_e10, C_e11, C_e12, C_e13, C_e14, C_e15, C_e16, C_e17, C_e18, C_e19, C_e20]) 13) "found") ((Cs21 [C_e0, C_e1, C_e2, C_e3, C_e4, C_e5, C_e6, C_e7, C_e8, C_e9, C_e10, C_e11, C_e12, C_e13, C_e14, C_e15, C_e16, C_e17, C_e18, C_e19, C_e20]) 13) := ⟨⟨_, _, _, ece13, O_o, b_o⟩, mCe13⟩
  have E14 : EK l.prog w K mg base "NoneStands" ["self", "kind"] (spErr1 ((Cs21 [C_e0, C_e1, C_e2, C_e3, C_e4, C_e5, C_e6, C_e7, C_e8, C_e9, C_e10, C_e11, C_e12, C_e13, C_e14, C_e15, C_e16, C_e17, C_e18, C_e19, C_e20]) 14) "kind") ((Cs21 [C_e0, C_e1, C_e2, C_e3, C_e4, C_e5, C_e6, C_e7, C_e8, C_e9, C_e10, C_e11, C_e12, C_e13, C_e14, C_e15, C_e16, C_e17, C_e18, C_e19, C_e20]) 14) := ⟨⟨_, _, _, ece14, O_p, b_p⟩, mCe14⟩
  have E15 : EK l.prog w K mg base "Fallen" ["self", "name"] (spErr1 ((Cs21 [C_e0, C_e1, C_e2, C_e3, C_e4, C_e5, C_e6, C_e7, C_e8, C_e9, C_e10, C_e11, C_e12, C_e13, C_e14, C_e15, C_e16, C_e17, C_e18, C_e19, C_e20]) 15) "name") ((Cs21 [C_e0, C_e1, C_e2, C_e3, C_e4, C_e5, C_e6, C_e7, C_e8, C_e9, C_e10, C_e11, C_e12, C_e13, C_e14, C_e15, C_e16, C_e17, C_e18, C_e19, C_e20]) 15) := ⟨⟨_, _, _, ece15, O_q, b_q⟩, mCe15⟩
  have E16 : EK l.prog w K mg base "Standing" ["self", "name"] (spErr1 ((Cs21 [C_e0, C_e1, C_e2, C_e3, C_e4, C_e5, C_e6, C_e7, C_e8, C_e9, C_e10, C_e11, C_e12, C_e13, C_e14, C_e15, C_e16, C_e17, C_e18, C_e19, C_e20]) 16) "name") ((Cs21 [C_e0, C_e1, C_e2, C_e3, C_e4, C_e5, C_e6, C_e7, C_e8, C_e9, C_e10, C_e11, C_e12, C_e13, C_e14, C_e15, C_e16, C_e17, C_e18, C_e19, C_e20]) 16) := ⟨⟨_, _, _, ece16, O_r, b_r⟩, mCe16⟩
  have E17 : EK l.prog w K mg base "NoValue" ["self", "found"] (spErr1 ((Cs21 [C_e0, C_e1, C_e2, C_e3, C_e4, C_e5, C_e6, C_e7, C_e8, C_e9, C_e10, C_e11, C_e12, C_e13, C_e14, C_e15, C_e16, C_e17, C_e18, C_e19, C_e20]) 17) "found") ((Cs21 [C_e0, C_e1, C_e2, C_e3, C_e4, C_e5, C_e6, C_e7, C_e8, C_e9, C_e10, C_e11, C_e12, C_e13, C_e14, C_e15, C_e16, C_e17, C_e18, C_e19, C_e20]) 17) := ⟨⟨_, _, _, ece17, O_s, b_s⟩, mCe17⟩
  have E18 : EK l.prog w K mg base "NoUndo" ["self"] (spErr0 ((Cs21 [C_e0, C_e1, C_e2, C_e3, C_e4, C_e5, C_e6, C_e7, C_e8, C_e9, C_e10, C_e11, C_e12, C_e13, C_e14, C_e15, C_e16, C_e17, C_e18, C_e19, C_e20]) 18)) ((Cs21 [C_e0, C_e1, C_e2, C_e3, C_e4, C_e5, C_e6, C_e7, C_e8, C_e9, C_e10, C_e11, C_e12, C_e13, C_e14, C_e15, C_e16, C_e17, C_e18, C_e19, C_e20]) 18) := ⟨⟨_, _, _, ece18, O_t, b_t⟩, mCe18⟩
  have E19 : EK l.prog w K mg base "NoSystem" ["self", "name"] (spErr1 ((Cs21 [C_e0, C_e1, C_e2, C_e3, C_e4, C_e5, C_e6, C_e7, C_e8, C_e9, C_e10, C_e11, C_e12, C_e13, C_e14, C_e15, C_e16, C_e17, C_e18, C_e19, C_e20]) 19) "name") ((Cs21 [C_e0, C_e1, C_e2, C_e3, C_e4, C_e5, C_e6, C_e7, C_e8, C_e9, C_e10, C_e11, C_e12, C_e13, C_e14, C_e15, C_e16, C_e17, C_e18, C_e19, C_e20]) 19) := ⟨⟨_, _, _, ece19, O_u, b_u⟩, mCe19⟩
  have E20 : EK l.prog w K mg base "NoLine" ["self", "found"] (spErr1 ((Cs21 [C_e0, C_e1, C_e2, C_e3, C_e4, C_e5, C_e6, C_e7, C_e8, C_e9, C_e10, C_e11, C_e12, C_e13, C_e14, C_e15, C_e16, C_e17, C_e18, C_e19, C_e20]) 20) "found") ((Cs21 [C_e0, C_e1, C_e2, C_e3, C_e4, C_e5, C_e6, C_e7, C_e8, C_e9, C_e10, C_e11, C_e12, C_e13, C_e14, C_e15, C_e16, C_e17, C_e18, C_e19, C_e20]) 20) := ⟨⟨_, _, _, ece20, O_v, b_v⟩, mCe20⟩
  have O_w := okT_whole (P := l.prog) (w := w) (mg := mg) (base := base) F_w m_isinstance m_int m_bool kk
  have O_x := ok_common (P := l.prog) (w := w) (mg := mg) (base := base) F_x
  have O_y := okT_makeA (P := l.prog) (w := w) (mg := mg) (base := base) F_y ⟨O_w, b_w, k_w, m_w⟩
  have O_z := okT_isShare (P := l.prog) (w := w) (mg := mg) (base := base) F_z m_isinstance m_tuple m_len kk ⟨O_y, b_y, k_y, m_y⟩ ⟨O_x, b_x, k_x, m_x⟩
  have O_A := okE_shareOf (P := l.prog) (w := w) (mg := mg) (base := base) F_A ⟨O_y, b_y, k_y, m_y⟩ ece8 O_j b_j mCe8
  have O_B := okE_check (P := l.prog) (w := w) (mg := mg) (base := base) F_B ⟨O_z, b_z, k_z, m_z⟩ ece8 O_j b_j mCe8
  have O_C := okE_plus (P := l.prog) (w := w) (mg := mg) (base := base) F_C ⟨O_B, b_B, k_B, m_B⟩
  have O_D := okE_minus (P := l.prog) (w := w) (mg := mg) (base := base) F_D ⟨O_B, b_B, k_B, m_B⟩
  have O_E := okE_times (P := l.prog) (w := w) (mg := mg) (base := base) F_E ⟨O_B, b_B, k_B, m_B⟩
  have O_F := okE_less (P := l.prog) (w := w) (mg := mg) (base := base) F_F ⟨O_B, b_B, k_B, m_B⟩
  have O_G := okE_sumS (P := l.prog) (w := w) (mg := mg) (base := base) F_G m_isinstance m_list m_tuple kk ⟨O_B, b_B, k_B, m_B⟩ ece8 O_j b_j mCe8
  have O_H := okE_text (P := l.prog) (w := w) (mg := mg) (base := base) F_H ⟨O_B, b_B, k_B, m_B⟩
  have O_I := ok_box (P := l.prog) (w := w) (mg := mg) (base := base) F_I m_len
  have O_J := ok_take (P := l.prog) (w := w) (mg := mg) (base := base) F_J
  have O_K := ok_lcommon (P := l.prog) (w := w) (mg := mg) (base := base) F_K
  have O_L := ok_part (P := l.prog) (w := w) (mg := mg) (base := base) F_L m_range ⟨O_J, b_J, k_J, m_J⟩
  have O_M := ok_share (P := l.prog) (w := w) (mg := mg) (base := base) F_M ⟨O_L, b_L, k_L, m_L⟩ ⟨O_K, b_K, k_K, m_K⟩
  have O_N := ok_first (P := l.prog) (w := w) (mg := mg) (base := base) F_N (Cs := (Cs21 [C_e0, C_e1, C_e2, C_e3, C_e4, C_e5, C_e6, C_e7, C_e8, C_e9, C_e10, C_e11, C_e12, C_e13, C_e14, C_e15, C_e16, C_e17, C_e18, C_e19, C_e20])) E0 E1 E2 E3 E4 E5 E6 E7 E8 E9 E10
  have O_O := ok_other (P := l.prog) (w := w) (mg := mg) (base := base) F_O (Cs := (Cs21 [C_e0, C_e1, C_e2, C_e3, C_e4, C_e5, C_e6, C_e7, C_e8, C_e9, C_e10, C_e11, C_e12, C_e13, C_e14, C_e15, C_e16, C_e17, C_e18, C_e19, C_e20])) E11 E12 E13 E14 E15 E16 E17 E18 E19 E20
  have O_P := ok_error (P := l.prog) (w := w) (mg := mg) (base := base) F_P O_N b_N k_N m_N O_O b_O k_O m_O
  have O_Q := ok_kinds (P := l.prog) (w := w) (mg := mg) (base := base) F_Q m_isinstance m_range T6 TM
  have O_R := ok_fields (P := l.prog) (w := w) (mg := mg) (base := base) F_R T6 nf21 nfe10 nfx
  have O_S := ok_things (P := l.prog) (w := w) (mg := mg) (base := base) F_S ⟨O_J, b_J, k_J, m_J⟩
  have O_T := ok_made6 (P := l.prog) (w := w) (mg := mg) (base := base) F_T m_range m_int m_isinstance m_repr m_ValueError mCM T6 kM21 kV21 ⟨O_P, b_P, k_P, m_P⟩ ⟨O_R, b_R, k_R, m_R⟩ ⟨O_Q, b_Q, k_Q, m_Q⟩
  have O_U := ok_kept (P := l.prog) (w := w) (mg := mg) (base := base) F_U m_range m_int ⟨O_P, b_P, k_P, m_P⟩ ⟨O_R, b_R, k_R, m_R⟩
  have O_W := ok_lshare (P := l.prog) (w := w) (mg := mg) (base := base) F_W m_isinstance m_tuple m_len m_int m_bool kk ⟨O_K, b_K, k_K, m_K⟩
  have O_V := ok_told (P := l.prog) (w := w) (mg := mg) (base := base) F_V ⟨O_C, b_C, k_C, m_C⟩ ⟨O_D, b_D, k_D, m_D⟩ ⟨O_E, b_E, k_E, m_E⟩ ⟨O_F, b_F, k_F, m_F⟩ ⟨O_G, b_G, k_G, m_G⟩ ⟨O_H, b_H, k_H, m_H⟩ ⟨O_A, b_A, k_A, m_A⟩ ece8 nfe8 mCe8 exn
  have O_X := ok_odd (P := l.prog) (w := w) (mg := mg) (base := base) F_X m_list ⟨O_M, b_M, k_M, m_M⟩ ⟨O_J, b_J, k_J, m_J⟩
  have O_Y := ok_doors (P := l.prog) (w := w) (mg := mg) (base := base) F_Y m_repr m_range m_len ⟨O_M, b_M, k_M, m_M⟩ ⟨O_X, b_X, k_X, m_X⟩ ⟨O_z, b_z, k_z, m_z⟩ ⟨O_W, b_W, k_W, m_W⟩ ⟨O_J, b_J, k_J, m_J⟩ ⟨O_V, b_V, k_V, m_V⟩
  have O_Z := ok_case6 (P := l.prog) (w := w) (mg := mg) (base := base) F_Z m_range m_isinstance m_ValueError mCM ecM hV fcM0 O_a b_a ⟨O_S, b_S, k_S, m_S⟩ ⟨O_J, b_J, k_J, m_J⟩ ⟨O_T, b_T, k_T, m_T⟩ ⟨O_U, b_U, k_U, m_U⟩ ⟨O_Y, b_Y, k_Y, m_Y⟩
  exact ok_law F_a0 m_range m_max m_min m_len ⟨O_I, b_I, k_I, m_I⟩ ⟨O_Z, b_Z, k_Z, m_Z⟩
theorem walk {l : PySem.W.OpenLaw} {q : Program} {loose : List Str} {XP : (Str → Option Value) → Heap → Prop} {YP : World → Heap → Prop} {d : DefRec} {K : Params → PySem.W.Frag} (hn : l.most = some 63) (hdf : d.params.defaults = [])
    (hY : ∀ (w : World) (h : Heap), YP w h → (K w.params).In h)
    (F : ∀ (w : World) (mg : Str → Option Value) (fa : Addr) (h : Heap), (K w.params).In h → h.Ns mainGlobals mg → mg d.name = some (.ref fa) →
      ∃ fd : FuncData, (∀ (s : Shared) (u : Value), BindsTo s fd ⟨[u], []⟩ [("_law_script", u)]) ∧ ∀ base : Heap, (K w.params).In base → base.Ns mainGlobals mg → FnOk l.prog w (K w.params) mg base CX0 9 fa fd ["_law_script"] (spLaw (K w.params))) :
    PySem.W.WalkO q loose XP YP l.row.toRowW d [] (fun f vs => PySem.call f vs) :=
  L2.walk_of (n := 63) (k := 9) (x := "_law_script") (CX := fun _ => CX0) (sp := fun w => spLaw (K w.params)) hn (by decide) hdf ⟨rfl, by decide, by decide, rfl⟩ hY F (fun _ _ a ns hl _ hS => ⟨a, ns, rfl, hS, hl, fun _ => rfl⟩) fun _ _ _ _ _ z => z
end S
namespace HD
open PySem PySem.W PySem.Calls PyProof.Rows
def lawSt : Stmt := (PySem.Challenge.pw_alwaysmeet_k06_refusals_apart.main.body[58]?).getD (.Pass ⟨0, 0, 0, 0⟩)
def Q : Program := HT.only PySem.Challenge.pw_alwaysmeet_k06_refusals_apart [lawSt]
def L : List Str := PySem.Challenge.pw_alwaysmeet_k06_refusals_apart.boundNames.filter fun x => !(x == "law")
def Xt (s : Shared) : Bool := recOk (RowW.records (OpenRow.toRowW (OpenLaw.row PySem.Challenge.rw_alwaysmeet_k06_refusals_apart))) s
noncomputable def F0 (w : World) (os : OsState) := HT.chk PySem.Challenge.pw_alwaysmeet_k06_refusals_apart Q L Xt 8000 w os
noncomputable def G0 (_ : World) := some (true, openGood Q L)
noncomputable def F (as : List Addr) (w : World) (os : OsState) := HT.obs PySem.Challenge.pw_alwaysmeet_k06_refusals_apart (fun s => as.map s.heap.get?) 8000 w os
noncomputable def G (K : Params → Frag) (w : World) := some ((K w.params).map fun p => some p.2)
theorem F0_rfl : F0 = F0 := rfl
theorem G0_rfl : G0 = G0 := rfl
theorem F_rfl : F = F := rfl
theorem G_rfl : G = G := rfl
end HD
name_quick hdF0 for HD.F0 by HD.F0_rfl
name_quick hdG0 for HD.G0 by HD.G0_rfl
name_quick hdF for HD.F by HD.F_rfl
name_quick hdG for HD.G by HD.G_rfl
open PySem PySem.W PyProof.Rows
theorem HD.chk (w : World) (os : OsState) : HD.F0 w os = HD.G0 w := (congrFun (congrFun Fast.hdF0_eq w) os).trans ((show Fast.hdF0 w os = Fast.hdG0 w by kernel_rfl).trans (congrFun Fast.hdG0_eq w).symm)
open PySem PySem.W PyProof.Rows
set_option hygiene false in
local macro_rules | `(tactic| o_head ($f:term $K $as $e)) => `(tactic| (exact no.elim))
set_option maxRecDepth 100000 in
set_option maxHeartbeats 0 in
theorem HD.mk (no : False) : PySem.Challenge.rw_alwaysmeet_k06_refusals_apart.Holds := by
  w_on; o_law; k_head
def HD.as1 : List Addr := [2, 3, 15, 22, 24, 25, 27, 28, 29, 30, 31, 32, 35, 42, 44, 45, 47, 48, 49, 50, 51, 54, 61, 63, 64, 66, 67, 68, 69, 70, 73, 80, 82, 83, 85, 86, 87, 88, 89, 92, 99, 101, 102, 104, 105, 106, 107, 108, 111, 118, 120, 121, 123, 124, 125, 126, 127, 130, 137, 139, 140, 142, 143, 144, 145, 146, 149, 156, 158, 159, 161, 162, 163, 164, 165, 168, 175, 177, 178, 180, 181, 182, 183, 184, 187, 194, 196, 197, 199, 200, 201, 202, 203, 206, 213, 215, 216, 218, 219, 220, 221, 222, 225, 232, 234, 235, 237, 238, 239, 240, 241, 244, 251, 253, 254, 256, 257, 258, 259, 260]
def HD.as2 : List Addr := [263, 270, 272, 273, 275, 276, 277, 278, 279, 282, 289, 291, 292, 294, 295, 296, 297, 298, 301, 308, 310, 311, 313, 314, 315, 316, 317, 320, 327, 329, 330, 332, 333, 334, 335, 336, 339, 346, 348, 349, 351, 352, 353, 354, 355, 358, 365, 367, 368, 370, 371, 372, 373, 374, 377, 384, 386, 387, 389, 390, 391, 392, 393, 396, 403, 405, 406, 408, 409, 410, 411, 412, 415, 422, 424, 425, 427, 428, 429, 430, 431, 434, 436, 437, 439, 440, 441, 443, 444, 446, 447, 448, 450, 451, 453, 454, 455, 457, 458, 460, 461, 462, 464, 465, 467, 468, 469, 471, 472, 474, 475, 476, 478, 479, 481, 482, 483, 485, 486, 488]
def HD.as3 : List Addr := [489, 490, 492, 493, 495, 496, 497, 499, 500, 502, 503, 504, 506, 507, 509, 510, 511, 513, 514, 516, 517, 518, 520, 521, 523, 524, 525, 527, 528, 530, 531, 532, 534, 535, 537, 538, 539, 541, 542, 544, 545, 546, 548, 549, 551, 552, 553, 555, 556, 558, 559, 560, 562, 563, 565, 566, 567, 569, 570, 572, 573, 574, 576, 577, 579, 580, 581, 583, 584, 586, 587, 588, 591, 592, 593, 595, 596, 598, 599, 600, 602, 603, 605, 606, 607, 609, 610, 612, 613, 614, 616, 617, 619, 620, 621, 623, 624, 626, 627, 628, 631, 632, 633, 635, 636, 638, 639, 640, 643, 644, 645, 647, 648, 650, 651, 652, 654, 655, 657, 658]
noncomputable def HD.K1 (P : Params) : Frag := (HD.mk.heap_39 P).take 120
noncomputable def HD.K2 (P : Params) : Frag := ((HD.mk.heap_39 P).drop 120).take 120
noncomputable def HD.K3 (P : Params) : Frag := ((HD.mk.heap_39 P).drop 120).drop 120
theorem HD.ob1 (w : World) (os : OsState) : HD.F HD.as1 w os = HD.G HD.K1 w := (congrFun (congrFun (congrFun Fast.hdF_eq HD.as1) w) os).trans ((show Fast.hdF HD.as1 w os = Fast.hdG HD.K1 w by kernel_rfl).trans (congrFun (congrFun Fast.hdG_eq HD.K1) w).symm)
theorem HD.ob2 (w : World) (os : OsState) : HD.F HD.as2 w os = HD.G HD.K2 w := (congrFun (congrFun (congrFun Fast.hdF_eq HD.as2) w) os).trans ((show Fast.hdF HD.as2 w os = Fast.hdG HD.K2 w by kernel_rfl).trans (congrFun (congrFun Fast.hdG_eq HD.K2) w).symm)
theorem HD.ob3 (w : World) (os : OsState) : HD.F HD.as3 w os = HD.G HD.K3 w := (congrFun (congrFun (congrFun Fast.hdF_eq HD.as3) w) os).trans ((show Fast.hdF HD.as3 w os = Fast.hdG HD.K3 w by kernel_rfl).trans (congrFun (congrFun Fast.hdG_eq HD.K3) w).symm)
def HD.as : List Addr := HD.as1 ++ (HD.as2 ++ HD.as3)
theorem HD.ob (w : World) (os : OsState) : HD.F HD.as w os = HD.G HD.mk.heap_39 w := by
  have q := HT.obs_app (HD.ob1 w os) (HT.obs_app (HD.ob2 w os) (HD.ob3 w os))
  rw [← List.map_append, ← List.map_append] at q
  unfold HD.K1 HD.K2 HD.K3 at q
  rw [List.take_append_drop, List.take_append_drop] at q
  exact q
set_option maxRecDepth 100000 in
set_option maxHeartbeats 0 in
theorem HD.facts (w : World) (mg : Str → Option Value) (fa : Addr) (h : Heap) (KX : (HD.mk.heap_39 w.params).In h) (G : h.Ns mainGlobals mg) (hmg : mg "law" = some (.ref fa)) : ∃ fd : FuncData, (∀ (s : Shared) (v : Value), BindsTo s fd ⟨[v], []⟩ [("_law_script", v)]) ∧ ∀ base : Heap, (HD.mk.heap_39 w.params).In base → base.Ns mainGlobals mg → L2.FnOk PySem.Challenge.rw_alwaysmeet_k06_refusals_apart.prog w (HD.mk.heap_39 w.params) mg base L2.CX0 9 fa fd ["_law_script"] (S.spLaw (HD.mk.heap_39 w.params)) := by
  refine' S.all_mk KX G hmg ?gM ?ge0 ?ge1 ?ge2 ?ge3 ?ge4 ?ge5 ?ge6 ?ge7 ?ge8 ?ge9 ?ge10 ?ge11 ?ge12 ?ge13 ?ge14 ?ge15 ?ge16 ?ge17 ?ge18 ?ge19 ?ge20 ?a_a ?i_a ?l_a ?c_a ?k_a ?a_b ?i_b ?l_b ?c_b ?k_b ?a_c ?i_c ?l_c ?c_c ?k_c ?a_d ?i_d ?l_d ?c_d ?k_d ?a_e ?i_e ?l_e ?c_e ?k_e ?a_f ?i_f ?l_f ?c_f ?k_f ?a_g ?i_g ?l_g ?c_g ?k_g ?a_h ?i_h ?l_h ?c_h ?k_h ?a_i ?i_i ?l_i ?c_i ?k_i ?a_j ?i_j ?l_j ?c_j ?k_j ?a_k ?i_k ?l_k ?c_k ?k_k ?a_l ?i_l ?l_l ?c_l ?k_l ?a_m ?i_m ?l_m ?c_m ?k_m ?a_n ?i_n ?l_n ?c_n ?k_n ?a_o ?i_o ?l_o ?c_o ?k_o ?a_p ?i_p ?l_p ?c_p ?k_p ?a_q ?i_q ?l_q ?c_q ?k_q ?a_r ?i_r ?l_r ?c_r ?k_r ?a_s ?i_s ?l_s ?c_s ?k_s ?a_t ?i_t ?l_t ?c_t ?k_t ?a_u ?i_u ?l_u ?c_u ?k_u ?a_v ?i_v ?l_v ?c_v ?k_v ?a_w ?l_w ?c_w ?k_w ?a_x ?l_x ?c_x ?k_x ?a_y ?l_y ?c_y ?k_y ?a_z ?l_z ?c_z ?k_z ?a_A ?l_A ?c_A ?k_A ?a_B ?l_B ?c_B ?k_B ?a_C ?l_C ?c_C ?k_C ?a_D ?l_D ?c_D ?k_D ?a_E ?l_E ?c_E ?k_E ?a_F ?l_F ?c_F ?k_F ?a_G ?l_G ?c_G ?k_G ?a_H ?l_H ?c_H ?k_H ?a_I ?l_I ?c_I ?k_I ?a_J ?l_J ?c_J ?k_J ?a_K ?l_K ?c_K ?k_K ?a_L ?l_L ?c_L ?k_L ?a_M ?l_M ?c_M ?k_M ?a_N ?l_N ?c_N ?k_N ?a_O ?l_O ?c_O ?k_O ?a_P ?l_P ?c_P ?k_P ?a_Q ?l_Q ?c_Q ?k_Q ?a_R ?l_R ?c_R ?k_R ?a_S ?l_S ?c_S ?k_S ?a_T ?l_T ?c_T ?k_T ?a_U ?l_U ?c_U ?k_U ?a_V ?l_V ?c_V ?k_V ?a_W ?l_W ?c_W ?k_W ?a_X ?l_X ?c_X ?k_X ?a_Y ?l_Y ?c_Y ?k_Y ?a_Z ?l_Z ?c_Z ?k_Z ?a_a0 ?l_a0 ?c_a0 ?k_a0 ?oM ?kcM ?saM ?gaM ?ghM ?oe0 ?kce0 ?sae0 ?gae0 ?ghe0 ?oe1 ?kce1 ?sae1 ?gae1 ?ghe1 ?oe2 ?kce2 ?sae2 ?gae2 ?ghe2 ?oe3 ?kce3 ?sae3 ?gae3 ?ghe3 ?oe4 ?kce4 ?sae4 ?gae4 ?ghe4 ?oe5 ?kce5 ?sae5 ?gae5 ?ghe5 ?oe6 ?kce6 ?sae6 ?gae6 ?ghe6 ?oe7 ?kce7 ?sae7 ?gae7 ?ghe7 ?oe8 ?kce8 ?sae8 ?gae8 ?ghe8 ?oe9 ?kce9 ?sae9 ?gae9 ?ghe9 ?oe10 ?kce10 ?sae10 ?gae10 ?ghe10 ?oe11 ?kce11 ?sae11 ?gae11 ?ghe11 ?oe12 ?kce12 ?sae12 ?gae12 ?ghe12 ?oe13 ?kce13 ?sae13 ?gae13 ?ghe13 ?oe14 ?kce14 ?sae14 ?gae14 ?ghe14 ?oe15 ?kce15 ?sae15 ?gae15 ?ghe15 ?oe16 ?kce16 ?sae16 ?gae16 ?ghe16 ?oe17 ?kce17 ?sae17 ?gae17 ?ghe17 ?oe18 ?kce18 ?sae18 ?gae18 ?ghe18 ?oe19 ?kce19 ?sae19 ?gae19 ?ghe19 ?oe20 ?kce20 ?sae20 ?gae20 ?ghe20 ?spM ?rdM ?fcM ?nfe0 ?nfe1 ?nfe2 ?nfe3 ?nfe4 ?nfe5 ?nfe6 ?nfe7 ?nfe8 ?nfe9 ?nfe10 ?nfe11 ?nfe12 ?nfe13 ?nfe14 ?nfe15 ?nfe16 ?nfe17 ?nfe19 ?nfe20 ?exn ?nfx ?fcM0 ?fce0 ?fce1 ?fce2 ?fce3 ?fce4 ?fce5 ?fce6 ?fce7 ?fce8 ?fce9 ?fce10 ?fce11 ?fce12 ?fce13 ?fce14 ?fce15 ?fce16 ?fce17 ?fce18 ?fce19 ?fce20 ?ndp ?z_isinstance ?z_int ?z_bool ?z_len ?z_list ?z_range ?z_repr ?z_tuple ?z_max ?z_min ?z_ValueError ?s_i_non ?s_i_bool ?s_i_str ?s_i_list ?s_i_tup ?s_i_dict ?s_b_non ?s_b_int ?s_b_str ?s_b_list ?s_b_tup ?s_b_dict ?s_t_non ?s_t_bool ?s_t_int ?s_t_str ?s_t_list ?s_t_dict ?s_l_non ?s_l_bool ?s_l_int ?s_l_str ?s_l_tup ?s_l_dict
  (case gM => k_is)
  (case ge0 => k_is)
  (case ge1 => k_is)
  (case ge2 => k_is)
  (case ge3 => k_is)
  (case ge4 => k_is)
  (case ge5 => k_is)
  (case ge6 => k_is)
  (case ge7 => k_is)
  (case ge8 => k_is)
  (case ge9 => k_is)
  (case ge10 => k_is)
  (case ge11 => k_is)
  (case ge12 => k_is)
  (case ge13 => k_is)
  (case ge14 => k_is)
  (case ge15 => k_is)
  (case ge16 => k_is)
  (case ge17 => k_is)
  (case ge18 => k_is)
  (case ge19 => k_is)
  (case ge20 => k_is)
  (case a_a => k_is)
  (case i_a => k_is)
  (case l_a => k_is)
  (case c_a => k_is)
  (case k_a => k_is)
  (case a_b => k_is)
  (case i_b => k_is)
  (case l_b => k_is)
  (case c_b => k_is)
  (case k_b => k_is)
  (case a_c => k_is)
  (case i_c => k_is)
  (case l_c => k_is)
  (case c_c => k_is)
  (case k_c => k_is)
  (case a_d => k_is)
  (case i_d => k_is)
  (case l_d => k_is)
  (case c_d => k_is)
  (case k_d => k_is)
  (case a_e => k_is)
  (case i_e => k_is)
  (case l_e => k_is)
  (case c_e => k_is)
  (case k_e => k_is)
  (case a_f => k_is)
  (case i_f => k_is)
  (case l_f => k_is)
  (case c_f => k_is)
  (case k_f => k_is)
  (case a_g => k_is)
  (case i_g => k_is)
  (case l_g => k_is)
  (case c_g => k_is)
  (case k_g => k_is)
  (case a_h => k_is)
  (case i_h => k_is)
  (case l_h => k_is)
  (case c_h => k_is)
  (case k_h => k_is)
  (case a_i => k_is)
  (case i_i => k_is)
  (case l_i => k_is)
  (case c_i => k_is)
  (case k_i => k_is)
  (case a_j => k_is)
  (case i_j => k_is)
  (case l_j => k_is)
  (case c_j => k_is)
  (case k_j => k_is)
  (case a_k => k_is)
  (case i_k => k_is)
  (case l_k => k_is)
  (case c_k => k_is)
  (case k_k => k_is)
  (case a_l => k_is)
  (case i_l => k_is)
  (case l_l => k_is)
  (case c_l => k_is)
  (case k_l => k_is)
  (case a_m => k_is)
  (case i_m => k_is)
  (case l_m => k_is)
  (case c_m => k_is)
  (case k_m => k_is)
  (case a_n => k_is)
  (case i_n => k_is)
  (case l_n => k_is)
  (case c_n => k_is)
  (case k_n => k_is)
  (case a_o => k_is)
  (case i_o => k_is)
  (case l_o => k_is)
  (case c_o => k_is)
  (case k_o => k_is)
  (case a_p => k_is)
  (case i_p => k_is)
  (case l_p => k_is)
  (case c_p => k_is)
  (case k_p => k_is)
  (case a_q => k_is)
  (case i_q => k_is)
  (case l_q => k_is)
  (case c_q => k_is)
  (case k_q => k_is)
  (case a_r => k_is)
  (case i_r => k_is)
  (case l_r => k_is)
  (case c_r => k_is)
  (case k_r => k_is)
  (case a_s => k_is)
  (case i_s => k_is)
  (case l_s => k_is)
  (case c_s => k_is)
  (case k_s => k_is)
  (case a_t => k_is)
  (case i_t => k_is)
  (case l_t => k_is)
  (case c_t => k_is)
  (case k_t => k_is)
  (case a_u => k_is)
  (case i_u => k_is)
  (case l_u => k_is)
  (case c_u => k_is)
  (case k_u => k_is)
  (case a_v => k_is)
  (case i_v => k_is)
  (case l_v => k_is)
  (case c_v => k_is)
  (case k_v => k_is)
  (case a_w => k_is)
  (case l_w => k_is)
  (case c_w => k_is)
  (case k_w => k_is)
  (case a_x => k_is)
  (case l_x => k_is)
  (case c_x => k_is)
  (case k_x => k_is)
  (case a_y => k_is)
  (case l_y => k_is)
  (case c_y => k_is)
  (case k_y => k_is)
  (case a_z => k_is)
  (case l_z => k_is)
  (case c_z => k_is)
  (case k_z => k_is)
  (case a_A => k_is)
  (case l_A => k_is)
  (case c_A => k_is)
  (case k_A => k_is)
  (case a_B => k_is)
  (case l_B => k_is)
  (case c_B => k_is)
  (case k_B => k_is)
  (case a_C => k_is)
  (case l_C => k_is)
  (case c_C => k_is)
  (case k_C => k_is)
  (case a_D => k_is)
  (case l_D => k_is)
  (case c_D => k_is)
  (case k_D => k_is)
  (case a_E => k_is)
  (case l_E => k_is)
  (case c_E => k_is)
  (case k_E => k_is)
  (case a_F => k_is)
  (case l_F => k_is)
  (case c_F => k_is)
  (case k_F => k_is)
  (case a_G => k_is)
  (case l_G => k_is)
  (case c_G => k_is)
  (case k_G => k_is)
  (case a_H => k_is)
  (case l_H => k_is)
  (case c_H => k_is)
  (case k_H => k_is)
  (case a_I => k_is)
  (case l_I => k_is)
  (case c_I => k_is)
  (case k_I => k_is)
  (case a_J => k_is)
  (case l_J => k_is)
  (case c_J => k_is)
  (case k_J => k_is)
  (case a_K => k_is)
  (case l_K => k_is)
  (case c_K => k_is)
  (case k_K => k_is)
  (case a_L => k_is)
  (case l_L => k_is)
  (case c_L => k_is)
  (case k_L => k_is)
  (case a_M => k_is)
  (case l_M => k_is)
  (case c_M => k_is)
  (case k_M => k_is)
  (case a_N => k_is)
  (case l_N => k_is)
  (case c_N => k_is)
  (case k_N => k_is)
  (case a_O => k_is)
  (case l_O => k_is)
  (case c_O => k_is)
  (case k_O => k_is)
  (case a_P => k_is)
  (case l_P => k_is)
  (case c_P => k_is)
  (case k_P => k_is)
  (case a_Q => k_is)
  (case l_Q => k_is)
  (case c_Q => k_is)
  (case k_Q => k_is)
  (case a_R => k_is)
  (case l_R => k_is)
  (case c_R => k_is)
  (case k_R => k_is)
  (case a_S => k_is)
  (case l_S => k_is)
  (case c_S => k_is)
  (case k_S => k_is)
  (case a_T => k_is)
  (case l_T => k_is)
  (case c_T => k_is)
  (case k_T => k_is)
  (case a_U => k_is)
  (case l_U => k_is)
  (case c_U => k_is)
  (case k_U => k_is)
  (case a_V => k_is)
  (case l_V => k_is)
  (case c_V => k_is)
  (case k_V => k_is)
  (case a_W => k_is)
  (case l_W => k_is)
  (case c_W => k_is)
  (case k_W => k_is)
  (case a_X => k_is)
  (case l_X => k_is)
  (case c_X => k_is)
  (case k_X => k_is)
  (case a_Y => k_is)
  (case l_Y => k_is)
  (case c_Y => k_is)
  (case k_Y => k_is)
  (case a_Z => k_is)
  (case l_Z => k_is)
  (case c_Z => k_is)
  (case k_Z => k_is)
  (case a_a0 => k_is)
  (case l_a0 => k_is)
  (case c_a0 => k_is)
  (case k_a0 => k_is)
  (case oM => k_is)
  (case kcM => k_is)
  (case saM => k_is)
  (case gaM => k_is)
  (case ghM => k_is)
  (case oe0 => k_is)
  (case kce0 => k_is)
  (case sae0 => k_is)
  (case gae0 => k_is)
  (case ghe0 => k_is)
  (case oe1 => k_is)
  (case kce1 => k_is)
  (case sae1 => k_is)
  (case gae1 => k_is)
  (case ghe1 => k_is)
  (case oe2 => k_is)
  (case kce2 => k_is)
  (case sae2 => k_is)
  (case gae2 => k_is)
  (case ghe2 => k_is)
  (case oe3 => k_is)
  (case kce3 => k_is)
  (case sae3 => k_is)
  (case gae3 => k_is)
  (case ghe3 => k_is)
  (case oe4 => k_is)
  (case kce4 => k_is)
  (case sae4 => k_is)
  (case gae4 => k_is)
  (case ghe4 => k_is)
  (case oe5 => k_is)
  (case kce5 => k_is)
  (case sae5 => k_is)
  (case gae5 => k_is)
  (case ghe5 => k_is)
  (case oe6 => k_is)
  (case kce6 => k_is)
  (case sae6 => k_is)
  (case gae6 => k_is)
  (case ghe6 => k_is)
  (case oe7 => k_is)
  (case kce7 => k_is)
  (case sae7 => k_is)
  (case gae7 => k_is)
  (case ghe7 => k_is)
  (case oe8 => k_is)
  (case kce8 => k_is)
  (case sae8 => k_is)
  (case gae8 => k_is)
  (case ghe8 => k_is)
  (case oe9 => k_is)
  (case kce9 => k_is)
  (case sae9 => k_is)
  (case gae9 => k_is)
  (case ghe9 => k_is)
  (case oe10 => k_is)
  (case kce10 => k_is)
  (case sae10 => k_is)
  (case gae10 => k_is)
  (case ghe10 => k_is)
  (case oe11 => k_is)
  (case kce11 => k_is)
  (case sae11 => k_is)
  (case gae11 => k_is)
  (case ghe11 => k_is)
  (case oe12 => k_is)
  (case kce12 => k_is)
  (case sae12 => k_is)
  (case gae12 => k_is)
  (case ghe12 => k_is)
  (case oe13 => k_is)
  (case kce13 => k_is)
  (case sae13 => k_is)
  (case gae13 => k_is)
  (case ghe13 => k_is)
  (case oe14 => k_is)
  (case kce14 => k_is)
  (case sae14 => k_is)
  (case gae14 => k_is)
  (case ghe14 => k_is)
  (case oe15 => k_is)
  (case kce15 => k_is)
  (case sae15 => k_is)
  (case gae15 => k_is)
  (case ghe15 => k_is)
  (case oe16 => k_is)
  (case kce16 => k_is)
  (case sae16 => k_is)
  (case gae16 => k_is)
  (case ghe16 => k_is)
  (case oe17 => k_is)
  (case kce17 => k_is)
  (case sae17 => k_is)
  (case gae17 => k_is)
  (case ghe17 => k_is)
  (case oe18 => k_is)
  (case kce18 => k_is)
  (case sae18 => k_is)
  (case gae18 => k_is)
  (case ghe18 => k_is)
  (case oe19 => k_is)
  (case kce19 => k_is)
  (case sae19 => k_is)
  (case gae19 => k_is)
  (case ghe19 => k_is)
  (case oe20 => k_is)
  (case kce20 => k_is)
  (case sae20 => k_is)
  (case gae20 => k_is)
  (case ghe20 => k_is)
  (case spM => k_is)
  (case rdM => k_is)
  (case fcM => k_is)
  (case nfe0 => k_is)
  (case nfe1 => k_is)
  (case nfe2 => k_is)
  (case nfe3 => k_is)
  (case nfe4 => k_is)
  (case nfe5 => k_is)
  (case nfe6 => k_is)
  (case nfe7 => k_is)
  (case nfe8 => k_is)
  (case nfe9 => k_is)
  (case nfe10 => k_is)
  (case nfe11 => k_is)
  (case nfe12 => k_is)
  (case nfe13 => k_is)
  (case nfe14 => k_is)
  (case nfe15 => k_is)
  (case nfe16 => k_is)
  (case nfe17 => k_is)
  (case nfe19 => k_is)
  (case nfe20 => k_is)
  (case exn => kts_exm)
  (case nfx => k_is)
  (case fcM0 => k_is)
  (case fce0 => k_is)
  (case fce1 => k_is)
  (case fce2 => k_is)
  (case fce3 => k_is)
  (case fce4 => k_is)
  (case fce5 => k_is)
  (case fce6 => k_is)
  (case fce7 => k_is)
  (case fce8 => k_is)
  (case fce9 => k_is)
  (case fce10 => k_is)
  (case fce11 => k_is)
  (case fce12 => k_is)
  (case fce13 => k_is)
  (case fce14 => k_is)
  (case fce15 => k_is)
  (case fce16 => k_is)
  (case fce17 => k_is)
  (case fce18 => k_is)
  (case fce19 => k_is)
  (case fce20 => k_is)
  (case ndp => first | rfl | decide +kernel)
  (case z_isinstance => k_is)
  (case z_int => k_is)
  (case z_bool => k_is)
  (case z_len => k_is)
  (case z_list => k_is)
  (case z_range => k_is)
  (case z_repr => k_is)
  (case z_tuple => k_is)
  (case z_max => k_is)
  (case z_min => k_is)
  (case z_ValueError => k_is)
  (case s_i_non => k_is)
  (case s_i_bool => k_is)
  (case s_i_str => k_is)
  (case s_i_list => k_is)
  (case s_i_tup => k_is)
  (case s_i_dict => k_is)
  (case s_b_non => k_is)
  (case s_b_int => k_is)
  (case s_b_str => k_is)
  (case s_b_list => k_is)
  (case s_b_tup => k_is)
  (case s_b_dict => k_is)
  (case s_t_non => k_is)
  (case s_t_bool => k_is)
  (case s_t_int => k_is)
  (case s_t_str => k_is)
  (case s_t_list => k_is)
  (case s_t_dict => k_is)
  (case s_l_non => k_is)
  (case s_l_bool => k_is)
  (case s_l_int => k_is)
  (case s_l_str => k_is)
  (case s_l_tup => k_is)
  (case s_l_dict => k_is)
set_option maxRecDepth 100000 in
set_option maxHeartbeats 0 in
theorem PySem.Challenge.cw_alwaysmeet_k06_refusals_apart_holds : PySem.Challenge.rw_alwaysmeet_k06_refusals_apart.Holds := by
  w_on; o_law
  refine holds_open (q := HD.Q) (loose := HD.L) (Xt := HD.Xt) (XP := fun _ _ => True) (Yf := Hook.obs (kHook HD.mk.heap_39 HD.as (fun _ => by kernel_rfl))) (Ya := Hook.val (kHook HD.mk.heap_39 HD.as (fun _ => by kernel_rfl))) (YP := Hook.says (kHook HD.mk.heap_39 HD.as (fun _ => by kernel_rfl))) (N := 8000) ?hl (Hook.of (kHook HD.mk.heap_39 HD.as (fun _ => by kernel_rfl))) (Hook.keeps (kHook HD.mk.heap_39 HD.as (fun _ => by kernel_rfl))) (fun _ _ => trivial) (fun _ _ _ _ _ => trivial) (by rfl) (by rfl) (by rfl) (fun s e => recFacts_of e) (by rfl) (by first | assumption | decide +kernel) (by decide +kernel) ⟨rfl, rfl, rfl, rfl, rfl, by decide +kernel⟩ ?hw ?hc
  (case hl => exact HT.left_of2 (by kernel_rfl) (by decide) (fun s => by kernel_rfl) HD.chk HD.ob)
  (case hw => w_witness2)
  k_fill
  refine S.walk (l := PySem.Challenge.rw_alwaysmeet_k06_refusals_apart) rfl rfl (fun w h Y => PySem.W.kIn_of Y) ?F
  case F =>
    intro w mg fa h KX G hmg
    exact HD.facts w mg fa h KX G hmg
