import PyProof.Rows.All
import Wide.All
import OpenK.AllK
import Wide.FinOn
import Lean
import PyProof.EqAt
import PyProof.EqKinds
import PyProof.TupleCall
import KE.LcSums
import PyProof.FString5
import KE.KTryMore
import PyProof.StationsW
import PyProof.Rows.Range3
import KE.KRevIter
import PyProof.StrBlock2
import PyProof.P3In
import PyProof.Rows.SumAny
import PySem.Challenge.RW_annals_k12_spans_and_patched
-- CHANGE: your row's module here, as the last of these rows
set_option Elab.async false
set_option linter.all false
set_option maxRecDepth 100000
/-! THE HAND LAYER, for ints, bools, texts, own classes, LISTS and tuples (index, slices, in, append, pop ..), calls, loops. Paste it whole ahead of your own text; what your proof does not reach may be deleted. -/
namespace L2
open PySem PySem.Spec PyProof.Rows

/-- a key: an int or a str -/
abbrev Key := Sum Int Str
def keyIs : Key → Value → Bool
  | .inl k, v => Value.isInt k v
  | .inr x, v => Value.isStrOf x v
def keyH (w : World) : Key → Int
  | .inl k => hashInt k
  | .inr x => hashStr w x
theorem keyIs_shape : ∀ {k : Key} {v : Value}, keyIs k v = true → (∃ i t, k = Sum.inl i ∧ v = Value.int i t) ∨ (∃ x t, k = Sum.inr x ∧ v = Value.str x t)
  | .inl i, v, h => by
    obtain ⟨t, e⟩ := Value.isInt_shape (k := i) (v := v) h
    exact .inl ⟨i, t, rfl, e⟩
  | .inr x, v, h => by
    obtain ⟨t, e⟩ := Value.isStrOf_shape (x := x) (v := v) h
    exact .inr ⟨x, t, rfl, e⟩
theorem keyIs_int (i : Int) (t : Tok) : keyIs (.inl i) (.int i t) = true := by simp [keyIs, Value.isInt]
theorem keyIs_str (x : Str) (t : Tok) : keyIs (.inr x) (.str x t) = true := by simp [keyIs, Value.isStrOf]
theorem key_ll (a b : Int) : decide ((Sum.inl a : Key) = Sum.inl b) = (a == b) := by
  by_cases e : a = b
  · subst e; simp
  · have h : ¬ (Sum.inl a : Key) = Sum.inl b := fun q => e (Sum.inl.inj q)
    rw [decide_eq_false h]
    exact (beq_eq_false_iff_ne.mpr e).symm
theorem key_rr (a b : Str) : decide ((Sum.inr a : Key) = Sum.inr b) = decide (a = b) := by
  by_cases e : a = b
  · subst e; simp
  · have h : ¬ (Sum.inr a : Key) = Sum.inr b := fun q => e (Sum.inr.inj q)
    rw [decide_eq_false h, decide_eq_false e]
theorem key_lr (a : Int) (b : Str) : decide ((Sum.inl a : Key) = Sum.inr b) = false := decide_eq_false (fun q => nomatch q)
theorem key_rl (a : Str) (b : Int) : decide ((Sum.inr a : Key) = Sum.inl b) = false := decide_eq_false (fun q => nomatch q)

def mixKind (prog : Program) (w : World) : PySem.KeyKind prog w Key where
  is := keyIs
  hash := keyH w
  inj := fun v a b ha hb => by
    rcases keyIs_shape ha with ⟨i, t, rfl, rfl⟩ | ⟨x, t, rfl, rfl⟩
    · rcases keyIs_shape hb with ⟨j, u, rfl, e⟩ | ⟨y, u, rfl, e⟩
      · injection e with e1 _; rw [e1]
      · exact nomatch e
    · rcases keyIs_shape hb with ⟨j, u, rfl, e⟩ | ⟨y, u, rfl, e⟩
      · exact nomatch e
      · injection e with e1 _; rw [e1]
  byValue := fun k v h => by
    rcases keyIs_shape h with ⟨i, t, rfl, rfl⟩ | ⟨x, t, rfl, rfl⟩ <;> rfl
  pyHash := fun hv h => by
    rcases keyIs_shape hv with ⟨i, t, rfl, rfl⟩ | ⟨x, t, rfl, rfl⟩
    · exact wpAny_pyHash_int h
    · exact wpAny_pyHash_str h
  eqBool := fun hu hv h => by
    rcases keyIs_shape hu with ⟨i, t, rfl, rfl⟩ | ⟨x, t, rfl, rfl⟩
    · rcases keyIs_shape hv with ⟨j, u, rfl, rfl⟩ | ⟨y, u, rfl, rfl⟩
      · rw [key_ll] at h; exact wpAny_eqBool_int h
      · rw [key_lr] at h; exact SeqAt.EqAt.int_str i t y u _ _ _ _ h
    · rcases keyIs_shape hv with ⟨j, u, rfl, rfl⟩ | ⟨y, u, rfl, rfl⟩
      · rw [key_rl] at h; exact SeqAt.EqAt.str_int x t j u _ _ _ _ h
      · rw [key_rr] at h; exact wpAny_eqBool_str h
  «strs» := fun k x t v h => by
    rcases keyIs_shape h with ⟨i, u, rfl, e⟩ | ⟨y, u, rfl, e⟩
    · exact nomatch e
    · injection e with e1 _
      subst e1
      cases v <;> rfl

theorem mixKind_is (prog : Program) (w : World) (k : Key) (v : Value) : (mixKind prog w).is k v = keyIs k v := rfl
theorem mixKind_int (prog : Program) (w : World) (i : Int) (t : Tok) : (mixKind prog w).is (.inl i) (.int i t) = true := keyIs_int i t
theorem mixKind_str (prog : Program) (w : World) (x : Str) (t : Tok) : (mixKind prog w).is (.inr x) (.str x t) = true := keyIs_str x t
end L2

namespace L2
open PySem PySem.Spec PyProof.Rows

/-- a value, without the heap -/
inductive V where
  | non | bl (b : Bool) | int (i : Int) | str (x : Str) | byt (b : Array UInt8) | flt (b : UInt64) | ref (a : Addr) | ty (n : String)
  deriving DecidableEq

def RelV : V → Value → Prop
  | .non, u => u = Value.none
  | .bl b, u => u = Value.bool b
  | .int i, u => ∃ t, u = Value.int i t
  | .str x, u => ∃ t, u = Value.str x t
  | .byt b, u => ∃ t, u = Value.bytes b t
  | .flt b, u => ∃ t, u = Value.float b t
  | .ref a, u => u = Value.ref a
  | .ty n, u => u = Value.type n

abbrev Vals : List V → List Value → Prop := Paired RelV
theorem Vals.length {xs : List V} {us : List Value} (r : Vals xs us) : xs.length = us.length := Paired.length r
theorem Vals.get : ∀ {xs : List V} {us : List Value} {i : Nat} {x : V}, Vals xs us → xs[i]? = some x → ∃ u, us[i]? = some u ∧ RelV x u
  | _, _, _, _, .nil, e => by simp at e
  | _, _, 0, _, .cons r _, e => by simp at e; subst e; exact ⟨_, rfl, r⟩
  | _, _, i + 1, x, .cons _ t, e => by
    obtain ⟨u, h1, h2⟩ := Vals.get (i := i) (x := x) t (by simpa using e)
    exact ⟨u, by simpa using h1, h2⟩
theorem Vals.set {x : V} {u : Value} (r : RelV x u) : ∀ {xs : List V} {us : List Value} (i : Nat), Vals xs us → Vals (xs.set i x) (us.set i u)
  | _, _, _, .nil => .nil
  | _, _, 0, .cons _ t => .cons r t
  | _, _, i + 1, .cons q t => .cons q (Vals.set r i t)
theorem Vals.append : ∀ {xs ys : List V} {us ws : List Value}, Vals xs us → Vals ys ws → Vals (xs ++ ys) (us ++ ws)
  | _, _, _, _, .nil, s => s
  | _, _, _, _, .cons r t, s => .cons r (Vals.append t s)
theorem Vals.take : ∀ {xs : List V} {us : List Value} (n : Nat), Vals xs us → Vals (xs.take n) (us.take n)
  | _, _, 0, _ => .nil
  | _, _, _ + 1, .nil => .nil
  | _, _, n + 1, .cons r t => .cons r (Vals.take n t)
theorem Vals.drop : ∀ {xs : List V} {us : List Value} (n : Nat), Vals xs us → Vals (xs.drop n) (us.drop n)
  | _, _, 0, r => r
  | _, _, _ + 1, .nil => .nil
  | _, _, n + 1, .cons _ t => Vals.drop n t
theorem Vals.none_of : ∀ {xs : List V} {us : List Value} {i : Nat}, Vals xs us → xs[i]? = none → us[i]? = none := fun {xs us i} r e => by
  have h1 := r.length
  have h2 : xs.length ≤ i := List.getElem?_eq_none_iff.mp e
  exact List.getElem?_eq_none_iff.mpr (by omega)

def RelO : Option V → Option Value → Prop
  | some v, some u => RelV v u
  | none, none => True
  | _, _ => False
def KV {κ : Type} : List (κ × V) → List (κ × Value) → Prop := Paired fun (p : κ × V) (q : κ × Value) => p.1 = q.1 ∧ RelV p.2 q.2

/-- a key of a dict (00_mix): an int or a text -/
def kV : Key → V
  | .inl i => .int i
  | .inr x => .str x

/-- what stands at a tracked address -/
inductive HO where
  /-- a list -/
  | lst (xs : List V)
  /-- a tuple (never changes) -/
  | tup (xs : List V)
  /-- a dict whose keys are ints and texts; one whose keys are tuples of ints and texts (the empty one is both) -/
  | dK (kvs : List (Key × V)) | dT (kvs : List (List Key × V))
  /-- a set of ints: its members, its size -/
  | set (S : Int → Bool) (n : Nat)
  /-- an instance of the class at C, its dict at dx, its attributes -/
  | ins (C dx : Addr) (fs : List (Str × V))
  /-- the dict of the instance at x -/
  | own (x : Addr)
  /-- the dict of an exception -/
  | xd (fs : List (Str × V))
  /-- a bound method, f of x -/
  | met (f x : Addr)
  /-- a range object lo, lo + 1, .. below hi -/
  | rng (lo hi : Int)
  /-- a thing that is known to the object (the script; a dict while a loop walks it): read, never written while it is so -/
  | frz (o : Obj) (u : HO)
  /-- a code object's table -/
  | tbl (ps : Array Value)
  /-- any other thing, by what is true of its one object (a def of one's own: SetO a S n := HO.ext fun h => ..) -/
  | ext (φ : Heap → Prop)

abbrev Hp := Addr → Option HO
def upd (H : Hp) (a : Addr) (o : HO) : Hp := fun b => if b = a then some o else H b
theorem upd_same {H : Hp} {a : Addr} {o : HO} : upd H a o a = some o := by unfold upd; rw [if_pos rfl]
theorem upd_ne {H : Hp} {a b : Addr} {o : HO} (h : b ≠ a) : upd H a o b = H b := by unfold upd; rw [if_neg h]
theorem upd_upd {H : Hp} {a : Addr} {o u : HO} : upd (upd H a o) a u = upd H a u := by
  funext b; unfold upd; split <;> rfl
/-- two objects of different content stand apart -/
theorem ne_of {H : Hp} {a b : Addr} {o u : HO} (h : H a = some o) (h' : H b = some u) (d : o ≠ u) : a ≠ b := by
  intro e; subst e; rw [h] at h'; exact d (Option.some.inj h')
theorem ne_of_none {H : Hp} {a b : Addr} {o : HO} (h : H a = some o) (h' : H b = none) : a ≠ b := by
  intro e; subst e; rw [h] at h'; cases h'

section
variable (P : Program) (w : World)
def ObjOk (H : Hp) (h : Heap) (a : Addr) : HO → Prop
  | .lst xs => xs.length ≤ sizeLine ∧ ∃ (its : List Value) (n : Nat), Vals xs its ∧ h.get? a = some { cls := .type "list", data := .seq its.toArray n }
  | .tup xs => xs.length ≤ sizeLine ∧ ∃ its : List Value, Vals xs its ∧ IsTup h a its.toArray
  | .dK kvs => kvs.length ≤ sizeLine ∧ (a == sysModules) = false ∧ ∃ vs, KV kvs vs ∧ h.DictOf (mixKind P w) a vs
  | .dT kvs => kvs.length ≤ sizeLine ∧ (a == sysModules) = false ∧ ∃ xs : List (List Key × Addr × Value),
      Paired (fun (p : List Key × V) (q : List Key × Addr × Value) => p.1 = q.1 ∧ H q.2.1 = some (.tup (p.1.map kV)) ∧ RelV p.2 q.2.2) kvs xs ∧
      ∃ o es ep, h.get? a = some o ∧ o.ExactDict ∧ o.data = .dict es ep ∧ es.toList = xs.map (entryOfKey (tupleKind (mixKind P w))) ∧ (xs.map (·.1)).Nodup
  | .set S n => h.SetOf (intKind P w) a S n
  | .ins C dx fs => H dx = some (.own a) ∧ fs.length ≤ 1000 ∧ dx ≠ a ∧ h.get? a = some (PySem.W.instObj C dx) ∧
      ∃ mA, h.Ns1 dx mA ∧ (∀ f, RelO (fs.lookup f) (mA f)) ∧ PySem.Within mA (fs.map (·.1))
  | .own _ => ∃ o, h.get? a = some o
  | .xd fs => ∃ mA, h.Ns1 a mA ∧ ∀ f, RelO (fs.lookup f) (mA f)
  | .rng lo hi => ∃ t u v, h.get? a = some { cls := .type "range", data := .fields #[.int lo t, .int hi u, .int 1 v] }
  | .frz o u => h.get? a = some o ∧ ObjOk H h a u
  | .tbl ps => h.get? a = some { cls := .none, data := .fields ps }
  | .met f x => h.get? a = some (PySem.W.methodObj (.ref f) (.ref x))
  | .ext φ => φ h ∧ (∃ o, h.get? a = some o) ∧ ∀ h1 h2 : Heap, φ h1 → (∀ o, h1.get? a = some o → h2.get? a = some o) → φ h2
/-- the abstract heap is held -/
def HOk (H : Hp) (h : Heap) : Prop := ∀ a o, H a = some o → ObjOk P w H h a o
end

section
variable {P : Program} {w : World} {H H' : Hp} {h h' : Heap} {a : Addr} {o : HO}
theorem ObjOk.lt (x : ObjOk P w H h a o) : a < h.objs.size := by
  cases o with
  | lst xs => obtain ⟨_, _, _, _, e⟩ := x; exact Heap.lt_size e
  | tup xs => obtain ⟨_, _, _, p⟩ := x; exact p.lt
  | dK kvs => obtain ⟨_, _, _, _, o, _, _, e, _⟩ := x; exact Heap.lt_size e
  | dT kvs => obtain ⟨_, _, _, _, o, _, _, e, _⟩ := x; exact Heap.lt_size e
  | set S n => obtain ⟨o, _, _, _, e, _⟩ := x; exact Heap.lt_size e
  | ins C dx fs => obtain ⟨_, _, _, e, _⟩ := x; exact Heap.lt_size e
  | own y => obtain ⟨_, e⟩ := x; exact Heap.lt_size e
  | xd fs => obtain ⟨_, ⟨_, _, _, e, _⟩, _⟩ := x; exact Heap.lt_size e
  | rng lo hi => obtain ⟨_, _, _, e⟩ := x; exact Heap.lt_size e
  | frz ob u => obtain ⟨e, _⟩ := x; exact Heap.lt_size e
  | tbl ps => exact Heap.lt_size (show h.get? a = some _ from x)
  | met f y => exact Heap.lt_size (show h.get? a = some _ from x)
  | ext φ => obtain ⟨_, ⟨_, e⟩, _⟩ := x; exact Heap.lt_size e
theorem Paired.mapP {α β : Type} {F G : α → β → Prop} : ∀ {l₁ : List α} {l₂ : List β}, Paired F l₁ l₂ → (∀ a b, F a b → G a b) → Paired G l₁ l₂
  | _, _, .nil, _ => .nil
  | _, _, .cons r t, f => .cons (f _ _ r) (Paired.mapP t f)
theorem Paired.imp' {α β : Type} {F G : α → β → Prop} (f : ∀ a b, F a b → G a b) {l₁ : List α} {l₂ : List β} (r : Paired F l₁ l₂) : Paired G l₁ l₂ := Paired.mapP r f
/-- what an object's description leans on: its own object, its own dict, the tuples -/
theorem ObjOk.stay (x : ObjOk P w H h a o) (k : ∀ b u, (b = a ∨ H b = some (.own a)) → h.get? b = some u → h'.get? b = some u)
    (ho : ∀ b, H b = some (.own a) → H' b = some (.own a)) (ht : ∀ b xs, H b = some (.tup xs) → H' b = some (.tup xs)) : ObjOk P w H' h' a o := by
  induction o with
  | lst xs => obtain ⟨z, its, n, r, e⟩ := x; exact ⟨z, its, n, r, k _ _ (.inl rfl) e⟩
  | tup xs => obtain ⟨z, its, r, ob, e, c⟩ := x; exact ⟨z, its, r, ob, k _ _ (.inl rfl) e, c⟩
  | dK kvs => obtain ⟨z, y, vs, r, ob, es, ep, e, c⟩ := x; exact ⟨z, y, vs, r, ob, es, ep, k _ _ (.inl rfl) e, c⟩
  | dT kvs =>
    obtain ⟨z, y, xs, r, ob, es, ep, e, c⟩ := x
    exact ⟨z, y, xs, Paired.mapP r fun p q z => ⟨z.1, ht _ _ z.2.1, z.2.2⟩, ob, es, ep, k _ _ (.inl rfl) e, c⟩
  | set S n => obtain ⟨ob, es, ep, t, e, c⟩ := x; exact ⟨ob, es, ep, t, k _ _ (.inl rfl) e, c⟩
  | ins C dx fs =>
    obtain ⟨d, z, ne, e, mA, ⟨od, es, ep, e2, c⟩, r⟩ := x
    exact ⟨ho _ d, z, ne, k _ _ (.inl rfl) e, mA, ⟨od, es, ep, k _ _ (.inr d) e2, c⟩, r⟩
  | own y => obtain ⟨ob, e⟩ := x; exact ⟨ob, k _ _ (.inl rfl) e⟩
  | xd fs => obtain ⟨mA, ⟨od, es, ep, e, c⟩, r⟩ := x; exact ⟨mA, ⟨od, es, ep, k _ _ (.inl rfl) e, c⟩, r⟩
  | rng lo hi => obtain ⟨t, u, v, e⟩ := x; exact ⟨t, u, v, k _ _ (.inl rfl) e⟩
  | frz ob u ih => obtain ⟨e, q⟩ := x; exact ⟨k _ _ (.inl rfl) e, ih q⟩
  | tbl ps =>
    have e : h.get? a = some { cls := .none, data := .fields ps } := x
    show h'.get? a = some { cls := .none, data := .fields ps }
    exact k a _ (.inl rfl) e
  | met f y =>
    have e : h.get? a = some (PySem.W.methodObj (.ref f) (.ref y)) := x
    show h'.get? a = some (PySem.W.methodObj (.ref f) (.ref y))
    exact k a _ (.inl rfl) e
  | ext φ => obtain ⟨p, ⟨o, e⟩, st⟩ := x; exact ⟨st _ _ p fun o q => k _ _ (.inl rfl) q, ⟨o, k _ _ (.inl rfl) e⟩, st⟩
theorem HOk.lt (x : HOk P w H h) (e : H a = some o) : a < h.objs.size := (x a o e).lt
theorem HOk.fresh (x : HOk P w H h) (e : h.objs.size ≤ a) : H a = none := by
  cases q : H a with
  | none => rfl
  | some u => exact absurd (Nat.lt_of_lt_of_le (x.lt q) e) (Nat.lt_irrefl _)
/-- every object of the heap is kept -/
theorem HOk.kept (x : HOk P w H h) (k : ∀ b u, h.get? b = some u → h'.get? b = some u) : HOk P w H h' := fun a o e =>
  (x a o e).stay (fun b u _ q => k b u q) (fun _ q => q) fun _ _ q => q
/-- a new object is laid and tracked -/
theorem HOk.laid (x : HOk P w H h) (k : ∀ b u, h.get? b = some u → h'.get? b = some u) (hp : h.objs.size ≤ a) (new : ObjOk P w (upd H a o) h' a o) : HOk P w (upd H a o) h' := fun b u e => by
  have hn := x.fresh hp
  by_cases hb : b = a
  · subst hb; rw [upd_same] at e; cases e; exact new
  · rw [upd_ne hb] at e
    exact (x b u e).stay (fun c v _ q => k c v q) (fun c q => by rw [upd_ne (ne_of_none q hn)]; exact q) fun c xs q => by rw [upd_ne (ne_of_none q hn)]; exact q
end

/-- what may be read as u: it is u, or a known u -/
def Rd (H : Hp) (a : Addr) (u : HO) : Prop := H a = some u ∨ ∃ o, H a = some (.frz o u)
theorem Rd.of {H : Hp} {a : Addr} {u : HO} (h : H a = some u) : Rd H a u := .inl h
theorem Rd.ok {P : Program} {w : World} {H : Hp} {h : Heap} {a : Addr} {u : HO} (r : Rd H a u) (x : HOk P w H h) : ObjOk P w H h a u := by
  rcases r with r | ⟨o, r⟩
  · exact x a u r
  · obtain ⟨_, q⟩ := x a _ r
    exact q
/-- what may be written -/
def Mut : Option HO → Prop
  | some (.lst _) => True
  | some (.dK _) => True
  | some (.dT _) => True
  | some (.set _ _) => True
  | some (.ins _ _ _) => True
  | some (.ext _) => True
  | _ => False
section
variable {P : Program} {w : World} {H : Hp} {h h' : Heap} {x e : Addr} {o' : HO}
/-- the object at e is changed: x itself, or the dict of the instance x -/
theorem HOk.write (ok : HOk P w H h) (mu : Mut (H x)) (he : e = x ∨ H e = some (.own x)) (k : ∀ b u, b ≠ e → h.get? b = some u → h'.get? b = some u) (heo : ∃ u, h'.get? e = some u)
    (new : ObjOk P w (upd H x o') h' x o') : HOk P w (upd H x o') h' := fun b u q => by
  have nown : ∀ c y, H c = some (.own y) → c ≠ x := fun c y r z => by subst z; rw [r] at mu; exact mu
  have ntup : ∀ c xs, H c = some (.tup xs) → c ≠ x := fun c xs r z => by subst z; rw [r] at mu; exact mu
  by_cases hb : b = x
  · subst hb; rw [upd_same] at q; cases q; exact new
  · rw [upd_ne hb] at q
    by_cases hbe : b = e
    · have q' : H b = some (.own x) := by
        rcases he with z | z
        · exact absurd (hbe.trans z) hb
        · rw [hbe]; exact z
      rw [q] at q'; cases q'
      obtain ⟨v, hv⟩ := heo
      exact ⟨v, by rw [hbe]; exact hv⟩
    · refine (ok b u q).stay (fun c v hc r => k c v ?_ r) (fun c r => by rw [upd_ne (nown c b r)]; exact r) fun c xs r => by rw [upd_ne (ntup c xs r)]; exact r
      rcases hc with rfl | hc
      · exact hbe
      · rintro rfl
        rcases he with z | z
        · exact nown c b hc z
        · rw [hc] at z; cases z; exact hb rfl
end

/-! ### kept unless tracked; of the frames at fs (the callers') the slots may change (an exception that passes writes there); of the records at ex (iterators) nothing is said -/
structure Un (fs ex : List Addr) (H H' : Hp) (h h' : Heap) : Prop where
  keep : ∀ b o, h.get? b = some o → H b = none → b ∉ fs → b ∉ ex → h'.get? b = some o
  slot : ∀ b o, h.get? b = some o → H b = none → b ∈ fs → b ∉ ex → ∃ sl, h'.get? b = some { o with slots := sl }
  free : ∀ b o, h.get? b = some o → H b = none → b ∉ ex → H' b = none
  there : ∀ b o, h.get? b = some o → b ∉ ex → ∃ o', h'.get? b = some o'
  tups : ∀ b xs, H b = some (.tup xs) → H' b = some (.tup xs)
  frzs : ∀ b o u, H b = some (.frz o u) → H' b = some (.frz o u)
  tbls : ∀ b ps, H b = some (.tbl ps) → ∃ more, H' b = some (.tbl (ps ++ more))
section
variable {fs fs' ex ex' : List Addr} {H H1 H2 : Hp} {h h1 h2 h' : Heap} {a x e : Addr} {o : HO}
theorem Un.any (u : Un fs ex H H1 h h1) {b : Addr} {ob : Obj} (q : h.get? b = some ob) (n : H b = none) (hx : b ∉ ex) : ∃ sl, h1.get? b = some { ob with slots := sl } := by
  by_cases hb : b ∈ fs
  · exact u.slot b ob q n hb hx
  · exact ⟨ob.slots, u.keep b ob q n hb hx⟩
theorem Un.trans (a : Un fs ex H H1 h h1) (b : Un fs ex H1 H2 h1 h2) : Un fs ex H H2 h h2 where
  keep := fun c ob q n hc hx => b.keep c ob (a.keep c ob q n hc hx) (a.free c ob q n hx) hc hx
  slot := fun c ob q n hc hx => by
    obtain ⟨sl, e1⟩ := a.slot c ob q n hc hx
    obtain ⟨sl', e2⟩ := b.slot c _ e1 (a.free c ob q n hx) hc hx
    exact ⟨sl', e2⟩
  free := fun c ob q n hx => by
    obtain ⟨o', e1⟩ := a.there c ob q hx
    exact b.free c o' e1 (a.free c ob q n hx) hx
  there := fun c ob q hx => by
    obtain ⟨o', e1⟩ := a.there c ob q hx
    exact b.there c o' e1 hx
  tups := fun c xs q => b.tups c xs (a.tups c xs q)
  frzs := fun c ob xs q => b.frzs c ob xs (a.frzs c ob xs q)
  tbls := fun c ps q => by
    obtain ⟨m1, e1⟩ := a.tbls c ps q
    obtain ⟨m2, e2⟩ := b.tbls c _ e1
    exact ⟨m1 ++ m2, by rw [e2, Array.append_assoc]⟩
theorem Un.kept (k : ∀ b u, h.get? b = some u → h'.get? b = some u) : Un fs ex H H h h' :=
  ⟨fun b ob q _ _ _ => k b ob q, fun b ob q _ _ _ => ⟨ob.slots, k b ob q⟩, fun _ _ _ n _ => n, fun b ob q _ => ⟨ob, k b ob q⟩, fun _ _ q => q, fun _ _ _ q => q, fun _ ps q => ⟨#[], by rw [q]; simp⟩⟩
theorem Un.refl : Un fs ex H H h h := Un.kept fun _ _ q => q
theorem Un.laid (k : ∀ b u, h.get? b = some u → h'.get? b = some u) (hp : h.objs.size ≤ a) (hn : H a = none) : Un fs ex H (upd H a o) h h' where
  keep := fun b u q _ _ _ => k b u q
  slot := fun b u q _ _ _ => ⟨u.slots, k b u q⟩
  free := fun b u q n _ => by rw [upd_ne (Nat.ne_of_lt (Nat.lt_of_lt_of_le (Heap.lt_size q) hp))]; exact n
  there := fun b u q _ => ⟨u, k b u q⟩
  tups := fun b xs q => by rw [upd_ne (ne_of_none q hn)]; exact q
  frzs := fun b u xs q => by rw [upd_ne (ne_of_none q hn)]; exact q
  tbls := fun b ps q => ⟨#[], by rw [upd_ne (ne_of_none q hn), q]; simp⟩
theorem Un.write (mu : Mut (H x)) (he : e = x ∨ H e = some (.own x)) (k : ∀ b u, b ≠ e → h.get? b = some u → h'.get? b = some u) (heo : ∃ u, h'.get? e = some u) : Un fs ex H (upd H x o) h h' := by
  have hx : ∀ b, H b = none → b ≠ x := fun b n z => by subst z; rw [n] at mu; exact mu
  have hb : ∀ b, H b = none → b ≠ e := fun b n z => by
    subst z
    rcases he with r | r
    · exact hx b n r
    · rw [n] at r; cases r
  have hm : ∀ b u, H b = some u → ¬ Mut (some u) → b ≠ x := fun b u q nm z => by subst z; rw [q] at mu; exact nm mu
  refine ⟨fun b u q n _ _ => k b u (hb b n) q, fun b u q n _ _ => ⟨u.slots, k b u (hb b n) q⟩, fun b u q n _ => by rw [upd_ne (hx b n)]; exact n, fun b u q _ => ?_,
    fun b xs q => by rw [upd_ne (hm b _ q fun z => z)]; exact q, fun b u xs q => by rw [upd_ne (hm b _ q fun z => z)]; exact q, fun b ps q => ⟨#[], by rw [upd_ne (hm b _ q fun z => z), q]; simp⟩⟩
  by_cases hbe : b = e
  · subst hbe; exact heo
  · exact ⟨u, k b u hbe q⟩
theorem Un.mono (u : Un fs ex H H1 h h1) (hs : ∀ b ∈ fs, b ∈ fs') (hx : ∀ b ∈ ex, b ∈ ex') : Un fs' ex' H H1 h h1 :=
  ⟨fun b ob q n hb he => u.keep b ob q n (fun z => hb (hs b z)) fun z => he (hx b z), fun _ _ q n _ he => u.any q n fun z => he (hx _ z), fun b ob q n he => u.free b ob q n fun z => he (hx b z), fun b ob q he => u.there b ob q fun z => he (hx b z), u.tups, u.frzs, u.tbls⟩
end

/-! ### the heap without what is tracked -/
def trk (h : Heap) (H : Hp) : List Addr := (List.range h.objs.size).filter fun a => (H a).isSome
def hidT (h : Heap) (H : Hp) : Heap := PySem.W.hideAll h (trk h H)
theorem hidT_size (h : Heap) (H : Hp) : (hidT h H).objs.size = h.objs.size := PySem.W.hideAll_size _ _
theorem hidT_get {h : Heap} {H : Hp} {b : Addr} {o : Obj} (e : h.get? b = some o) (n : H b = none) : (hidT h H).get? b = some o :=
  PySem.W.hideAll_get _ e fun hm => by
    have q : (H b).isSome = true := (List.mem_filter.mp hm).2
    rw [n] at q; simp at q
theorem of_hidT {h : Heap} {H : Hp} {b : Addr} {o : Obj} (e : (hidT h H).get? b = some o) : h.get? b = some o ∧ H b = none := by
  have e' : h.get? b = some o := PySem.W.of_hideAll (trk h H) e
  refine ⟨e', ?_⟩
  cases q : H b with
  | none => rfl
  | some x =>
    have hm : b ∈ trk h H := List.mem_filter.mpr ⟨List.mem_range.mpr (Heap.lt_size e'), by simp [q]⟩
    have z : (hidT h H).get? b = none := PySem.W.hideAll_none (trk h H) hm
    rw [z] at e; cases e

/-! ### OpenK's ledger, filled with every new object but one -/
def allNews (g h : Heap) (L : Addr) : List (Addr × Obj) := (List.range h.objs.size).filterMap fun a => if a = L ∨ (g.get? a).isSome = true then none else (h.get? a).map fun o => (a, o)
theorem mem_allNews {g h : Heap} {L a : Addr} {o : Obj} (h1 : a ≠ L) (h2 : g.get? a = none) (h3 : h.get? a = some o) : (a, o) ∈ allNews g h L :=
  List.mem_filterMap.mpr ⟨a, List.mem_range.mpr (Heap.lt_size h3), by simp [h1, h2, h3]⟩
theorem of_mem_allNews {g h : Heap} {L : Addr} {p : Addr × Obj} (hp : p ∈ allNews g h L) : p.1 ≠ L ∧ g.get? p.1 = none ∧ h.get? p.1 = some p.2 := by
  obtain ⟨b, _, e⟩ := List.mem_filterMap.mp hp
  split at e
  · cases e
  · rename_i hn
    cases q : h.get? b with
    | none => rw [q] at e; simp at e
    | some u =>
      rw [q] at e
      simp only [Option.map_some, Option.some.injEq] at e
      subst e
      refine ⟨fun z => hn (.inl z), ?_, q⟩
      show g.get? b = none
      cases r : g.get? b with
      | none => rfl
      | some v => exact (hn (.inr (by simp [r]))).elim
def rest (g h : Heap) (L d : Addr) : List (Addr × Obj) := (allNews g h L).filter fun p => decide (p.1 ≠ d)
theorem rest_ne {g h : Heap} {L d : Addr} : ∀ p ∈ rest g h L d, p.1 ≠ d := fun p hp => of_decide_eq_true (List.mem_filter.mp hp).2
theorem mem_rest {g h : Heap} {L d a : Addr} {o : Obj} (h1 : a ≠ L) (h2 : g.get? a = none) (h3 : h.get? a = some o) (h4 : a ≠ d) : (a, o) ∈ rest g h L d :=
  List.mem_filter.mpr ⟨mem_allNews h1 h2 h3, decide_eq_true h4⟩
theorem news_all {g h : Heap} {L : Addr} : News g L h (allNews g h L) := fun p hp => let ⟨a, b, c⟩ := of_mem_allNews hp; ⟨c, a, b⟩
theorem news_at {g h : Heap} {L d : Addr} {o : Obj} (h1 : d ≠ L) (h2 : g.get? d = none) (h3 : h.get? d = some o) : News g L h ((d, o) :: rest g h L d) := fun p hp => by
  rcases List.mem_cons.mp hp with rfl | hp
  · exact ⟨h3, h1, h2⟩
  · exact news_all p (List.mem_filter.mp hp).1
/-- behind a rule that changed d alone: all else but the frame is kept -/
theorem kept_of_news {g h h' : Heap} {L d : Addr} {m : Str → Option Value} (k : ∀ b o, g.get? b = some o → h.get? b = some o) (F : Fr g L h' m) (N : News g L h' (rest g h L d)) :
    ∀ b o, b ≠ L → b ≠ d → h.get? b = some o → h'.get? b = some o := fun b o h1 h2 e => by
  cases q : g.get? b with
  | some u =>
    have := k b u q
    rw [e] at this; cases this
    exact F.keep b _ q
  | none => exact (N (b, o) (mem_rest h1 q e h2)).1
end L2

namespace L2
open PySem PySem.Spec PyProof.Rows

/-- the module's facts, over the base: the heap at the law's entry without what is tracked there -/
structure Mod (K : PySem.W.Frag) (mg : Str → Option Value) (base : Heap) : Prop where
  kin : K.In base
  glob : base.Ns mainGlobals mg
  blt : ∃ mb, base.Ns builtinsNs mb ∧ ∀ x : Str, x ≠ "__name__" → mb x = bootBuiltins x
  nolimit : base.NoLimit

/-- the context: a def's body (or a comprehension's block) running. base: fixed through the whole law; s₀, H₀: the entry; outer: the frames whose slots others may change (a def's callers); stack: all frames that run;
   ex: iterators that were made ahead of the entry and are walked here (a comprehension's); fn: the names whose cells were made at the entry (a def: all; a comprehension's block: its own); calm: not within an except suite; pn: pins that every state bears; xe: what is wanted of an exception that leaves the code -/
structure Cx where
  prog : Program
  w : World
  K : PySem.W.Frag
  mg : Str → Option Value
  base : Heap
  A : Around
  N : List Str
  s₀ : Shared
  H₀ : Hp
  env : Env
  outer : List Env
  stack : List Env
  ex : List Addr
  fn : Str → Bool
  calm : Bool
  pn : List (Addr × Obj)
  xe : Value → Shared → Prop
/-- the callers' frames -/
def frs (l : List Env) : List Addr := l.filterMap (·.frame)
abbrev Cx.fs (X : Cx) : List Addr := frs X.outer

def Vis (sc : Scope) (x : Str) : Prop := sc.names.lookup x = some .local ∨ sc.names.lookup x = some .cell ∨ sc.names.lookup x = some .free
def Loc (sc : Scope) (x : Str) : Prop := sc.names.lookup x = some .local ∨ sc.names.lookup x = some .cell
def Look (env : Env) (h : Heap) (m : Str → Option Value) (x : Str) (u : Value) : Prop :=
  (env.kindOf x = some .local ∧ m x = some u) ∨ ((env.kindOf x = some .cell ∨ env.kindOf x = some .free) ∧ ∃ c, env.cells.lookup x = some c ∧ h.IsCell c (some u))

structure Cx.Ok (X : Cx) : Prop where
  mod : Mod X.K X.mg X.base
  kind : X.env.scope.kind = .function
  glob : X.env.globals = mainGlobals
  blt : X.env.builtins = builtinsNs
  above : X.s₀.heap.objs.size ≤ X.env.locals
  inj : ∀ x y c, X.env.cells.lookup x = some c → X.env.cells.lookup y = some c → x = y
  has : ∀ x, (X.env.kindOf x = some .cell ∨ X.env.kindOf x = some .free) → ∃ c, X.env.cells.lookup x = some c
  cab : ∀ x c, X.fn x = true → X.env.cells.lookup x = some c → X.s₀.heap.objs.size ≤ c
  hd : X.calm = true → X.A.handled = none
  frames : X.A.frames = some X.stack
  stk : X.stack = X.outer ∨ (X.stack = X.env :: X.outer ∧ X.env.frame = some X.env.locals)
  exf : ∀ b ∈ X.ex, b ≠ X.env.locals ∧ ∀ x c, X.env.cells.lookup x = some c → c ≠ b
  bs : ∀ b o, X.base.get? b = some o → X.s₀.heap.get? b = some o ∧ X.H₀ b = none
  bsz : X.base.objs.size ≤ X.s₀.heap.objs.size
  noex : ∀ b o, X.base.get? b = some o → b ∉ X.ex
  exfs : ∀ b ∈ X.ex, b ∉ X.fs
  funs : X.s₀.heap.FunFrames X.base X.outer
  frf : ∀ b ∈ X.fs, X.H₀ b = none

structure Inv (X : Cx) (pins : List (Addr × Obj)) (σ : List (Option V)) (H : Hp) (s : Shared) : Prop where
  ok : X.Ok
  os : s.os = X.s₀.os
  bare : AllBare s.gens
  base : Un X.fs X.ex X.H₀ H X.s₀.heap s.heap
  loc : ∃ m, s.heap.Ns X.env.locals m ∧ ∀ (i : Nat) (x : Str) (v : V), X.N[i]? = some x → σ[i]? = some (some v) → Vis X.env.scope x → ∃ u, RelV v u ∧ Look X.env s.heap m x u
  cell : ∀ x c, X.env.cells.lookup x = some c → ∃ v, s.heap.IsCell c v
  free : H X.env.locals = none
  freeC : ∀ x c, X.env.cells.lookup x = some c → H c = none
  pin : ∀ p ∈ X.pn ++ pins, s.heap.get? p.1 = some p.2 ∧ H p.1 = none ∧ p.1 ≠ X.env.locals ∧ p.1 ∉ X.fs ∧ ∀ v, p.2.data ≠ .cell v
  hok : HOk X.prog X.w H s.heap
  len : σ.length = X.N.length

section
variable {X : Cx} {pins : List (Addr × Obj)} {σ : List (Option V)} {H H' : Hp} {s : Shared} {h' : Heap}

theorem Cx.Ok.nofr (ok : X.Ok) {b : Addr} {o : Obj} (e : X.base.get? b = some o) : b ∉ X.fs := fun hb => by
  have := (ok.funs.mem hb).1
  rw [e] at this; cases this
theorem Inv.bs (I : Inv X pins σ H s) : ∀ b o, X.base.get? b = some o → s.heap.get? b = some o ∧ H b = none := fun b o e =>
  ⟨I.base.keep b o (I.ok.bs b o e).1 (I.ok.bs b o e).2 (I.ok.nofr e) (I.ok.noex b o e), I.base.free b o (I.ok.bs b o e).1 (I.ok.bs b o e).2 (I.ok.noex b o e)⟩
theorem Inv.bk (I : Inv X pins σ H s) : ∀ b o, X.base.get? b = some o → s.heap.get? b = some o := fun b o e => (I.bs b o e).1
theorem Inv.mod (I : Inv X pins σ H s) : Mod X.K X.mg X.base := I.ok.mod
theorem Inv.kIn (I : Inv X pins σ H s) : X.K.In s.heap := I.ok.mod.kin.keeps I.bk
theorem Inv.nolimit (I : Inv X pins σ H s) : s.heap.NoLimit := I.ok.mod.nolimit.keeps I.bk
/-- the frame over the base: for OpenK's rules (K.In X.base is I.mod.kin) -/
theorem Inv.fr (I : Inv X pins σ H s) : ∃ m, Fr X.base X.env.locals s.heap m :=
  let ⟨m, hn, _⟩ := I.loc
  ⟨m, hn, I.bk, Nat.le_trans I.ok.bsz I.ok.above⟩
theorem Inv.lt (I : Inv X pins σ H s) : X.env.locals < s.heap.objs.size := let ⟨_, hn, _⟩ := I.loc; hn.lt
theorem Inv.sz (I : Inv X pins σ H s) : X.s₀.heap.objs.size ≤ s.heap.objs.size := Nat.le_trans I.ok.above (Nat.le_of_lt I.lt)
theorem Inv.nofs (I : Inv X pins σ H s) {a : Addr} (h : s.heap.objs.size ≤ a) : a ∉ X.fs := fun hb => by
  obtain ⟨_, o, ho, _⟩ := I.ok.funs.mem hb
  exact absurd (Nat.lt_of_lt_of_le (Heap.lt_size ho) (Nat.le_trans I.sz h)) (Nat.lt_irrefl _)
theorem Inv.cne (I : Inv X pins σ H s) : ∀ x c, X.env.cells.lookup x = some c → c ≠ X.env.locals := fun x c e z => by
  obtain ⟨v, o, ho, hd⟩ := I.cell x c e
  obtain ⟨m, ⟨o', es, ep, ho', hd', _⟩, _⟩ := I.loc
  rw [z, ho'] at ho; cases ho; rw [hd'] at hd; cases hd
theorem Inv.funs (I : Inv X pins σ H s) : s.heap.FunFrames X.base X.outer := by
  have all : ∀ (l : List Env), (∀ b ∈ frs l, b ∈ X.fs) → X.s₀.heap.FunFrames X.base l → s.heap.FunFrames X.base l := by
    intro l
    induction l with
    | nil => intro _ _; trivial
    | cons env r ih =>
      intro hs hl
      obtain ⟨hk, ⟨L, o, hf, hn, ho, hd⟩, hr⟩ := hl
      have hL : L ∈ X.fs := hs L (by unfold frs; rw [List.filterMap_cons, hf]; exact List.mem_cons_self)
      obtain ⟨sl, e⟩ := I.base.slot L o ho (I.ok.frf L hL) hL fun z => I.ok.exfs L z hL
      exact ⟨hk, ⟨L, _, hf, hn, e, hd⟩, ih (fun b hb => hs b (by unfold frs; rw [List.filterMap_cons, hf]; exact List.mem_cons_of_mem _ hb)) hr⟩
  exact all X.outer (fun _ hb => hb) I.ok.funs

/-- the frames that run, for a call -/
theorem Inv.stack (I : Inv X pins σ H s) : s.heap.FunFrames X.base X.stack := by
  rcases I.ok.stk with e | ⟨e, hf⟩
  · rw [e]; exact I.funs
  · rw [e]
    obtain ⟨m, hn, _⟩ := I.loc
    refine .cons (by rw [I.ok.kind]; decide) hf hn ?_ I.funs
    exact Heap.get?_none_of_le (Nat.le_trans I.ok.bsz I.ok.above)
theorem Inv.stkSub (I : Inv X pins σ H s) : ∀ b ∈ frs X.stack, b ∈ X.env.locals :: X.fs := fun b hb => by
  rcases I.ok.stk with e | ⟨e, hf⟩
  · rw [e] at hb; exact List.mem_cons_of_mem _ hb
  · rw [e] at hb
    unfold frs at hb
    rw [List.filterMap_cons, hf] at hb
    exact hb
theorem Inv.stkFree (I : Inv X pins σ H s) : ∀ b ∈ frs X.stack, H b = none := fun b hb => by
  rcases List.mem_cons.mp (I.stkSub b hb) with e | hb
  · rw [e]; exact I.free
  · obtain ⟨_, o, ho, _⟩ := I.ok.funs.mem hb
    exact I.base.free b o ho (I.ok.frf b hb) fun z => I.ok.exfs b z hb

/-- THE STEP: the untracked objects but the frame and the records at ch are kept (the callers' frames up to slots), the frame's map is kept, the new abstract heap is held -/
theorem Inv.step {g' : Array GenState} {t' : Nat} {d' : Drawn} {ch : List Addr} (I : Inv X pins σ H s)
    (hch : ∀ b ∈ ch, (b ∈ X.ex ∨ X.s₀.heap.objs.size ≤ b) ∧ b ≠ X.env.locals ∧ (∀ x c, X.env.cells.lookup x = some c → c ≠ b) ∧ ∀ p ∈ X.pn ++ pins, p.1 ≠ b)
    (keep : ∀ b o, b ≠ X.env.locals → b ∉ X.fs → b ∉ ch → s.heap.get? b = some o → H b = none → h'.get? b = some o)
    (slot : ∀ b o, b ≠ X.env.locals → b ∈ X.fs → b ∉ ch → s.heap.get? b = some o → H b = none → ∃ sl, h'.get? b = some { o with slots := sl }) (free : ∀ b o, b ∉ ch → s.heap.get? b = some o → H b = none → H' b = none)
    (there : ∀ b o, b ∉ ch → s.heap.get? b = some o → ∃ o', h'.get? b = some o')
    (tups : ∀ b xs, H b = some (.tup xs) → H' b = some (.tup xs)) (frzs : ∀ b o u, H b = some (.frz o u) → H' b = some (.frz o u)) (tbls : ∀ b ps, H b = some (.tbl ps) → ∃ more, H' b = some (.tbl (ps ++ more)))
    (ns : ∀ m, s.heap.Ns X.env.locals m → h'.Ns X.env.locals m) (hok : HOk X.prog X.w H' h') (hg : AllBare g') :
    Inv X pins σ H' { s with heap := h', gens := g', drawn := d', toks := t' } := by
  have neL : ∀ b o, X.s₀.heap.get? b = some o → b ≠ X.env.locals := fun b o e => Nat.ne_of_lt (Nat.lt_of_lt_of_le (Heap.lt_size e) I.ok.above)
  have neC : ∀ b o, X.s₀.heap.get? b = some o → b ∉ X.ex → b ∉ ch := fun b o e hx hb => by
    rcases (hch b hb).1 with z | z
    · exact hx z
    · exact absurd (Nat.lt_of_lt_of_le (Heap.lt_size e) z) (Nat.lt_irrefl _)
  have cellK : ∀ x c, X.env.cells.lookup x = some c → ∀ v, s.heap.IsCell c v → h'.IsCell c v := fun x c e v ⟨o, ho, hd⟩ => by
    have nch : c ∉ ch := fun z => (hch c z).2.2.1 x c e rfl
    by_cases hc : c ∈ X.fs
    · obtain ⟨sl, q⟩ := slot c o (I.cne x c e) hc nch ho (I.freeC x c e)
      exact ⟨_, q, hd⟩
    · exact ⟨o, keep c o (I.cne x c e) hc nch ho (I.freeC x c e), hd⟩
  refine ⟨I.ok, I.os, hg, ⟨fun b o e n hb hx => ?_, fun b o e n hb hx => ?_, fun b o e n hx => ?_, fun b o e hx => ?_, fun b xs e => tups b xs (I.base.tups b xs e), fun b o xs e => frzs b o xs (I.base.frzs b o xs e), fun b ps e => ?_⟩, ?_, fun x c e => ?_, ?_, fun x c e => ?_, fun p hp => ?_, hok, I.len⟩
  · exact keep b o (neL b o e) hb (neC b o e hx) (I.base.keep b o e n hb hx) (I.base.free b o e n hx)
  · obtain ⟨sl, e1⟩ := I.base.slot b o e n hb hx
    obtain ⟨sl', e2⟩ := slot b _ (neL b o e) hb (neC b o e hx) e1 (I.base.free b o e n hx)
    exact ⟨sl', e2⟩
  · obtain ⟨o', e1⟩ := I.base.there b o e hx
    exact free b o' (neC b o e hx) e1 (I.base.free b o e n hx)
  · obtain ⟨o', e1⟩ := I.base.there b o e hx
    exact there b o' (neC b o e hx) e1
  · obtain ⟨m1, e1⟩ := I.base.tbls b ps e
    obtain ⟨m2, e2⟩ := tbls b _ e1
    exact ⟨m1 ++ m2, by rw [e2, Array.append_assoc]⟩
  · obtain ⟨m, hn, hl⟩ := I.loc
    refine ⟨m, ns m hn, fun i x v e1 e2 e3 => ?_⟩
    obtain ⟨u, r, l⟩ := hl i x v e1 e2 e3
    refine ⟨u, r, ?_⟩
    rcases l with l | ⟨k, c, e, z⟩
    · exact .inl l
    · exact .inr ⟨k, c, e, cellK x c e _ z⟩
  · obtain ⟨v, z⟩ := I.cell x c e
    exact ⟨v, cellK x c e v z⟩
  · obtain ⟨m, ⟨o, _, _, ho, _⟩, _⟩ := I.loc
    exact free _ o (fun z => (hch _ z).2.1 rfl) ho I.free
  · obtain ⟨v, o, ho, hd⟩ := I.cell x c e
    exact free c o (fun z => (hch c z).2.2.1 x c e rfl) ho (I.freeC x c e)
  · obtain ⟨e, n, ne, nf, d⟩ := I.pin p hp
    have nch : p.1 ∉ ch := fun z => (hch p.1 z).2.2.2 p hp rfl
    exact ⟨keep p.1 p.2 ne nf nch e n, free p.1 p.2 nch e n, ne, nf, d⟩
/-- .. where the frame's own object is kept too -/
theorem Inv.un {t' : Nat} (I : Inv X pins σ H s) (u : Un X.fs [] H H' s.heap h') (hok : HOk X.prog X.w H' h') : Inv X pins σ H' { s with heap := h', toks := t' } := by
  obtain ⟨m, ⟨o, es, ep, ho, r⟩, _⟩ := id I.loc
  obtain ⟨sl, hL⟩ := u.any ho I.free (by simp)
  exact I.step (g' := s.gens) (d' := s.drawn) (ch := []) (fun _ z => nomatch z) (fun b o _ hb _ e n => u.keep b o e n hb (by simp)) (fun b o _ hb _ e n => u.slot b o e n hb (by simp)) (fun b o _ e n => u.free b o e n (by simp)) (fun b o _ e => u.there b o e (by simp)) u.tups u.frzs u.tbls (fun m' hm => by
    obtain ⟨o', es', ep', ho', r'⟩ := hm
    rw [ho] at ho'; cases ho'
    exact ⟨_, es', ep', hL, r'⟩) hok I.bare
/-- behind a call (or a comprehension's block): the slots of this frame may have changed too, the records at ch may have turned -/
theorem Inv.call {g' : Array GenState} {t' : Nat} {d' : Drawn} {ch : List Addr} (I : Inv X pins σ H s) (u : Un (frs X.stack) ch H H' s.heap h') (hok : HOk X.prog X.w H' h') (hg : AllBare g')
    (hch : ∀ b ∈ ch, (b ∈ X.ex ∨ X.s₀.heap.objs.size ≤ b) ∧ b ≠ X.env.locals ∧ (∀ x c, X.env.cells.lookup x = some c → c ≠ b) ∧ ∀ p ∈ X.pn ++ pins, p.1 ≠ b) :
    Inv X pins σ H' { s with heap := h', gens := g', drawn := d', toks := t' } := by
  obtain ⟨m, ⟨o, es, ep, ho, r⟩, _⟩ := id I.loc
  obtain ⟨sl, hL⟩ := u.any ho I.free fun z => (hch _ z).2.1 rfl
  exact I.step (ch := ch) hch (fun b o hL hb hc e n => u.keep b o e n (fun z => (List.mem_cons.mp (I.stkSub b z)).elim hL hb) hc) (fun b o _ _ hc e n => u.any e n hc) (fun b o hc e n => u.free b o e n hc) (fun b o hc e => u.there b o e hc) u.tups u.frzs u.tbls (fun m' hm => by
    obtain ⟨o', es', ep', ho', r'⟩ := hm
    rw [ho] at ho'; cases ho'
    exact ⟨_, es', ep', hL, r'⟩) hok hg
/-- an untracked record of ours (an iterator) has turned -/
theorem Inv.turned {t' : Nat} {it : Addr} (I : Inv X pins σ H s) (k : ∀ b o, b ≠ it → s.heap.get? b = some o → h'.get? b = some o) (hn : H it = none) (hL : it ≠ X.env.locals)
    (h1 : it ∈ X.ex ∨ X.s₀.heap.objs.size ≤ it) (h2 : ∀ x c, X.env.cells.lookup x = some c → c ≠ it) (h3 : ∀ p ∈ X.pn ++ pins, p.1 ≠ it) : Inv X pins σ H { s with heap := h', toks := t' } := by
  have nit : ∀ b u, H b = some u → b ≠ it := fun b u e z => by rw [z, hn] at e; cases e
  refine I.step (g' := s.gens) (d' := s.drawn) (ch := [it]) (fun b hb => ?_) (fun b o _ _ hc e _ => k b o (fun z => hc (by simp [z])) e) (fun b o _ _ hc e _ => ⟨o.slots, k b o (fun z => hc (by simp [z])) e⟩) (fun _ _ _ _ n => n)
    (fun b o hc e => ⟨o, k b o (fun z => hc (by simp [z])) e⟩) (fun _ _ e => e) (fun _ _ _ e => e) (fun b ps e => ⟨#[], by rw [e]; simp⟩) (fun m hm => ?_) (fun b u e => ?_) I.bare
  · have e : b = it := by simpa using hb
    subst e
    exact ⟨h1, hL, h2, h3⟩
  · obtain ⟨o, es, ep, ho, r⟩ := hm
    exact ⟨o, es, ep, k _ o (Ne.symm hL) ho, r⟩
  · refine (I.hok b u e).stay (fun c v hc q => k c v ?_ q) (fun _ q => q) fun _ _ q => q
    rcases hc with z | z
    · rw [z]; exact nit b u e
    · exact nit c _ z
theorem Inv.tok (I : Inv X pins σ H s) (t : Nat) : Inv X pins σ H { s with toks := t } := I.un (h' := s.heap) (t' := t) Un.refl I.hok
/-- all objects kept -/
theorem Inv.kept {t' : Nat} (I : Inv X pins σ H s) (k : ∀ b u, s.heap.get? b = some u → h'.get? b = some u) : Inv X pins σ H { s with heap := h', toks := t' } := I.un (Un.kept k) (I.hok.kept k)
/-- a new object laid and tracked -/
theorem Inv.laid {a : Addr} {o : HO} {t' : Nat} (I : Inv X pins σ H s) (k : ∀ b u, s.heap.get? b = some u → h'.get? b = some u) (hp : s.heap.objs.size ≤ a) (new : ObjOk X.prog X.w (upd H a o) h' a o) :
    Inv X pins σ (upd H a o) { s with heap := h', toks := t' } := I.un (Un.laid k hp (I.hok.fresh hp)) (I.hok.laid k hp new)
/-- an object written -/
theorem Inv.write {x e : Addr} {o : HO} {t' : Nat} (I : Inv X pins σ H s) (mu : Mut (H x)) (he : e = x ∨ H e = some (.own x)) (k : ∀ b u, b ≠ e → s.heap.get? b = some u → h'.get? b = some u) (heo : ∃ u, h'.get? e = some u)
    (new : ObjOk X.prog X.w (upd H x o) h' x o) : Inv X pins σ (upd H x o) { s with heap := h', toks := t' } := I.un (Un.write mu he k heo) (I.hok.write mu he k heo new)
/-- forgetting slots, pins -/
theorem Inv.weak {σ' : List (Option V)} (I : Inv X pins σ H s) (hl : σ'.length = σ.length) (w : ∀ (i : Nat) v, σ'[i]? = some (some v) → σ[i]? = some (some v)) : Inv X pins σ' H s :=
  ⟨I.ok, I.os, I.bare, I.base, let ⟨m, hn, hl'⟩ := I.loc; ⟨m, hn, fun i x v e1 e2 e3 => hl' i x v e1 (w i v e2) e3⟩, I.cell, I.free, I.freeC, I.pin, I.hok, hl.trans I.len⟩
theorem Inv.pins_of {pins' : List (Addr × Obj)} (I : Inv X pins σ H s) (h : ∀ p ∈ pins', s.heap.get? p.1 = some p.2 ∧ H p.1 = none ∧ p.1 ≠ X.env.locals ∧ p.1 ∉ X.fs ∧ ∀ v, p.2.data ≠ .cell v) : Inv X pins' σ H s :=
  ⟨I.ok, I.os, I.bare, I.base, I.loc, I.cell, I.free, I.freeC, fun p hp => (List.mem_append.mp hp).elim (fun z => I.pin p (List.mem_append_left _ z)) (h p), I.hok, I.len⟩

theorem nodup_ix {N : List Str} (hN : N.Nodup) {i j : Nat} {x : Str} (a : N[i]? = some x) (b : N[j]? = some x) : i = j := by
  obtain ⟨h1, e1⟩ := List.getElem?_eq_some_iff.mp a
  obtain ⟨h2, e2⟩ := List.getElem?_eq_some_iff.mp b
  exact (List.getElem_inj hN).mp (e1.trans e2.symm)

/-- a name is stored; what changed -/
theorem store_ok2 {M : Model} {A : Around} {E : Value → Shared → Prop} {i : Nat} {x : Str} {v : V} {u : Value} {Q : Unit → Shared → Prop} (I : Inv X pins σ H s) (hN : X.N.Nodup) (hi : X.N[i]? = some x) (hx : Loc X.env.scope x) (r : RelV v u)
    (h : ∀ s', Inv X pins (σ.set i (some v)) H s' → (∃ a, Heap.SameBut a s.heap s'.heap ∧ (a = X.env.locals ∨ X.env.cells.lookup x = some a)) → Q () s') (hf : X.fn x = true ∨ X.env.scope.names.lookup x = some .local := by first | exact .inl rfl | exact .inr rfl | assumption) : wpAny M A (storeName X.env x u) Q E s := by
  obtain ⟨m, hn, hl⟩ := id I.loc
  have hcls : (X.env.scope.kind == .class || (X.env.scope.kind == .module && X.env.locals != X.env.globals)) = false := by rw [I.ok.kind]; rfl
  have hiσ : i < σ.length := by rw [I.len]; exact (List.getElem?_eq_some_iff.mp hi).1
  have cne := I.cne
  have tracked : ∀ {a : Addr} {h' : Heap}, (∃ o, s.heap.get? a = some o ∧ H a = none) → Heap.SameBut a s.heap h' → HOk X.prog X.w H h' := fun {a h'} ha hs b ob e => by
    obtain ⟨_, _, hfree⟩ := ha
    refine (I.hok b ob e).stay (fun c w' hc q => (hs.2 c ?_).trans q) (fun _ q => q) fun _ _ q => q
    rintro rfl
    rcases hc with rfl | hc
    · rw [hfree] at e; cases e
    · rw [hfree] at hc; cases hc
  rcases hx with hk | hk
  · refine wpAny_storeName_local hk hn (fun h' hn' hs => ?_) hcls
    obtain ⟨oL, _, _, hoL, _⟩ := id hn
    refine h _ ⟨I.ok, I.os, I.bare, ⟨fun b o e n hb hx => ?_, fun b o e n hb hx => ?_, I.base.free, fun b o e hx => ?_, I.base.tups, I.base.frzs, I.base.tbls⟩, ⟨_, hn', fun j y v' e1 e2 e3 => ?_⟩, fun y c e => ?_, I.free, I.freeC, fun p hp => ?_, tracked ⟨oL, hoL, I.free⟩ hs, by simpa using I.len⟩ ⟨_, hs, .inl rfl⟩
    · exact (hs.2 b (Nat.ne_of_lt (Nat.lt_of_lt_of_le (Heap.lt_size e) I.ok.above))).trans (I.base.keep b o e n hb hx)
    · obtain ⟨sl, e1⟩ := I.base.slot b o e n hb hx
      exact ⟨sl, (hs.2 b (Nat.ne_of_lt (Nat.lt_of_lt_of_le (Heap.lt_size e) I.ok.above))).trans e1⟩
    · obtain ⟨o', e1⟩ := I.base.there b o e hx
      exact ⟨o', (hs.2 b (Nat.ne_of_lt (Nat.lt_of_lt_of_le (Heap.lt_size e) I.ok.above))).trans e1⟩
    · by_cases hj : j = i
      · subst hj
        rw [hi] at e1; cases e1
        rw [List.getElem?_set_self hiσ] at e2
        cases e2
        exact ⟨u, r, .inl ⟨hk, by simp⟩⟩
      · rw [List.getElem?_set_ne (Ne.symm hj)] at e2
        obtain ⟨u', r', q⟩ := hl j y v' e1 e2 e3
        refine ⟨u', r', ?_⟩
        rcases q with ⟨k, e⟩ | ⟨k, c, e, z⟩
        · refine .inl ⟨k, ?_⟩
          have : y ≠ x := fun e => hj (nodup_ix hN e1 (e ▸ hi))
          simp [this, e]
        · exact .inr ⟨k, c, e, z.sameBut hs (cne y c e)⟩
    · obtain ⟨w', z⟩ := I.cell y c e
      exact ⟨w', z.sameBut hs (cne y c e)⟩
    · obtain ⟨e, n, ne, nf, d⟩ := I.pin p hp
      exact ⟨(hs.2 p.1 ne).trans e, n, ne, nf, d⟩
  · have hfn : X.fn x = true := by
      rcases hf with z | z
      · exact z
      · rw [z] at hk; cases hk
    obtain ⟨c, hc⟩ := I.ok.has x (.inl hk)
    obtain ⟨w', z⟩ := I.cell x c hc
    refine wpAny_storeName_cell I.ok.kind hk hc z (fun h' hc' hs => ?_)
    obtain ⟨oc, hoc, hocd⟩ := id z
    refine h { s with heap := h' } ⟨I.ok, I.os, I.bare, ⟨fun b o e n hb hx => ?_, fun b o e n hb hx => ?_, I.base.free, fun b o e hx => ?_, I.base.tups, I.base.frzs, I.base.tbls⟩, ⟨m, hn.sameBut hs (Ne.symm (cne x c hc)), fun j y v' e1 e2 e3 => ?_⟩, fun y c' e => ?_, I.free, I.freeC, fun p hp => ?_, tracked ⟨oc, hoc, I.freeC x c hc⟩ hs, by simpa using I.len⟩ ⟨c, hs, .inr hc⟩
    · exact (hs.2 b (Nat.ne_of_lt (Nat.lt_of_lt_of_le (Heap.lt_size e) (I.ok.cab x c hfn hc)))).trans (I.base.keep b o e n hb hx)
    · obtain ⟨sl, e1⟩ := I.base.slot b o e n hb hx
      exact ⟨sl, (hs.2 b (Nat.ne_of_lt (Nat.lt_of_lt_of_le (Heap.lt_size e) (I.ok.cab x c hfn hc)))).trans e1⟩
    · obtain ⟨o', e1⟩ := I.base.there b o e hx
      exact ⟨o', (hs.2 b (Nat.ne_of_lt (Nat.lt_of_lt_of_le (Heap.lt_size e) (I.ok.cab x c hfn hc)))).trans e1⟩
    · by_cases hj : j = i
      · subst hj
        rw [hi] at e1; cases e1
        rw [List.getElem?_set_self hiσ] at e2
        cases e2
        exact ⟨u, r, .inr ⟨.inl hk, c, hc, hc'⟩⟩
      · rw [List.getElem?_set_ne (Ne.symm hj)] at e2
        obtain ⟨u', r', q⟩ := hl j y v' e1 e2 e3
        refine ⟨u', r', ?_⟩
        rcases q with q | ⟨k, c', e, z'⟩
        · exact .inl q
        · refine .inr ⟨k, c', e, z'.sameBut hs ?_⟩
          rintro rfl
          exact hj (nodup_ix hN e1 (I.ok.inj _ _ _ e hc ▸ hi))
    · by_cases hcc : c' = c
      · subst hcc; exact ⟨_, hc'⟩
      · obtain ⟨w2, z2⟩ := I.cell y c' e
        exact ⟨w2, z2.sameBut hs hcc⟩
    · obtain ⟨e, n, ne, nf, d⟩ := I.pin p hp
      refine ⟨(hs.2 p.1 ?_).trans e, n, ne, nf, d⟩
      intro q
      rw [q, hoc] at e
      have q' : oc = p.2 := Option.some.inj e
      exact d w' (by rw [← q']; exact hocd)
theorem store_ok {M : Model} {A : Around} {E : Value → Shared → Prop} {i : Nat} {x : Str} {v : V} {u : Value} {Q : Unit → Shared → Prop} (I : Inv X pins σ H s) (hN : X.N.Nodup) (hi : X.N[i]? = some x) (hx : Loc X.env.scope x) (r : RelV v u)
    (h : ∀ s', Inv X pins (σ.set i (some v)) H s' → Q () s') (hf : X.fn x = true ∨ X.env.scope.names.lookup x = some .local := by first | exact .inl rfl | exact .inr rfl | assumption) : wpAny M A (storeName X.env x u) Q E s :=
  store_ok2 I hN hi hx r (fun s' I' _ => h s' I') hf
/-- behind a call or a block, the state as it is -/
theorem Inv.call' {s' : Shared} {ch : List Addr} (I : Inv X pins σ H s) (ho : s'.os = s.os) (u : Un (frs X.stack) ch H H' s.heap s'.heap) (hok : HOk X.prog X.w H' s'.heap) (hg : AllBare s'.gens)
    (hch : ∀ b ∈ ch, (b ∈ X.ex ∨ X.s₀.heap.objs.size ≤ b) ∧ b ≠ X.env.locals ∧ (∀ x c, X.env.cells.lookup x = some c → c ≠ b) ∧ ∀ p ∈ X.pn ++ pins, p.1 ≠ b) : Inv X pins σ H' s' := by
  obtain ⟨h', g', d', t', o'⟩ := s'
  have e : o' = s.os := ho
  subst e
  exact I.call (g' := g') (t' := t') (d' := d') u hok hg hch
end

/-! ### the judgements -/
/-- an exception: its class, its own dict's address (where it has one), the abstract heap behind it -/
abbrev XK := Value → Option Addr → Hp → Prop
abbrev St := List (Option V)
abbrev VK := V → Hp → Prop
/-- an expression's reading; a test's; an argument list's -/
abbrev TE := St → Hp → VK → Prop
abbrev TT := St → Hp → (Bool → Hp → Prop) → Prop
abbrev TA := St → Hp → (List V → Hp → Prop) → Prop
/-- what is wanted behind a statement -/
structure Ends where
  nx : St → Hp → Prop
  rt : VK
  bk : St → Hp → Prop := fun _ _ => False
  ct : St → Hp → Prop := fun _ _ => False
abbrev TS := Ends → St → Hp → Prop

def EP (X : Cx) (pins : List (Addr × Obj)) (σ : St) (Q : VK) (u : Value) (s' : Shared) : Prop := ∃ v H', Inv X pins σ H' s' ∧ RelV v u ∧ Q v H'
def TP (X : Cx) (pins : List (Addr × Obj)) (σ : St) (Q : Bool → Hp → Prop) (b : Bool) (s' : Shared) : Prop := ∃ H', Inv X pins σ H' s' ∧ Q b H'
def AP (X : Cx) (pins : List (Addr × Obj)) (σ : St) (Q : List V → Hp → Prop) (us : List Value) (s' : Shared) : Prop := ∃ vs H', Inv X pins σ H' s' ∧ Vals vs us ∧ Q vs H'
def SP (X : Cx) (pins : List (Addr × Obj)) (D : Ends) (f : Flow) (s' : Shared) : Prop :=
  match f with
  | .next => ∃ σ' H', Inv X pins σ' H' s' ∧ D.nx σ' H'
  | .brk => ∃ σ' H', Inv X pins σ' H' s' ∧ D.bk σ' H'
  | .cont => ∃ σ' H', Inv X pins σ' H' s' ∧ D.ct σ' H'
  | .ret u => ∃ v σ' H', Inv X pins σ' H' s' ∧ RelV v u ∧ D.rt v H'

def PE (X : Cx) (e : Expr) (t : TE) : Prop :=
  ∀ (pins : List (Addr × Obj)) (s : Shared) (σ : St) (H : Hp) (Q : VK), Inv X pins σ H s → t σ H Q → wpAny (model X.prog X.w) X.A (eval e X.env) (EP X pins σ Q) X.xe s
def PT (X : Cx) (e : Expr) (t : TT) : Prop :=
  ∀ (pins : List (Addr × Obj)) (s : Shared) (σ : St) (H : Hp) (Q : Bool → Hp → Prop), Inv X pins σ H s → t σ H Q → wpAny (model X.prog X.w) X.A (isTrue e X.env (eval e X.env)) (TP X pins σ Q) X.xe s
/-- a test whatever its 'whole' is (and, or) -/
def PW (X : Cx) (e : Expr) (t : TT) : Prop :=
  ∀ (whole : Sem Value) (pins : List (Addr × Obj)) (s : Shared) (σ : St) (H : Hp) (Q : Bool → Hp → Prop), Inv X pins σ H s → t σ H Q → wpAny (model X.prog X.w) X.A (isTrue e X.env whole) (TP X pins σ Q) X.xe s
theorem PW.pt {X : Cx} {e : Expr} {t : TT} (h : PW X e t) : PT X e t := h _
/-- an argument list (no star), from the left -/
def PA (X : Cx) (es : List Expr) (t : TA) : Prop :=
  ∀ (pos : Pos) (pins : List (Addr × Obj)) (s : Shared) (σ : St) (H : Hp) (Q : List V → Hp → Prop), Inv X pins σ H s → t σ H Q → wpAny (model X.prog X.w) X.A (spliced (backTo pos (starEach es X.env))) (AP X pins σ Q) X.xe s
def PS (X : Cx) (st : Stmt) (t : TS) : Prop :=
  ∀ (pins : List (Addr × Obj)) (s : Shared) (σ : St) (H : Hp) (D : Ends), Inv X pins σ H s → t D σ H → wpAny (model X.prog X.w) X.A (exec st X.env) (SP X pins D) X.xe s
def PSs (X : Cx) (st : List Stmt) (t : TS) : Prop :=
  ∀ (pins : List (Addr × Obj)) (s : Shared) (σ : St) (H : Hp) (D : Ends), Inv X pins σ H s → t D σ H → wpAny (model X.prog X.w) X.A (execs st X.env) (SP X pins D) X.xe s
/-- weaken the end -/
theorem thn {α : Type} {t : Sem α} {Q Q' : α → Shared → Prop} {M : Model} {A : Around} {E : Value → Shared → Prop} {s : Shared} (h : wpAny M A t Q E s) (hQ : ∀ a s, Q a s → Q' a s) : wpAny M A t Q' E s := wpAny_mono h hQ fun _ _ x => x
end L2

namespace L2
open PySem PySem.Spec PyProof.Rows
section
variable {X : Cx}

/-- two expressions in a row -/
theorem bin {a b : Expr} {ta tb : TE} (ha : PE X a ta) (hb : PE X b tb) {pins : List (Addr × Obj)} {s : Shared} {σ : St} {H : Hp} {R : V → V → Hp → Prop} (I : Inv X pins σ H s) (h : ta σ H fun x H1 => tb σ H1 fun y H2 => R x y H2)
    {α : Type} {Q : α → Shared → Prop} {f : Value → Value → Sem α}
    (hf : ∀ v u s2 x y H2, Inv X pins σ H2 s2 → RelV x v → RelV y u → R x y H2 → wpAny (model X.prog X.w) X.A (f v u) Q X.xe s2) :
    wpAny (model X.prog X.w) X.A (eval a X.env) (fun v s₁ => wpAny (model X.prog X.w) X.A (eval b X.env) (fun u s₂ => wpAny (model X.prog X.w) X.A (f v u) Q X.xe s₂) X.xe s₁) X.xe s := by
  refine thn (ha pins s σ H _ I h) fun v s1 ⟨x, H1, I1, r1, q1⟩ => ?_
  refine thn (hb pins s1 σ H1 _ I1 q1) fun u s2 ⟨y, H2, I2, r2, q2⟩ => ?_
  exact hf v u s2 x y H2 I2 r1 r2 q2

/-! ### names and constants -/
def tVar (i : Nat) : TE := fun σ H Q => ∃ v, σ[i]? = some (some v) ∧ Q v H
def tC (v : V) : TE := fun _ H Q => Q v H
theorem pe_var {i : Nat} {x : Str} {pos : Pos} (hN : X.N[i]? = some x) (hv : Vis X.env.scope x) (hd : (x == ("__debug__" : Str)) = false := by decide) (hcd : (x == ("__classdict__" : Str)) = false := by decide) : PE X (.Name x pos) (tVar i) := by
  intro pins s σ H Q I h
  obtain ⟨v, e, h⟩ := h
  obtain ⟨m, hn, hl⟩ := I.loc
  obtain ⟨u, r, l⟩ := hl i x v hN e hv
  have fin : EP X pins σ Q u s := ⟨v, H, I, r, h⟩
  rcases l with ⟨hk, hm⟩ | ⟨hk, c, hc, hcell⟩
  · exact wpAny_Name (wpAny_loadName_local I.ok.kind hk hn hm fin) hd
  · rcases hk with hk | hk
    · exact wpAny_Name (wpAny_loadName_cell I.ok.kind hk hc hcell fin) hd
    · exact wpAny_Name (wpAny_loadName_free I.ok.kind hk hc hcell fin hcd) hd
theorem pe_int {i j pos} : PE X (.Constant (.int i) j pos) (tC (.int i)) := fun _ _ _ H _ I h => wpAny_Constant_int ⟨.int i, H, I.tok _, ⟨_, rfl⟩, h⟩
theorem pe_bl {b j pos} : PE X (.Constant (.bool b) j pos) (tC (.bl b)) := fun _ _ _ H _ I h => Constant_bool ⟨.bl b, H, I, rfl, h⟩
theorem pe_non {j pos} : PE X (.Constant .none j pos) (tC .non) := fun _ _ _ H _ I h => Constant_none ⟨.non, H, I, rfl, h⟩
theorem pe_str {x j pos} : PE X (.Constant (.str x) j pos) (tC (.str x)) := fun _ _ _ H _ I h => Calls.Constant_str ⟨.str x, H, I.tok _, ⟨_, rfl⟩, h⟩

/-- a global name of the def -/
def Gl (X : Cx) (x : Str) : Prop := X.env.kindOf x = some .globalImplicit
theorem ld_glob {E : Value → Shared → Prop} {pins : List (Addr × Obj)} {s : Shared} {σ : St} {H : Hp} {x : Str} {u : Value} {pos : Pos} {Q : Value → Shared → Prop} (I : Inv X pins σ H s) (hg : Gl X x) (hm : X.mg x = some u) (h : Q u s)
    (hd : (x == ("__debug__" : Str)) = false := by decide) : wpAny (model X.prog X.w) X.A (eval (.Name x pos) X.env) Q E s :=
  Calls.Name_function_global I.ok.kind hg (Calls.loadGlobal_global (by rw [I.ok.glob]; exact I.mod.glob.keeps I.bk) hm h) hd
theorem ld_blt {E : Value → Shared → Prop} {pins : List (Addr × Obj)} {s : Shared} {σ : St} {H : Hp} {x : Str} {u : Value} {pos : Pos} {Q : Value → Shared → Prop} (I : Inv X pins σ H s) (hg : Gl X x) (hm : X.mg x = none) (hv : bootBuiltins x = some u) (h : Q u s)
    (hn : x ≠ "__name__" := by decide) (hd : (x == ("__debug__" : Str)) = false := by decide) : wpAny (model X.prog X.w) X.A (eval (.Name x pos) X.env) Q E s := by
  obtain ⟨mb, h1, h2⟩ := I.mod.blt
  exact Calls.Name_function_global I.ok.kind hg (Calls.loadGlobal_builtin (by rw [I.ok.glob]; exact I.mod.glob.keeps I.bk) hm (by rw [I.ok.blt]; exact h1.keeps I.bk) ((h2 x hn).trans hv) h) hd
/-- a module's constant, a class, a function, as a value -/
theorem pe_glob {x : Str} {v : V} {u : Value} {pos : Pos} (hg : Gl X x) (hm : X.mg x = some u) (r : RelV v u) (hd : (x == ("__debug__" : Str)) = false := by decide) : PE X (.Name x pos) (tC v) :=
  fun _ _ _ H _ I h => ld_glob I hg hm ⟨v, H, I, r, h⟩ hd
theorem pe_bltn {x : Str} {v : V} {u : Value} {pos : Pos} (hg : Gl X x) (hm : X.mg x = none) (hv : bootBuiltins x = some u) (r : RelV v u) (hn : x ≠ "__name__" := by decide) (hd : (x == ("__debug__" : Str)) = false := by decide) : PE X (.Name x pos) (tC v) :=
  fun _ _ _ H _ I h => ld_blt I hg hm hv ⟨v, H, I, r, h⟩ hn hd

/-! ### arithmetic -/
/-- two ints -/
def t2I (ta tb : TE) (k : Int → Int → Hp → Prop) : St → Hp → Prop := fun σ H => ta σ H fun x H1 => tb σ H1 fun y H2 => ∃ i j, x = .int i ∧ y = .int j ∧ k i j H2
def tAdd (ta tb : TE) : TE := fun σ H Q => t2I ta tb (fun i j H2 => Q (.int (i + j)) H2) σ H
def tSub (ta tb : TE) : TE := fun σ H Q => t2I ta tb (fun i j H2 => Q (.int (i - j)) H2) σ H
/-- the left factor below 2^64 -/
def tMul (ta tb : TE) : TE := fun σ H Q => t2I ta tb (fun i j H2 => (-(2 ^ 64) < i ∧ i < 2 ^ 64) ∧ Q (.int (i * j)) H2) σ H
variable {a b : Expr} {ta tb : TE} {pos : Pos}
theorem pe_add (ha : PE X a ta) (hb : PE X b tb) : PE X (.BinOp a .Add b pos) (tAdd ta tb) := by
  intro pins s σ H Q I h
  refine wpAny_BinOp (bin ha hb I h fun v u s2 x y H2 I2 rx ry q => ?_)
  obtain ⟨i, j, rfl, rfl, q⟩ := q
  obtain ⟨t, rfl⟩ := rx
  obtain ⟨t', rfl⟩ := ry
  exact add_int ⟨.int _, H2, I2.tok _, ⟨_, rfl⟩, q⟩
theorem pe_sub (ha : PE X a ta) (hb : PE X b tb) : PE X (.BinOp a .Sub b pos) (tSub ta tb) := by
  intro pins s σ H Q I h
  refine wpAny_BinOp (bin ha hb I h fun v u s2 x y H2 I2 rx ry q => ?_)
  obtain ⟨i, j, rfl, rfl, q⟩ := q
  obtain ⟨t, rfl⟩ := rx
  obtain ⟨t', rfl⟩ := ry
  exact sub_int ⟨.int _, H2, I2.tok _, ⟨_, rfl⟩, q⟩
theorem pe_mul (ha : PE X a ta) (hb : PE X b tb) : PE X (.BinOp a .Mult b pos) (tMul ta tb) := by
  intro pins s σ H Q I h
  refine wpAny_BinOp (bin ha hb I h fun v u s2 x y H2 I2 rx ry q => ?_)
  obtain ⟨i, j, rfl, rfl, ⟨q1, q2⟩, q⟩ := q
  obtain ⟨t, rfl⟩ := rx
  obtain ⟨t', rfl⟩ := ry
  exact mul_int ⟨.int _, H2, I2.tok _, ⟨_, rfl⟩, q⟩ (.of_left (intBits_le_64 q1 q2))

/-! ### comparisons -/
def PC (X : Cx) (op : CmpOp) (a b : Expr) (t : TE) : Prop :=
  ∀ (pins : List (Addr × Obj)) (s : Shared) (σ : St) (H : Hp) (Q : VK), Inv X pins σ H s → t σ H Q →
    wpAny (model X.prog X.w) X.A (eval a X.env) (fun v s₁ => wpAny (model X.prog X.w) X.A (eval b X.env) (fun u s₂ => wpAny (model X.prog X.w) X.A (compareOp op v u) (EP X pins σ Q) X.xe s₂) X.xe s₁) X.xe s
theorem nobehind (b : Expr) {op : CmpOp} (h : op ≠ .In) (h2 : op ≠ .NotIn) : behindInMarks op b = false := by
  have e1 : (op == CmpOp.In) = false := by cases op <;> first | rfl | exact absurd rfl h
  have e2 : (op == CmpOp.NotIn) = false := by cases op <;> first | rfl | exact absurd rfl h2
  cases b <;> simp [behindInMarks, e1, e2]
def tCmp (p : Int → Int → Bool) (ta tb : TE) : TE := fun σ H Q => t2I ta tb (fun i j H2 => Q (.bl (p i j)) H2) σ H
abbrev tLt : TE → TE → TE := tCmp fun i j => decide (i < j)
abbrev tLe : TE → TE → TE := tCmp fun i j => decide (i ≤ j)
abbrev tGt : TE → TE → TE := tCmp fun i j => decide (j < i)
abbrev tGe : TE → TE → TE := tCmp fun i j => decide (j ≤ i)
abbrev tEqI : TE → TE → TE := tCmp fun i j => decide (i = j)
abbrev tNeI : TE → TE → TE := tCmp fun i j => !decide (i = j)
/-- a comparison of two ints, by its rule -/
theorem pc_int {op : CmpOp} {p : Int → Int → Bool} (ha : PE X a ta) (hb : PE X b tb)
    (rule : ∀ (i j : Int) (t u : Tok) (Q : Value → Shared → Prop) (s : Shared), Q (.bool (p i j)) s → wpAny (model X.prog X.w) X.A (compareOp op (.int i t) (.int j u)) Q X.xe s) : PC X op a b (tCmp p ta tb) := by
  intro pins s σ H Q I h
  refine bin ha hb I h fun v u s2 x y H2 I2 rx ry q => ?_
  obtain ⟨i, j, rfl, rfl, q⟩ := q
  obtain ⟨t, rfl⟩ := rx
  obtain ⟨t', rfl⟩ := ry
  exact rule i j t t' _ s2 ⟨.bl _, H2, I2, rfl, q⟩
theorem pc_lt (ha : PE X a ta) (hb : PE X b tb) : PC X .Lt a b (tLt ta tb) := pc_int ha hb fun _ _ _ _ _ _ h => lt_int h
theorem pc_le (ha : PE X a ta) (hb : PE X b tb) : PC X .LtE a b (tLe ta tb) := pc_int ha hb fun _ _ _ _ _ _ h => le_int h
theorem pc_gt (ha : PE X a ta) (hb : PE X b tb) : PC X .Gt a b (tGt ta tb) := pc_int ha hb fun _ _ _ _ _ _ h => gt_int h
theorem pc_ge (ha : PE X a ta) (hb : PE X b tb) : PC X .GtE a b (tGe ta tb) := pc_int ha hb fun _ _ _ _ _ _ h => ge_int h
theorem pc_eqI (ha : PE X a ta) (hb : PE X b tb) : PC X .Eq a b (tEqI ta tb) := pc_int ha hb fun _ _ _ _ _ _ h => eq_int (by rw [Bool.beq_eq_decide_eq]; exact h)
theorem pc_neI (ha : PE X a ta) (hb : PE X b tb) : PC X .NotEq a b (tNeI ta tb) := pc_int ha hb fun _ _ _ _ _ _ h => ne_int (by rw [bne, Bool.beq_eq_decide_eq]; exact h)
/-- is None -/
def tIsN (ta : TE) : TE := fun σ H Q => ta σ H fun x H1 => Q (.bl (decide (x = .non))) H1
def tNotN (ta : TE) : TE := fun σ H Q => ta σ H fun x H1 => Q (.bl (!decide (x = .non))) H1
theorem RelV.none_iff {x : V} {v : Value} (r : RelV x v) : (v == Value.none) = decide (x = .non) := by
  cases x with
  | non => cases r; rfl
  | bl _ => cases r; rfl
  | int _ => obtain ⟨t, rfl⟩ := r; rfl
  | str _ => obtain ⟨t, rfl⟩ := r; rfl
  | byt _ => obtain ⟨t, rfl⟩ := r; rfl
  | flt _ => obtain ⟨t, rfl⟩ := r; rfl
  | ref _ => cases r; rfl
  | ty _ => cases r; rfl
theorem pc_isN {j pos'} (ha : PE X a ta) : PC X .Is a (.Constant .none j pos') (tIsN ta) := by
  intro pins s σ H Q I h
  refine thn (ha pins s σ H _ I h) fun v s1 ⟨x, H1, I1, r1, q1⟩ => ?_
  exact Constant_none (is_none_gen ⟨.bl _, H1, I1, by rw [r1.none_iff]; rfl, q1⟩)
theorem pc_notN {j pos'} (ha : PE X a ta) : PC X .IsNot a (.Constant .none j pos') (tNotN ta) := by
  intro pins s σ H Q I h
  refine thn (ha pins s σ H _ I h) fun v s1 ⟨x, H1, I1, r1, q1⟩ => ?_
  exact Constant_none (isnot_none_gen ⟨.bl _, H1, I1, by rw [r1.none_iff]; rfl, q1⟩)
/-- a comparison as a value, as a test -/
def tB (t : TE) : TT := fun σ H Q => t σ H fun x H1 => ∃ c, x = .bl c ∧ Q c H1
theorem pe_cmp {op : CmpOp} {t : TE} (h : PC X op a b t) (h1 : behindInMarks op b = false := by first | exact nobehind _ (by decide) (by decide) | rfl) : PE X (.Compare a [op] [b] pos) t := fun pins s σ H Q I hw => wpAny_Compare1 (h pins s σ H Q I hw) h1
theorem pt_cmp {op : CmpOp} {t : TE} (h : PC X op a b t) (h1 : behindInMarks op b = false := by first | exact nobehind _ (by decide) (by decide) | rfl) : PT X (.Compare a [op] [b] pos) (tB t) := by
  intro pins s σ H Q I hw
  refine wpAny_isTrue_Compare1 (thn (h pins s σ H _ I hw) fun v s1 h1 => thn h1 fun u s2 h2 => thn h2 fun c s3 ⟨x, H1, I1, r1, q1⟩ => ?_) h1
  obtain ⟨d, rfl, q⟩ := q1
  cases r1
  exact wpAny_truthy_bool ⟨H1, I1, q⟩
/-- an expression whose value is a bool, as a test -/
theorem pt_val {e : Expr} {t : TE} (h : PE X e t) (he : ∀ whole, isTrue e X.env whole = (do let v ← whole; standAt e.pos; holding [v] (truthy v)) := by intro _; rfl) : PT X e (tB t) := by
  intro pins s σ H Q I hw
  refine isTrue_plain (thn (h pins s σ H _ I hw) fun v s1 ⟨x, H1, I1, r1, q1⟩ => ?_) (he _)
  obtain ⟨d, rfl, q⟩ := q1
  cases r1
  exact wpAny_truthy_bool ⟨H1, I1, q⟩

/-! ### and, or, not -/
variable {tA tB' : TT} {rest : List Expr}
def tAnd (t u : TT) : TT := fun σ H Q => t σ H fun c H1 => if c = true then u σ H1 Q else Q false H1
def tOr (t u : TT) : TT := fun σ H Q => t σ H fun c H1 => if c = true then Q true H1 else u σ H1 Q
def tNot (t : TT) : TT := fun σ H Q => t σ H fun c H1 => Q (!c) H1
theorem pw_and1 (ha : PT X a tA) : PW X (.BoolOp .And [a] pos) tA := by
  intro wh pins s σ H Q I h
  refine isTrue_and (thn (ha pins s σ H Q I h) fun c s1 e => ?_)
  cases c with
  | true => exact isTrue_and_nil e
  | false => exact e
theorem pw_or1 (ha : PT X a tA) : PW X (.BoolOp .Or [a] pos) tA := by
  intro wh pins s σ H Q I h
  refine isTrue_or (thn (ha pins s σ H Q I h) fun c s1 e => ?_)
  cases c with
  | false => exact isTrue_or_nil e
  | true => exact e
theorem pw_and (ha : PT X a tA) (hb : PW X (.BoolOp .And (b :: rest) pos) tB') : PW X (.BoolOp .And (a :: b :: rest) pos) (tAnd tA tB') := by
  intro wh pins s σ H Q I h
  refine isTrue_and (thn (ha pins s σ H _ I h) fun c s1 ⟨H1, I1, q1⟩ => ?_)
  cases c with
  | true => exact hb wh pins s1 σ H1 Q I1 q1
  | false => exact ⟨H1, I1, q1⟩
theorem pw_or (ha : PT X a tA) (hb : PW X (.BoolOp .Or (b :: rest) pos) tB') : PW X (.BoolOp .Or (a :: b :: rest) pos) (tOr tA tB') := by
  intro wh pins s σ H Q I h
  refine isTrue_or (thn (ha pins s σ H _ I h) fun c s1 ⟨H1, I1, q1⟩ => ?_)
  cases c with
  | true => exact ⟨H1, I1, q1⟩
  | false => exact hb wh pins s1 σ H1 Q I1 q1
theorem pt_not (ha : PT X a tA) : PT X (.UnaryOp .Not a pos) (tNot tA) := by
  intro pins s σ H Q I h
  exact isTrue_not (ha pins s σ H (fun c H1 => Q (!c) H1) I h)
/-- .. as values (bools) -/
def tAndV (ta tb : TE) : TE := fun σ H Q => ta σ H fun x H1 => ∃ c, x = .bl c ∧ if c = true then tb σ H1 Q else Q (.bl false) H1
def tOrV (ta tb : TE) : TE := fun σ H Q => ta σ H fun x H1 => ∃ c, x = .bl c ∧ if c = true then Q (.bl true) H1 else tb σ H1 Q
def tNotV (ta : TE) : TE := fun σ H Q => ta σ H fun x H1 => ∃ c, x = .bl c ∧ Q (.bl (!c)) H1
theorem pe_one {op} {t : TE} (h : PE X a t) : PE X (.BoolOp op [a] pos) t := fun pins s σ H Q I hw => BoolOp_one (h pins s σ H Q I hw)
theorem pe_and (ha : PE X a ta) (hb : PE X (.BoolOp .And (b :: rest) pos) tb) : PE X (.BoolOp .And (a :: b :: rest) pos) (tAndV ta tb) := by
  intro pins s σ H Q I h
  refine BoolOp_and (thn (ha pins s σ H _ I h) fun v s1 ⟨x, H1, I1, r1, q1⟩ => ?_)
  obtain ⟨c, rfl, q1⟩ := q1
  cases r1
  refine wpAny_truthy_bool ?_
  cases c with
  | true => exact hb pins s1 σ H1 Q I1 q1
  | false => exact ⟨.bl false, H1, I1, rfl, q1⟩
theorem pe_or (ha : PE X a ta) (hb : PE X (.BoolOp .Or (b :: rest) pos) tb) : PE X (.BoolOp .Or (a :: b :: rest) pos) (tOrV ta tb) := by
  intro pins s σ H Q I h
  refine BoolOp_or (thn (ha pins s σ H _ I h) fun v s1 ⟨x, H1, I1, r1, q1⟩ => ?_)
  obtain ⟨c, rfl, q1⟩ := q1
  cases r1
  refine wpAny_truthy_bool ?_
  cases c with
  | false => exact hb pins s1 σ H1 Q I1 q1
  | true => exact ⟨.bl true, H1, I1, rfl, q1⟩
theorem pe_not (ha : PE X a ta) : PE X (.UnaryOp .Not a pos) (tNotV ta) := by
  intro pins s σ H Q I h
  refine UnaryOp_ (thn (ha pins s σ H _ I h) fun v s1 ⟨x, H1, I1, r1, q1⟩ => ?_)
  obtain ⟨c, rfl, q1⟩ := q1
  cases r1
  exact not_of (wpAny_truthy_bool ⟨.bl (!c), H1, I1, rfl, q1⟩)
/-- a if t else b -/
def tIf (t : TT) (ta tb : TE) : TE := fun σ H Q => t σ H fun c H1 => if c = true then ta σ H1 Q else tb σ H1 Q
theorem pe_ifExp {c : Expr} (hc : PT X c tA) (ha : PE X a ta) (hb : PE X b tb) : PE X (.IfExp c a b pos) (tIf tA ta tb) := by
  intro pins s σ H Q I h
  refine wpAny_IfExp (thn (hc pins s σ H _ I h) fun d s1 ⟨H1, I1, q1⟩ => ?_)
  cases d with
  | true => exact ha pins s1 σ H1 Q I1 q1
  | false => exact hb pins s1 σ H1 Q I1 q1
end
end L2

namespace L2
open PySem PySem.Spec PyProof.Rows

/-! ### a list, a tuple that is read: tracked, frozen, or an object of the module -/
def SqL (K : PySem.W.Frag) (H : Hp) (a : Addr) (xs : List V) : Prop :=
  Rd H a (.lst xs) ∨
    ∃ (o : Obj) (its : Array Value) (n : Nat), K.lookup a = some o ∧ o.cls = .type "list" ∧ o.dict = none ∧ o.data = .seq its n ∧ its.size ≤ sizeLine ∧ Vals xs its.toList
def SqT (K : PySem.W.Frag) (H : Hp) (a : Addr) (xs : List V) : Prop :=
  Rd H a (.tup xs) ∨
    ∃ (o : Obj) (its : Array Value) (n : Nat), K.lookup a = some o ∧ o.cls = .type "tuple" ∧ o.data = .seq its n ∧ its.size ≤ sizeLine ∧ Vals xs its.toList
def absV : Value → Option V
  | .none => some .non
  | .bool b => some (.bl b)
  | .int i _ => some (.int i)
  | .str x _ => some (.str x)
  | .bytes b _ => some (.byt b)
  | .float b _ => some (.flt b)
  | .ref a => some (.ref a)
  | .type n => some (.ty n)
  | _ => none
theorem RelV.abs {x : V} {u : Value} (r : RelV x u) : absV u = some x := by
  cases x with
  | non => cases r; rfl
  | bl _ => cases r; rfl
  | int _ => obtain ⟨t, rfl⟩ := r; rfl
  | str _ => obtain ⟨t, rfl⟩ := r; rfl
  | byt _ => obtain ⟨t, rfl⟩ := r; rfl
  | flt _ => obtain ⟨t, rfl⟩ := r; rfl
  | ref _ => cases r; rfl
  | ty _ => cases r; rfl
theorem RelV.inj {x y : V} {u : Value} (r : RelV x u) (q : RelV y u) : x = y := Option.some.inj (r.abs.symm.trans q.abs)
theorem Vals.inj : ∀ {xs ys : List V} {us : List Value}, Vals xs us → Vals ys us → xs = ys
  | _, _, _, .nil, .nil => rfl
  | _, _, _, .cons r t, .cons r' t' => by rw [r.inj r', Vals.inj t t']
section
variable {X : Cx} {pins : List (Addr × Obj)} {σ : St} {H : Hp} {s : Shared} {a : Addr} {xs ys : List V}
theorem SqL.of {K : PySem.W.Frag} (h : H a = some (.lst xs)) : SqL K H a xs := .inl (.inl h)
theorem SqT.of {K : PySem.W.Frag} (h : H a = some (.tup xs)) : SqT K H a xs := .inl (.inl h)
theorem Inv.list (I : Inv X pins σ H s) (h : SqL X.K H a xs) : ∃ its : List Value, Vals xs its ∧ PlainL s.heap a its.toArray ∧ xs.length ≤ sizeLine := by
  rcases h with h | ⟨o, its, n, hk, hc, hd, hs, hz, r⟩
  · obtain ⟨z, its, n, r, e⟩ := h.ok I.hok
    exact ⟨its, r, ⟨_, n, e, rfl, rfl, rfl⟩, z⟩
  · refine ⟨its.toList, r, ⟨o, n, I.kIn a o hk, hc, hd, by simpa using hs⟩, ?_⟩
    have e := r.length
    simp only [Array.length_toList] at e
    omega
theorem Inv.tuple (I : Inv X pins σ H s) (h : SqT X.K H a xs) : ∃ its : List Value, Vals xs its ∧ IsTup s.heap a its.toArray ∧ xs.length ≤ sizeLine := by
  rcases h with h | ⟨o, its, n, hk, hc, hs, hz, r⟩
  · obtain ⟨z, its, r, p⟩ := h.ok I.hok
    exact ⟨its, r, p, z⟩
  · refine ⟨its.toList, r, ⟨o, I.kIn a o hk, hc, n, by simpa using hs⟩, ?_⟩
    have e := r.length
    simp only [Array.length_toList] at e
    omega
theorem Inv.list_inj (I : Inv X pins σ H s) (h : SqL X.K H a xs) (h' : SqL X.K H a ys) : xs = ys := by
  obtain ⟨its, r, ⟨o, n, e, _, _, d⟩, _⟩ := I.list h
  obtain ⟨its', r', ⟨o', n', e', _, _, d'⟩, _⟩ := I.list h'
  rw [e] at e'; cases e'
  rw [d] at d'
  injection d' with d1 _
  have : its = its' := by simpa using congrArg Array.toList d1
  subst this
  exact r.inj r'
theorem Inv.tuple_inj (I : Inv X pins σ H s) (h : SqT X.K H a xs) (h' : SqT X.K H a ys) : xs = ys := by
  obtain ⟨its, r, ⟨o, e, _, n, d⟩, _⟩ := I.tuple h
  obtain ⟨its', r', ⟨o', e', _, n', d'⟩, _⟩ := I.tuple h'
  rw [e] at e'; cases e'
  rw [d] at d'
  injection d' with d1 _
  have : its = its' := by simpa using congrArg Array.toList d1
  subst this
  exact r.inj r'
end

/-! ### another wish about exceptions -/
abbrev Cx.wish (X : Cx) (E : Value → Shared → Prop) : Cx := { X with xe := E }
/-- no exception leaves -/
abbrev Cx.nox (X : Cx) : Cx := X.wish fun _ _ => False
theorem Cx.Ok.wish {X : Cx} (ok : X.Ok) (E : Value → Shared → Prop) : (X.wish E).Ok :=
  ⟨ok.mod, ok.kind, ok.glob, ok.blt, ok.above, ok.inj, ok.has, ok.cab, ok.hd, ok.frames, ok.stk, ok.exf, ok.bs, ok.bsz, ok.noex, ok.exfs, ok.funs, ok.frf⟩
theorem Cx.Ok.unwish {X : Cx} {E : Value → Shared → Prop} (ok : (X.wish E).Ok) : X.Ok :=
  ⟨ok.mod, ok.kind, ok.glob, ok.blt, ok.above, ok.inj, ok.has, ok.cab, ok.hd, ok.frames, ok.stk, ok.exf, ok.bs, ok.bsz, ok.noex, ok.exfs, ok.funs, ok.frf⟩
section
variable {X : Cx} {pins : List (Addr × Obj)} {σ : St} {H : Hp} {s : Shared} {E : Value → Shared → Prop}
theorem Inv.wish (I : Inv X pins σ H s) (E : Value → Shared → Prop) : Inv (X.wish E) pins σ H s := ⟨I.ok.wish E, I.os, I.bare, I.base, I.loc, I.cell, I.free, I.freeC, I.pin, I.hok, I.len⟩
theorem Inv.unwish (I : Inv (X.wish E) pins σ H s) : Inv X pins σ H s := ⟨I.ok.unwish, I.os, I.bare, I.base, I.loc, I.cell, I.free, I.freeC, I.pin, I.hok, I.len⟩
theorem SP.unwish {D : Ends} {f : Flow} {s' : Shared} (h : SP (X.wish E) pins D f s') : SP X pins D f s' := by
  cases f with
  | next => obtain ⟨σ', H', I, q⟩ := h; exact ⟨σ', H', I.unwish, q⟩
  | brk => obtain ⟨σ', H', I, q⟩ := h; exact ⟨σ', H', I.unwish, q⟩
  | cont => obtain ⟨σ', H', I, q⟩ := h; exact ⟨σ', H', I.unwish, q⟩
  | ret u => obtain ⟨v, σ', H', I, r, q⟩ := h; exact ⟨v, σ', H', I.unwish, r, q⟩
theorem PE.nox {e : Expr} {t : TE} (h : PE X.nox e t) : PE X e t := fun pins s σ H Q I hw =>
  wpAny_mono (h pins s σ H Q (I.wish _) hw) (fun _ _ ⟨v, H', I', r, q⟩ => ⟨v, H', I'.unwish, r, q⟩) fun _ _ z => False.elim z
theorem PT.nox {e : Expr} {t : TT} (h : PT X.nox e t) : PT X e t := fun pins s σ H Q I hw =>
  wpAny_mono (h pins s σ H Q (I.wish _) hw) (fun _ _ ⟨H', I', q⟩ => ⟨H', I'.unwish, q⟩) fun _ _ z => False.elim z
theorem PSs.nox {st : List Stmt} {t : TS} (h : PSs X.nox st t) : PSs X st t := fun pins s σ H D I hw =>
  wpAny_mono (h pins s σ H D (I.wish _) hw) (fun _ _ q => q.unwish) fun _ _ z => False.elim z
end

/-! ### blocks and small statements -/
section
variable {X : Cx} {st : Stmt} {rest : List Stmt} {t u : TS} {e : Expr} {te : TE} {pos : Pos}
def tNext : TS := fun D σ H => D.nx σ H
def tSeq (t u : TS) : TS := fun D σ H => t { D with nx := u D } σ H
theorem pss_nil : PSs X [] tNext := fun _ _ σ H _ I h => wpAny_execs_nil ⟨σ, H, I, h⟩
theorem pss_cons (h1 : PS X st t) (h2 : PSs X rest u) : PSs X (st :: rest) (tSeq t u) := by
  intro pins s σ H D I h
  refine wpAny_execs_cons (thn (h1 pins s σ H { D with nx := u D } I h) fun f s1 q => ?_)
  cases f with
  | next =>
    obtain ⟨σ', H', I', q⟩ := q
    exact h2 pins s1 σ' H' D I' q
  | ret v => exact q
  | brk => exact q
  | cont => exact q
theorem pss_one (h1 : PS X st t) : PSs X [st] t := by
  intro pins s σ H D I h
  refine wpAny_execs_cons (thn (h1 pins s σ H D I h) fun f s1 q => ?_)
  cases f with
  | next => exact wpAny_execs_nil q
  | ret v => exact q
  | brk => exact q
  | cont => exact q
def tBreak : TS := fun D σ H => D.bk σ H
def tCont : TS := fun D σ H => D.ct σ H
theorem ps_pass : PS X (.Pass pos) tNext := fun _ _ σ H _ I h => wpAny_Pass ⟨σ, H, I, h⟩
theorem ps_break : PS X (.Break pos) tBreak := fun _ _ σ H _ I h => wpAny_Break ⟨σ, H, I, h⟩
theorem ps_continue : PS X (.Continue pos) tCont := fun _ _ σ H _ I h => wpAny_Continue ⟨σ, H, I, h⟩
/-- in a def's body nothing is shown -/
theorem Inv.quiet {pins : List (Addr × Obj)} {σ : St} {H : Hp} {s : Shared} (I : Inv X pins σ H s) : interactive X.env = false := by simp [interactive, I.ok.kind]
/-- a docstring -/
theorem ps_doc {x j pos pos'} : PS X (.Expr (.Constant (.str x) j pos) pos') tNext := fun _ s σ H _ I h => wpAny_Expr (Calls.Constant_str (show SP X _ _ .next { s with toks := s.toks + 1 } from ⟨σ, H, I.tok _, h⟩)) I.quiet
/-- an expression whose value is dropped -/
def tDrop (te : TE) : TS := fun D σ H => te σ H fun _ H1 => D.nx σ H1
theorem ps_expr (he : PE X e te) (hs : swapsWith e none pos.line X.env = pure false := by rfl) : PS X (.Expr e pos) (tDrop te) := by
  intro pins s σ H D I h
  exact wpAny_Expr_any (thn (he pins s σ H _ I h) fun v s1 ⟨x, H1, I1, r1, q1⟩ => ⟨σ, H1, I1, q1⟩) I.quiet hs
def tRet (te : TE) : TS := fun D σ H => te σ H D.rt
theorem ps_ret (he : PE X e te) : PS X (.Return (some e) pos) (tRet te) := by
  intro pins s σ H D I h
  exact wpAny_Return_some (thn (he pins s σ H _ I h) fun v s1 ⟨x, H1, I1, r1, q1⟩ => ⟨x, σ, H1, I1, r1, q1⟩)
def tRetN : TS := fun D _ H => D.rt .non H
theorem ps_retN : PS X (.Return none pos) tRetN := fun _ _ σ H _ I h => wpAny_Return_none ⟨.non, σ, H, I, rfl, h⟩
def tIfS (c : TT) (t u : TS) : TS := fun D σ H => c σ H fun b H1 => if b = true then t D σ H1 else u D σ H1
theorem ps_if {c : Expr} {a b : List Stmt} {tc : TT} (hc : PT X c tc) (ha : PSs X a t) (hb : PSs X b u) : PS X (.If c a b pos) (tIfS tc t u) := by
  intro pins s σ H D I h
  refine wpAny_If (thn (hc pins s σ H _ I h) fun d s1 ⟨H1, I1, q1⟩ => ?_)
  cases d with
  | true => exact ha pins s1 σ H1 D I1 q1
  | false => exact hb pins s1 σ H1 D I1 q1
/-- code that the proof never comes to -/
def tNever : TS := fun _ _ _ => False
theorem ps_never : PS X st tNever := fun _ _ _ _ _ _ h => h.elim
theorem pss_never {sts : List Stmt} : PSs X sts tNever := fun _ _ _ _ _ _ h => h.elim
end

/-! ### targets -/
abbrev TG := V → St → Hp → (St → Hp → Prop) → Prop
abbrev TGs := List V → St → Hp → (St → Hp → Prop) → Prop
def PG (X : Cx) (target : Expr) (t : TG) : Prop :=
  ∀ (pins : List (Addr × Obj)) (s : Shared) (σ : St) (H : Hp) (v : V) (u : Value) (Q : St → Hp → Prop), Inv X pins σ H s → RelV v u → t v σ H Q →
    wpAny (model X.prog X.w) X.A (assign target X.env u) (fun _ s' => ∃ σ' H', Inv X pins σ' H' s' ∧ Q σ' H') X.xe s
/-- several targets, one after another -/
def PGs (X : Cx) (ts : List Expr) (t : TGs) : Prop :=
  ∀ (pins : List (Addr × Obj)) (s : Shared) (σ : St) (H : Hp) (vs : List V) (us : List Value) (Q : St → Hp → Prop), Inv X pins σ H s → Vals vs us → t vs σ H Q →
    wpAny (model X.prog X.w) X.A (assignInOrder ((assignEach ts X.env).map (·.2)) us) (fun _ s' => ∃ σ' H', Inv X pins σ' H' s' ∧ Q σ' H') X.xe s
/-- o[i] = v, by values -/
abbrev TSet := V → V → V → Hp → (Hp → Prop) → Prop
def PSet (X : Cx) (t : TSet) : Prop :=
  ∀ (pins : List (Addr × Obj)) (s : Shared) (σ : St) (H : Hp) (o i v : V) (ov iv u : Value) (Q : Hp → Prop), Inv X pins σ H s → RelV o ov → RelV i iv → RelV v u → t o i v H Q →
    wpAny (model X.prog X.w) X.A (setItem ov iv u) (fun _ s' => ∃ H', Inv X pins σ H' s' ∧ Q H') X.xe s
/-- a op= b, by values -/
abbrev TIp := V → V → Hp → VK → Prop
def PIp (X : Cx) (op : Operator) (t : TIp) : Prop :=
  ∀ (pins : List (Addr × Obj)) (s : Shared) (σ : St) (H : Hp) (x y : V) (v u : Value) (Q : VK), Inv X pins σ H s → RelV x v → RelV y u → t x y H Q →
    wpAny (model X.prog X.w) X.A (inplaceOp op v u) (EP X pins σ Q) X.xe s
section
variable {X : Cx} {pos : Pos}
def gName (i : Nat) : TG := fun v σ H Q => Q (σ.set i (some v)) H
theorem pg_name {i : Nat} {x : Str} (hN : X.N.Nodup) (hi : X.N[i]? = some x) (hx : Loc X.env.scope x) (hf : X.fn x = true ∨ X.env.scope.names.lookup x = some .local := by first | exact .inl rfl | exact .inr rfl | assumption) : PG X (.Name x pos) (gName i) := by
  intro pins s σ H v u Q I r h
  exact wpAny_assign_Name (store_ok I hN hi hx r (fun s' I' => ⟨_, H, I', h⟩) hf)
def gNil : TGs := fun vs σ H Q => vs = [] ∧ Q σ H
def gCons (t : TG) (u : TGs) : TGs := fun vs σ H Q => ∃ v r, vs = v :: r ∧ t v σ H fun σ' H' => u r σ' H' Q
theorem pgs_nil : PGs X [] gNil := by
  intro pins s σ H vs us Q I r h
  obtain ⟨e, h⟩ := h
  subst e
  cases r
  exact assignInOrder_nil ⟨σ, H, I, h⟩
theorem pgs_cons {e : Expr} {es : List Expr} {t : TG} {u : TGs} (h1 : PG X e t) (h2 : PGs X es u)
    (hs : (assignEach (e :: es) X.env).map (·.2) = assign e X.env :: (assignEach es X.env).map (·.2) := by rfl) : PGs X (e :: es) (gCons t u) := by
  intro pins s σ H vs us Q I r h
  obtain ⟨v, vr, e1, h⟩ := h
  subst e1
  cases r with
  | cons r rr =>
    rw [hs]
    refine assignInOrder_cons (thn (h1 pins s σ H _ _ _ I r h) fun _ s1 ⟨σ1, H1, I1, q1⟩ => ?_)
    exact h2 pins s1 σ1 H1 _ _ Q I1 rr q1
/-- (a, b, ..) = a tuple of that length -/
def gTup (K : PySem.W.Frag) (n : Nat) (t : TGs) : TG := fun v σ H Q => ∃ a xs, v = .ref a ∧ SqT K H a xs ∧ xs.length = n ∧ t xs σ H Q
theorem pg_tup {es : List Expr} {k : Nat} {t : TGs} {n : Nat} (hc : X.calm = true) (h : PGs X es t)
    (hn : (assignEach es X.env).length = n := by rfl) (hst : (assignEach es X.env).findIdx? (·.1) = none := by rfl) : PG X (.Tuple es k pos) (gTup X.K n t) := by
  intro pins s σ H v u Q I r hw
  obtain ⟨a, xs, e1, hq, hl, hw⟩ := hw
  subst e1
  cases r
  obtain ⟨its, rv, ht, hz⟩ := I.tuple hq
  refine assign_Tuple_tuple (I.ok.hd hc) ht (by simp [hn, ← hl, rv.length]) hst fun h' hx => ?_
  have I1 : Inv X pins σ H { s with heap := h' } := I.kept (t' := s.toks) fun b o e => hx b o (Nat.ne_of_lt (Heap.lt_size e)) e
  exact h pins _ σ H xs _ Q I1 (by simpa using rv) hw
/-- o[i] = .. -/
def gSub (to ti : TE) (t : TSet) : TG := fun v σ H Q => to σ H fun o H1 => ti σ H1 fun i H2 => t o i v H2 fun H3 => Q σ H3
theorem pg_sub {o i : Expr} {to ti : TE} {t : TSet} (ho : PE X o to) (hi : PE X i ti) (hs : PSet X t)
    (ha : ∀ v, assign (.Subscript o i pos) X.env v = (do
      let ov ← holding [v] (eval o X.env)
      let iv ← holding [v, ov] (eval i X.env)
      standAt pos
      holding [v, ov, iv] (setItem ov iv v)
      release [v, ov, iv] []) := by intro _; rfl) : PG X (.Subscript o i pos) (gSub to ti t) := by
  intro pins s σ H v u Q I r h
  rw [ha]
  refine wpAny_bind (wpAny_holding (thn (ho pins s σ H _ I h) fun ov s1 ⟨x, H1, I1, r1, q1⟩ => ?_))
  refine wpAny_bind (wpAny_holding (thn (hi pins s1 σ H1 _ I1 q1) fun iv s2 ⟨y, H2, I2, r2, q2⟩ => ?_))
  refine wpAny_bind (wpAny_standAt (wpAny_bind (wpAny_holding (thn (hs pins s2 σ H2 x y v ov iv u _ I2 r1 r2 r q2) fun _ s3 ⟨H3, I3, q3⟩ => ?_))))
  exact wpAny_release ⟨σ, H3, I3, q3⟩
/-- target = value -/
def tAsg (te : TE) (g : TG) : TS := fun D σ H => te σ H fun x H1 => g x σ H1 D.nx
theorem ps_asg {tg e : Expr} {te : TE} {g : TG} (he : PE X e te) (hg : PG X tg g) (hs : swapsWithSole [tg] e pos.line X.env = pure false := by rfl) (hw : swappedStores [tg] e X.env = pure none := by rfl)
    (h1 : (assignEach [tg] X.env).map (·.2) = [assign tg X.env] := by rfl) : PS X (.Assign [tg] e pos) (tAsg te g) := by
  intro pins s σ H D I h
  refine wpAny_Assign_stores (thn (he pins s σ H _ I h) fun v s1 ⟨x, H1, I1, r1, q1⟩ => ?_) hs hw
  rw [h1]
  exact thn (hg pins s1 σ H1 x v _ I1 r1 q1) fun _ s2 q => q
/-- name = value -/
theorem ps_set {i : Nat} {x : Str} {e : Expr} {te : TE} {pos' : Pos} (hN : X.N.Nodup) (hi : X.N[i]? = some x) (hx : Loc X.env.scope x) (he : PE X e te) (hs : swapsWith e (some (.Name x pos')) pos.line X.env = pure false := by rfl) (hf : X.fn x = true ∨ X.env.scope.names.lookup x = some .local := by first | exact .inl rfl | exact .inr rfl | assumption) :
    PS X (.Assign [.Name x pos'] e pos) (tAsg te (gName i)) := by
  intro pins s σ H D I h
  refine wpAny_Assign_Name (thn (he pins s σ H _ I h) fun v s1 ⟨y, H1, I1, r1, q1⟩ => ?_) hs
  exact store_ok I1 hN hi hx r1 (fun s2 I2 => ⟨_, H1, I2, q1⟩) hf
/-- a, b = x, y with plain local names: stored from the right; the pair itself is not tracked (the opening rows as in PyProof/Rows/TupAssign.lean:23) -/
def tPar (i j : Nat) (ta : TA) : TS := fun D σ H => ta σ H fun vs H1 => ∃ v w, vs = [v, w] ∧ D.nx ((σ.set i (some v)).set j (some w)) H1
theorem ps_par {i j : Nat} {x y : Str} {a b : Expr} {ta : TA} {px py pt : Pos} {kt k2 pt2} (hc : X.calm = true) (hN : X.N.Nodup) (hi : X.N[i]? = some x) (hj : X.N[j]? = some y) (hij : i ≠ j)
    (hx : X.env.scope.names.lookup x = some .local) (hy : X.env.scope.names.lookup y = some .local) (ha : PA X [a, b] ta)
    (hw : swappedStores [.Tuple [.Name x px, .Name y py] kt pt] (.Tuple [a, b] k2 pt2) X.env = pure (some [x, y]))
    (hs : swapsWithSole [.Tuple [.Name x px, .Name y py] kt pt] (.Tuple [a, b] k2 pt2) pos.line X.env = pure false := by rfl) :
    PS X (.Assign [.Tuple [.Name x px, .Name y py] kt pt] (.Tuple [a, b] k2 pt2) pos) (tPar i j ta) := by
  intro pins s σ H D I h
  rw [exec_Assign_arm]
  refine wpAny_bind (wpAny_standAt ?_)
  rw [hs]
  refine wpAny_bind (wpAny_pure ?_)
  rw [if_neg (by decide)]
  refine wpAny_bind (Tuple_ (thn (ha _ pins s σ H _ I h) fun us s1 ⟨vs, H1, I1, r1, q1⟩ => ?_))
  obtain ⟨v, w, e1, q1⟩ := q1
  subst e1
  obtain ⟨u1, u2, rfl, rv, rw'⟩ : ∃ u1 u2, us = [u1, u2] ∧ RelV v u1 ∧ RelV w u2 := by
    cases r1 with
    | cons p q =>
      cases q with
      | cons p' q' =>
        cases q'
        exact ⟨_, _, rfl, p, p'⟩
  refine wpAny_newObj_type ?_ (by show 2 ≤ sizeLine; decide)
  have I2 : Inv X pins σ H1 { s1 with heap := s1.heap.push { cls := .type "tuple", data := .seq [u1, u2].toArray } } := I1.kept (t' := s1.toks) fun b o e => Heap.get?_push_of_some _ e
  rw [hw]
  refine wpAny_bind (wpAny_pure ?_)
  show wpAny (model X.prog X.w) X.A (do rule "assign.swapped-stores"; let items ← unpackItems (.ref s1.heap.objs.size) 2 none; assignInOrder [fun v => bindName X.env y v, fun v => bindName X.env x v] items.reverse; pure Flow.next) _ _ _
  refine wpAny_bind (wpAny_rule (wpAny_bind (unpackItems_tuple (items := #[u1, u2]) (I.ok.hd hc) (IsTup.new s1.heap _) fun h' hx' => ?_)))
  have I3 := I2.kept (h' := h') (t' := s1.toks) fun b o e => hx' b o (Nat.ne_of_lt (Heap.lt_size e)) e
  show wpAny _ _ (assignInOrder [fun v => bindName X.env y v, fun v => bindName X.env x v] [u2, u1] >>= fun _ => pure Flow.next) _ _ _
  refine wpAny_bind (assignInOrder_cons (wpAny_bindName (store_ok I3 hN hj (.inl hy) rw' (fun s2 I4 => ?_) (.inr hy))))
  refine assignInOrder_cons (wpAny_bindName (store_ok I4 hN hi (.inl hx) rv (fun s3 I5 => assignInOrder_nil (wpAny_pure ?_)) (.inr hx)))
  rw [List.set_comm _ _ (Ne.symm hij)] at I5
  exact ⟨_, H1, I5, q1⟩
/-- name op= e -/
def tAug (i : Nat) (te : TE) (ti : TIp) : TS := fun D σ H => ∃ x, σ[i]? = some (some x) ∧ te σ H fun y H1 => ti x y H1 fun z H2 => D.nx (σ.set i (some z)) H2
theorem ps_aug {i : Nat} {x : Str} {e : Expr} {te : TE} {op : Operator} {ti : TIp} {pos' : Pos} (hN : X.N.Nodup) (hi : X.N[i]? = some x) (hx : Loc X.env.scope x) (he : PE X e te) (ho : PIp X op ti) (hf : X.fn x = true ∨ X.env.scope.names.lookup x = some .local := by first | exact .inl rfl | exact .inr rfl | assumption) :
    PS X (.AugAssign (.Name x pos') op e pos) (tAug i te ti) := by
  intro pins s σ H D I h
  obtain ⟨v, e1, h⟩ := h
  obtain ⟨m, hn, hl⟩ := I.loc
  have vis : Vis X.env.scope x := by rcases hx with k | k; exact .inl k; exact .inr (.inl k)
  obtain ⟨u, r, l⟩ := hl i x v hi e1 vis
  refine wpAny_AugAssign_Name ?_
  have go : wpAny (model X.prog X.w) X.A (eval e X.env) (fun w s₂ => wpAny (model X.prog X.w) X.A (inplaceOp op u w) (fun r s₃ => wpAny (model X.prog X.w) X.A (storeName X.env x r) (fun _ => SP X pins D .next) X.xe s₃) X.xe s₂) X.xe s := by
    refine thn (he pins s σ H _ I h) fun w s1 ⟨y, H1, I1, r1, q1⟩ => ?_
    refine thn (ho pins s1 σ H1 v y u w _ I1 r r1 q1) fun z s2 ⟨zv, H2, I2, r2, q2⟩ => ?_
    exact store_ok I2 hN hi hx r2 (fun s3 I3 => ⟨_, H2, I3, q2⟩) hf
  rcases l with ⟨hk, hm⟩ | ⟨hk, c, hc, hcell⟩
  · exact wpAny_loadName_local I.ok.kind hk hn hm go
  · rcases hk with hk | hk
    · exact wpAny_loadName_cell I.ok.kind hk hc hcell go
    · rcases hx with k | k
      · have : X.env.scope.names.lookup x = some .free := hk
        rw [k] at this; cases this
      · have : X.env.scope.names.lookup x = some .free := hk
        rw [k] at this; cases this
/-- o[i] op= e -/
def tAugS (to ti te : TE) (tget : V → V → Hp → VK → Prop) (tip : TIp) (tset : TSet) : TS := fun D σ H => to σ H fun o H1 => ti σ H1 fun i H2 => tget o i H2 fun x H3 => te σ H3 fun y H4 => tip x y H4 fun z H5 => tset o i z H5 fun H6 => D.nx σ H6
/-- o[i], by values -/
def PGet (X : Cx) (t : V → V → Hp → VK → Prop) : Prop :=
  ∀ (pins : List (Addr × Obj)) (s : Shared) (σ : St) (H : Hp) (o i : V) (ov iv : Value) (Q : VK), Inv X pins σ H s → RelV o ov → RelV i iv → t o i H Q →
    wpAny (model X.prog X.w) X.A (getItem ov iv) (EP X pins σ Q) X.xe s
theorem ps_augS {o i e : Expr} {to ti te : TE} {tget : V → V → Hp → VK → Prop} {tip : TIp} {tset : TSet} {op : Operator} {tpos : Pos} (ho : PE X o to) (hi : PE X i ti) (hg : PGet X tget) (he : PE X e te) (hp : PIp X op tip) (hs : PSet X tset)
    (ha : ∀ ov iv new, augStore i ov iv new = (do holding [new, ov, iv] (setItem ov iv new); release [new, ov, iv] []; pure .next) := by intros; rfl) : PS X (.AugAssign (.Subscript o i tpos) op e pos) (tAugS to ti te tget tip tset) := by
  intro pins s σ H D I h
  refine wpAny_AugAssign_SubscriptAny (thn (ho pins s σ H _ I h) fun ov s1 ⟨x1, H1, I1, r1, q1⟩ => ?_) ha
  refine thn (hi pins s1 σ H1 _ I1 q1) fun iv s2 ⟨x2, H2, I2, r2, q2⟩ => ?_
  refine thn (hg pins s2 σ H2 x1 x2 ov iv _ I2 r1 r2 q2) fun old s3 ⟨x3, H3, I3, r3, q3⟩ => ?_
  refine thn (he pins s3 σ H3 _ I3 q3) fun v s4 ⟨x4, H4, I4, r4, q4⟩ => ?_
  refine thn (hp pins s4 σ H4 x3 x4 old v _ I4 r3 r4 q4) fun new s5 ⟨x5, H5, I5, r5, q5⟩ => ?_
  exact thn (hs pins s5 σ H5 x1 x2 x5 ov iv new _ I5 r1 r2 r5 q5) fun _ s6 ⟨H6, I6, q6⟩ => ⟨σ, H6, I6, q6⟩
/-- ints -/
def ipI (f : Int → Int → Int) : TIp := fun x y H Q => ∃ i j, x = .int i ∧ y = .int j ∧ Q (.int (f i j)) H
theorem ip_add : PIp X .Add (ipI fun i j => i + j) := by
  intro pins s σ H x y v u Q I r1 r2 h
  obtain ⟨i, j, e1, e2, q⟩ := h
  subst e1; subst e2
  obtain ⟨t, rfl⟩ := r1
  obtain ⟨t', rfl⟩ := r2
  exact iadd_int ⟨.int _, H, I.tok _, ⟨_, rfl⟩, q⟩
theorem ip_sub : PIp X .Sub (ipI fun i j => i - j) := by
  intro pins s σ H x y v u Q I r1 r2 h
  obtain ⟨i, j, e1, e2, q⟩ := h
  subst e1; subst e2
  obtain ⟨t, rfl⟩ := r1
  obtain ⟨t', rfl⟩ := r2
  exact isub_int ⟨.int _, H, I.tok _, ⟨_, rfl⟩, q⟩
end

/-! ### while -/
section
variable {X : Cx} {pos : Pos}
/-- the invariant W with its measure -/
def tWhile (c : TT) (tb : TS) : TS := fun D σ H => ∃ W : Nat → St → Hp → Prop, (∃ m, W m σ H) ∧ ∀ m σ H, W m σ H →
  c σ H fun b H1 => if b = true then ∃ N : St → Hp → Prop, (∀ σ' H', N σ' H' → ∃ m', m' < m ∧ W m' σ' H') ∧ tb { D with nx := N, ct := N, bk := D.nx } σ H1 else D.nx σ H1
theorem ps_while {c : Expr} {body : List Stmt} {tc : TT} {tb : TS} (hp : PassesOwn (model X.prog X.w) X.A X.env X.xe) (hc : PT X c tc) (hb : PSs X body tb) : PS X (.While c body [] pos) (tWhile tc tb) := by
  intro pins s σ H D I h
  obtain ⟨W, ⟨m0, w0⟩, turn⟩ := h
  refine wpAny_While (codeAny_whileLoop (fun n s' => ∃ σ' H', Inv X pins σ' H' s' ∧ W n σ' H') ?_ m0 ⟨σ, H, I, w0⟩)
  rintro n s1 ⟨σ1, H1, I1, w1⟩
  refine wpAny_passesOwn hp (thn (hc pins s1 σ1 H1 _ I1 (turn n σ1 H1 w1)) fun b s2 ⟨H2, I2, q2⟩ => ?_)
  cases b with
  | true =>
    obtain ⟨N, hN, q2⟩ := q2
    rw [if_pos rfl]
    refine wpAny_passesOwn hp (thn (hb pins s2 σ1 H2 _ I2 q2) fun f s3 q3 => ?_)
    cases f with
    | next =>
      obtain ⟨σ3, H3, I3, n3⟩ := q3
      obtain ⟨m', hm, w3⟩ := hN σ3 H3 n3
      exact ⟨m', hm, σ3, H3, I3, w3⟩
    | cont =>
      obtain ⟨σ3, H3, I3, n3⟩ := q3
      obtain ⟨m', hm, w3⟩ := hN σ3 H3 n3
      exact ⟨m', hm, σ3, H3, I3, w3⟩
    | brk => exact q3
    | ret v => exact q3
  | false =>
    rw [if_neg Bool.false_ne_true]
    exact wpAny_execs_nil ⟨σ1, H2, I2, q2⟩
end

/-! ### what a loop or a comprehension walks -/
/-- at turn i: it yields x (the heap may grow), or it stops -/
structure It where
  go : Nat → Hp → Prop
  yld : Nat → Hp → V → Hp → Prop
  stop : Nat → Hp → Prop
/-- the iterator's own objects may turn: they are not the frame's, not pinned, younger than the entry (or a comprehension's own) -/
def FpOk (X : Cx) (pins : List (Addr × Obj)) (H : Hp) (b : Addr) : Prop :=
  H b = none ∧ b ≠ X.env.locals ∧ b ∉ X.fs ∧ (b ∈ X.ex ∨ X.s₀.heap.objs.size ≤ b) ∧ (∀ x c, X.env.cells.lookup x = some c → c ≠ b) ∧ ∀ p ∈ X.pn ++ pins, p.1 ≠ b
theorem Inv.fpOk {X : Cx} {pins : List (Addr × Obj)} {σ : St} {H H' : Hp} {s : Shared} {b : Addr} (I : Inv X pins σ H s) (hb : s.heap.objs.size ≤ b) (hn : H' b = none) : FpOk X pins H' b := by
  refine ⟨hn, Nat.ne_of_gt (Nat.lt_of_lt_of_le I.lt hb), I.nofs hb, .inr (Nat.le_trans I.sz hb), fun x c e z => ?_, fun p hp z => ?_⟩
  · obtain ⟨v, q⟩ := I.cell x c e
    exact absurd (Nat.lt_of_lt_of_le q.lt (by rw [z]; exact hb)) (Nat.lt_irrefl _)
  · exact absurd (Nat.lt_of_lt_of_le (Heap.lt_size (I.pin p hp).1) (by rw [z]; exact hb)) (Nat.lt_irrefl _)
structure Turn (P : Program) (w : World) (K : PySem.W.Frag) (tg : Expr) (J : It) (fp : List Addr) (it : Addr) (tn : Nat → Heap → Prop) : Prop where
  mem : it ∈ fp
  obj : ∀ i h, tn i h → ∀ b ∈ fp, ∃ o, h.get? b = some o ∧ ∀ v, o.data ≠ .cell v
  keep : ∀ i h h', tn i h → (∀ b ∈ fp, ∀ o, h.get? b = some o → h'.get? b = some o) → tn i h'
  item : ∀ (X : Cx), X.prog = P → X.w = w → X.K = K → X.calm = true → ∀ (i : Nat) (pins : List (Addr × Obj)) (s : Shared) (σ : St) (H : Hp) (E : Value → Shared → Prop), Inv X pins σ H s → (∀ b ∈ fp, FpOk X pins H b) → tn i s.heap → J.go i H →
    wpAny (model P w) X.A (pyNext (.ref it)) (fun r s1 => ∃ u, r = some u ∧
      wpAny (model P w) X.A (letOwnedTupleGo tg (.ref it) u) (fun _ s2 => ∃ x H', Inv X pins σ H' s2 ∧ RelV x u ∧ J.yld i H x H' ∧ tn (i + 1) s2.heap ∧ ∀ b ∈ fp, H' b = none) E s1) E s
  done : ∀ (X : Cx), X.prog = P → X.w = w → X.K = K → X.calm = true → ∀ (i : Nat) (pins : List (Addr × Obj)) (s : Shared) (σ : St) (H : Hp) (E : Value → Shared → Prop), Inv X pins σ H s → (∀ b ∈ fp, FpOk X pins H b) → tn i s.heap → J.stop i H →
    wpAny (model P w) X.A (pyNext (.ref it)) (fun r s1 => r = none ∧ Inv X pins σ H s1) E s
  self : ∀ (A : Around) (i : Nat) (s : Shared) (Q : Value → Shared → Prop) (E : Value → Shared → Prop), tn i s.heap → Q (.ref it) s → wpAny (model P w) A (pyIter (.ref it)) Q E s
abbrev TI := St → Hp → (It → Hp → Prop) → Prop
/-- an iterator has come -/
def PIE (X : Cx) (pins : List (Addr × Obj)) (σ : St) (tg : Expr) (R : It → Hp → Prop) (itv : Value) (s2 : Shared) : Prop :=
  ∃ (it : Addr) (fp : List Addr) (tn : Nat → Heap → Prop) (J : It) (H' : Hp), itv = .ref it ∧ Inv X pins σ H' s2 ∧ Turn X.prog X.w X.K tg J fp it tn ∧ tn 0 s2.heap ∧ (∀ b ∈ fp, FpOk X pins H' b) ∧ R J H'
def PI (X : Cx) (tg iter : Expr) (wi : TI) : Prop :=
  ∀ (pins : List (Addr × Obj)) (s : Shared) (σ : St) (H : Hp) (R : It → Hp → Prop), Inv X pins σ H s → wi σ H R →
    wpAny (model X.prog X.w) X.A (eval iter X.env) (fun v s1 => wpAny (model X.prog X.w) X.A (pyIter v) (PIE X pins σ tg R) X.xe s1) X.xe s

/-- the step ahead of the store is nothing for an iterator that keeps no tuple -/
theorem go_of {M : Model} {A : Around} {E : Value → Shared → Prop} {s : Shared} {tg : Expr} {it : Addr} {u : Value} {o : Obj} {n : String} {vs : Array Value} {Q : Unit → Shared → Prop} (ho : s.heap.get? it = some o) (hc : o.cls = .type n) (hd : o.data = .fields vs)
    (hn : ["enumerate", "zip", "dict_itemiterator", "dict_reverseitemiterator", "odict_iterator", "itertools.zip_longest", "itertools.pairwise"].contains n = false) (hQ : Q () s) : wpAny M A (letOwnedTupleGo tg (.ref it) u) Q E s := by
  unfold letOwnedTupleGo
  cases tg <;> first
    | exact wpAny_pure hQ
    | (cases u <;> first
        | exact wpAny_pure hQ
        | (refine wpAny_bind (wpAny_load ho ?_)
           rw [hc, hd]
           show wpAny M A (if (["enumerate", "zip", "dict_itemiterator", "dict_reverseitemiterator", "odict_iterator", "itertools.zip_longest", "itertools.pairwise"].contains n && vs[0]? == some (rawInt _)) = true then _ else _) Q E s
           rw [if_neg (by intro h; rw [hn, Bool.false_and] at h; cases h)]
           exact wpAny_pure hQ))

/-- the list at a, as it stands at each turn (a loop may append to it) -/
def Itl (K : PySem.W.Frag) (a : Addr) : It :=
  ⟨fun i H => ∃ xs x, SqL K H a xs ∧ xs[i]? = some x, fun i H x H' => H' = H ∧ ∀ xs, SqL K H a xs → xs[i]? = some x, fun i H => ∃ xs, SqL K H a xs ∧ xs.length ≤ i⟩
def Itt (K : PySem.W.Frag) (a : Addr) : It :=
  ⟨fun i H => ∃ xs x, SqT K H a xs ∧ xs[i]? = some x, fun i H x H' => H' = H ∧ ∀ xs, SqT K H a xs → xs[i]? = some x, fun i H => ∃ xs, SqT K H a xs ∧ xs.length ≤ i⟩
/-- lo, lo + 1, .. (n of them) -/
def Itr (lo : Int) (n : Nat) : It := ⟨fun i _ => i < n, fun i H x H' => H' = H ∧ x = .int (lo + i), fun i _ => n ≤ i⟩
theorem turn_list {P : Program} {w : World} {K : PySem.W.Frag} {tg : Expr} (a it : Addr) : Turn P w K tg (Itl K a) [it] it (fun i h => h.IsListIter it a i) where
  mem := by simp
  obj := fun i h st b hb => by
    have e : b = it := by simpa using hb
    subst e
    obtain ⟨o, e, c, d⟩ := st
    exact ⟨o, e, fun v z => by rw [d] at z; cases z⟩
  keep := fun i h h' st k => st.at fun o e => k it (by simp) o e
  item := by
    intro X hP hw hK hc i pins s σ H E I hf st hg
    subst hP hw hK
    obtain ⟨xs, x, hq, hx⟩ := hg
    obtain ⟨its, rv, p, hz⟩ := I.list hq
    obtain ⟨u, hu, ru⟩ := rv.get hx
    obtain ⟨f0, f1, f2, f3, f4, f5⟩ := hf it (by simp)
    refine wpAny_pyNext_list_item st p.isList (x := u) (by simpa using hu) fun h' st' sb => ?_
    have I1 : Inv X pins σ H { s with heap := h' } := I.turned (t' := s.toks) (fun b o hb e => (sb.2 b hb).trans e) f0 f1 f3 f4 f5
    obtain ⟨o, e, c, d⟩ := id st'
    exact ⟨u, rfl, go_of (s := { s with heap := h' }) e c d (by decide) ⟨x, H, I1, ru, ⟨rfl, fun ys hy => by rw [I.list_inj hy hq]; exact hx⟩, st', fun b hb => (hf b hb).1⟩⟩
  done := by
    intro X hP hw hK hc i pins s σ H E I hf st hg
    subst hP hw hK
    obtain ⟨xs, hq, hx⟩ := hg
    obtain ⟨its, rv, p, hz⟩ := I.list hq
    obtain ⟨f0, f1, f2, f3, f4, f5⟩ := hf it (by simp)
    have hl := rv.length
    exact wpAny_pyNext_list_end (I.ok.hd hc) st p.isList (by simp; omega) fun h' eb => ⟨rfl, I.turned (t' := s.toks) (fun b o hb e => eb b o hb e) f0 f1 f3 f4 f5⟩
  self := fun _ _ _ _ _ st h => wpAny_pyIter_listiter st h
theorem turn_tuple {P : Program} {w : World} {K : PySem.W.Frag} {tg : Expr} (a it : Addr) : Turn P w K tg (Itt K a) [it] it (fun i h => h.IsTupleIter it a i) where
  mem := by simp
  obj := fun i h st b hb => by
    have e : b = it := by simpa using hb
    subst e
    obtain ⟨o, e, c, d⟩ := st
    exact ⟨o, e, fun v z => by rw [d] at z; cases z⟩
  keep := fun i h h' st k => st.at fun o e => k it (by simp) o e
  item := by
    intro X hP hw hK hc i pins s σ H E I hf st hg
    subst hP hw hK
    obtain ⟨xs, x, hq, hx⟩ := hg
    obtain ⟨its, rv, p, hz⟩ := I.tuple hq
    obtain ⟨u, hu, ru⟩ := rv.get hx
    obtain ⟨f0, f1, f2, f3, f4, f5⟩ := hf it (by simp)
    refine wpAny_pyNext_tuple_item st (show s.heap.IsTuple a its.toArray from p) (x := u) (by simpa using hu) fun h' st' sb => ?_
    have I1 : Inv X pins σ H { s with heap := h' } := I.turned (t' := s.toks) (fun b o hb e => (sb.2 b hb).trans e) f0 f1 f3 f4 f5
    obtain ⟨o, e, c, d⟩ := id st'
    exact ⟨u, rfl, go_of (s := { s with heap := h' }) e c d (by decide) ⟨x, H, I1, ru, ⟨rfl, fun ys hy => by rw [I.tuple_inj hy hq]; exact hx⟩, st', fun b hb => (hf b hb).1⟩⟩
  done := by
    intro X hP hw hK hc i pins s σ H E I hf st hg
    subst hP hw hK
    obtain ⟨xs, hq, hx⟩ := hg
    obtain ⟨its, rv, p, hz⟩ := I.tuple hq
    obtain ⟨f0, f1, f2, f3, f4, f5⟩ := hf it (by simp)
    have hl := rv.length
    exact wpAny_pyNext_tuple_end (I.ok.hd hc) st (show s.heap.IsTuple a its.toArray from p) (by simp; omega) fun h' eb => ⟨rfl, I.turned (t' := s.toks) (fun b o hb e => eb b o hb e) f0 f1 f3 f4 f5⟩
  self := fun _ _ _ _ _ st h => wpAny_pyIter_tupleiter st h
theorem turn_range {P : Program} {w : World} {K : PySem.W.Frag} {tg : Expr} (it : Addr) (lo : Int) (n : Nat) : Turn P w K tg (Itr lo n) [it] it (fun i h => IsRangeIter h it (lo + (i : Nat) * 1) ((n : Int) - (i : Nat)) 1) where
  mem := by simp
  obj := fun i h st b hb => by
    have e : b = it := by simpa using hb
    subst e
    exact ⟨_, st, fun v z => by
      have z' : Data.fields _ = Data.cell v := z
      cases z'⟩
  keep := fun i h h' st k => k it (by simp) _ st
  item := by
    intro X hP hw hK hc i pins s σ H E I hf st hg
    subst hP hw hK
    obtain ⟨f0, f1, f2, f3, f4, f5⟩ := hf it (by simp)
    have W := Walks.range (prog := X.prog) (w := X.w) (I.ok.hd hc) it lo 1 n
    refine W.item i s _ _ hg st fun v h' tk hv st' kk => ?_
    obtain ⟨t, rfl⟩ := hv
    have I1 : Inv X pins σ H { s with heap := h', toks := tk } := I.turned (fun b o hb e => kk b o (by simpa using hb) e) f0 f1 f3 f4 f5
    refine ⟨_, rfl, go_of (s := { s with heap := h', toks := tk }) (n := "range_iterator") st' rfl rfl (by decide) ⟨.int (lo + i), H, I1, ⟨t, ?_⟩, ⟨rfl, rfl⟩, st', fun b hb => (hf b hb).1⟩⟩
    rw [Int.mul_one]
  done := by
    intro X hP hw hK hc i pins s σ H E I hf st hg
    subst hP hw hK
    obtain ⟨f0, f1, f2, f3, f4, f5⟩ := hf it (by simp)
    exact wpAny_pyNext_range_end (I.ok.hd hc) st (by have : n ≤ i := hg; omega) fun h' eb => ⟨rfl, I.turned (t' := s.toks) (fun b o hb e => eb b o hb e) f0 f1 f3 f4 f5⟩
  self := fun _ _ _ _ _ st h => wpAny_pyIter_rangeiter st h
end L2

namespace L2
open PySem PySem.Spec PyProof.Rows
section
variable {X : Cx} {tg : Expr}
def iList (K : PySem.W.Frag) (tl : TE) : TI := fun σ H R => tl σ H fun x H1 => ∃ a, x = .ref a ∧ (∃ xs, SqL K H1 a xs) ∧ R (Itl K a) H1
def iTup (K : PySem.W.Frag) (tl : TE) : TI := fun σ H R => tl σ H fun x H1 => ∃ a, x = .ref a ∧ (∃ xs, SqT K H1 a xs) ∧ R (Itt K a) H1
theorem pi_list {l : Expr} {tl : TE} (hl : PE X l tl) : PI X tg l (iList X.K tl) := by
  intro pins s σ H R I h
  refine thn (hl pins s σ H _ I h) fun v s1 ⟨x, H1, I1, r1, q1⟩ => ?_
  obtain ⟨a, e, ⟨xs, hq⟩, q⟩ := q1
  subst e
  cases r1
  obtain ⟨its, rv, p, hz⟩ := I1.list hq
  refine wpAny_pyIter_list p.isList ?_
  refine ⟨s1.heap.objs.size, [s1.heap.objs.size], _, _, H1, rfl, I1.kept (t' := s1.toks) fun b o e => Heap.get?_push_of_some _ e, turn_list a _, ⟨_, Heap.get?_push_size _ rfl, rfl, rfl⟩, fun b hb => ?_, q⟩
  have e : b = s1.heap.objs.size := by simpa using hb
  subst e
  exact I1.fpOk (Nat.le_refl _) (I1.hok.fresh (Nat.le_refl _))
theorem pi_tup {l : Expr} {tl : TE} (hl : PE X l tl) : PI X tg l (iTup X.K tl) := by
  intro pins s σ H R I h
  refine thn (hl pins s σ H _ I h) fun v s1 ⟨x, H1, I1, r1, q1⟩ => ?_
  obtain ⟨a, e, ⟨xs, hq⟩, q⟩ := q1
  subst e
  cases r1
  obtain ⟨its, rv, p, hz⟩ := I1.tuple hq
  refine wpAny_pyIter_tuple (show s1.heap.IsTuple a its.toArray from p) ?_
  refine ⟨s1.heap.objs.size, [s1.heap.objs.size], _, _, H1, rfl, I1.kept (t' := s1.toks) fun b o e => Heap.get?_push_of_some _ e, turn_tuple a _, ⟨_, Heap.get?_push_size _ rfl, rfl, rfl⟩, fun b hb => ?_, q⟩
  have e : b = s1.heap.objs.size := by simpa using hb
  subst e
  exact I1.fpOk (Nat.le_refl _) (I1.hok.fresh (Nat.le_refl _))
/-- a range object just made, walked -/
theorem range_it {pins : List (Addr × Obj)} {σ : St} {H : Hp} {s : Shared} {R : It → Hp → Prop} {E : Value → Shared → Prop} {lo hi : Int} {t u v : Tok} {tk : Nat} (I : Inv X pins σ H s) (h1 : -(2 ^ 62) ≤ lo) (h2 : lo < 2 ^ 62) (h3 : -(2 ^ 62) ≤ hi) (h4 : hi < 2 ^ 62)
    (q : R (Itr lo (hi - lo).toNat) H) : wpAny (model X.prog X.w) X.A (pyIter (.ref s.heap.objs.size)) (PIE X pins σ tg R) E { s with heap := s.heap.push { cls := .type "range", data := .fields #[.int lo t, .int hi u, .int 1 v] }, toks := tk } := by
  refine wpAny_pyIter_range (IsRange.new ..) (small_one h1 h2 h3 h4) ?_
  have I1 : Inv X pins σ H { s with heap := s.heap.push { cls := .type "range", data := .fields #[.int lo t, .int hi u, .int 1 v] }, toks := tk } := I.kept fun b o e => Heap.get?_push_of_some _ e
  refine ⟨(s.heap.push { cls := .type "range", data := .fields #[.int lo t, .int hi u, .int 1 v] }).objs.size, [(s.heap.push { cls := .type "range", data := .fields #[.int lo t, .int hi u, .int 1 v] }).objs.size], _, _, H, rfl,
    I1.kept (t' := tk) fun b o e => Heap.get?_push_of_some _ e, turn_range _ lo (hi - lo).toNat, ?_, fun b hb => ?_, q⟩
  · have e1 : lo + ((0 : Nat) : Int) * 1 = lo := by simp
    have e2 : (((hi - lo).toNat : Nat) : Int) - ((0 : Nat) : Int) = Builtin.Range.rangeSize lo hi 1 := by rw [rangeSize_one]; split <;> omega
    show IsRangeIter _ _ (lo + ((0 : Nat) : Int) * 1) ((((hi - lo).toNat : Nat) : Int) - ((0 : Nat) : Int)) 1
    rw [e1, e2]
    exact Heap.get?_push_size _ rfl
  · have e : b = (s.heap.push { cls := .type "range", data := .fields #[.int lo t, .int hi u, .int 1 v] }).objs.size := by simpa using hb
    subst e
    exact I1.fpOk (Nat.le_refl _) (I1.hok.fresh (Nat.le_refl _))
def iRng1 (ta : TA) : TI := fun σ H R => ta σ H fun vs H1 => ∃ j : Int, vs = [.int j] ∧ -(2 ^ 62) ≤ j ∧ j < 2 ^ 62 ∧ R (Itr 0 j.toNat) H1
def iRng2 (ta : TA) : TI := fun σ H R => ta σ H fun vs H1 => ∃ i j : Int, vs = [.int i, .int j] ∧ (-(2 ^ 62) ≤ i ∧ i < 2 ^ 62 ∧ -(2 ^ 62) ≤ j ∧ j < 2 ^ 62) ∧ R (Itr i (j - i).toNat) H1
theorem pi_range1 {a : Expr} {ta : TA} {p pos : Pos} (hg : Gl X "range") (hm : X.mg "range" = none) (ha : PA X [a] ta) (hs : starEach [a] X.env = [(false, eval a X.env)] := by rfl) : PI X tg (.Call (.Name "range" p) [a] [] pos) (iRng1 ta) := by
  intro pins s σ H R I h
  refine Call_ (ld_blt I hg hm boot_range (PyProof.Rows.callWith_type1 (thn (ha pos pins s σ H _ I h) fun us s1 ⟨vs, H1, I1, r1, q1⟩ => ?_) hs rfl))
  obtain ⟨j, e, q1, q2, q⟩ := q1
  subst e
  cases r1 with
  | cons r rr =>
    cases rr
    obtain ⟨t, rfl⟩ := r
    exact call_range_1 (range_it I1 (by omega) (by omega) q1 q2 (by simpa using q))
theorem pi_range2 {a b : Expr} {ta : TA} {p pos : Pos} (hg : Gl X "range") (hm : X.mg "range" = none) (ha : PA X [a, b] ta) (hs : starEach [a, b] X.env = [(false, eval a X.env), (false, eval b X.env)] := by rfl) (hs2 : starEach [b] X.env = [(false, eval b X.env)] := by rfl) :
    PI X tg (.Call (.Name "range" p) [a, b] [] pos) (iRng2 ta) := by
  intro pins s σ H R I h
  refine Call_ (ld_blt I hg hm boot_range (PyProof.Rows.callWith_type1 (thn (ha pos pins s σ H _ I h) fun us s1 ⟨vs, H1, I1, r1, q1⟩ => ?_) (by rw [hs, hs2]) (by rw [hs2]; rfl)))
  obtain ⟨i, j, e, ⟨q1, q2, q3, q4⟩, q⟩ := q1
  subst e
  cases r1 with
  | cons r rr =>
    cases rr with
    | cons r' rr =>
      cases rr
      obtain ⟨t, rfl⟩ := r
      obtain ⟨t', rfl⟩ := r'
      exact call_range_2 (range_it I1 q1 q2 q3 q4 q)

/-! ### for -/
/-- W: the invariant by the turn and a measure; N: what the body is to reach -/
def tFor (wi : TI) (g : TG) (tb : TS) : TS := fun D σ H => wi σ H fun J H1 => ∃ W : Nat → Nat → St → Hp → Prop, (∃ m, W 0 m σ H1) ∧ ∀ i m σ H, W i m σ H →
  (J.stop i H ∧ D.nx σ H) ∨ (J.go i H ∧ ∃ N : St → Hp → Prop, (∀ σ' H', N σ' H' → ∃ m', m' < m ∧ W (i + 1) m' σ' H') ∧ ∀ x H', J.yld i H x H' → g x σ H' fun σ2 H2 => tb { D with nx := N, ct := N, bk := D.nx } σ2 H2)
/-- the records at fp as they stand -/
def pinsAt (fp : List Addr) (h : Heap) : List (Addr × Obj) := fp.filterMap fun b => (h.get? b).map fun o => (b, o)
theorem mem_pinsAt {fp : List Addr} {h : Heap} {b : Addr} {o : Obj} (hb : b ∈ fp) (e : h.get? b = some o) : (b, o) ∈ pinsAt fp h := List.mem_filterMap.mpr ⟨b, hb, by rw [e]; rfl⟩
theorem of_pinsAt {fp : List Addr} {h : Heap} {p : Addr × Obj} (hp : p ∈ pinsAt fp h) : p.1 ∈ fp ∧ h.get? p.1 = some p.2 := by
  obtain ⟨b, hb, e⟩ := List.mem_filterMap.mp hp
  cases q : h.get? b with
  | none => rw [q] at e; cases e
  | some o =>
    rw [q] at e
    have e' : (b, o) = p := Option.some.inj e
    subst e'
    exact ⟨hb, q⟩
theorem Inv.pinned {pins : List (Addr × Obj)} {σ : St} {H : Hp} {s : Shared} {fp : List Addr} (I : Inv X pins σ H s) (hf : ∀ b ∈ fp, FpOk X pins H b) (ho : ∀ b ∈ fp, ∃ o, s.heap.get? b = some o ∧ ∀ v, o.data ≠ .cell v) : Inv X (pins ++ pinsAt fp s.heap) σ H s :=
  I.pins_of fun p hp => (List.mem_append.mp hp).elim (fun z => I.pin p (List.mem_append_right _ z)) fun z => by
    obtain ⟨hb, e⟩ := of_pinsAt z
    obtain ⟨f0, f1, f2, _⟩ := hf p.1 hb
    obtain ⟨o, e', d⟩ := ho p.1 hb
    rw [e] at e'; cases e'
    exact ⟨e, f0, f1, f2, d⟩
theorem Inv.unpinned {pins pl : List (Addr × Obj)} {σ : St} {H : Hp} {s : Shared} (I : Inv X (pins ++ pl) σ H s) : Inv X pins σ H s := I.pins_of fun p hp => I.pin p (List.mem_append_right _ (List.mem_append_left _ hp))
theorem ps_for {iter : Expr} {body : List Stmt} {wi : TI} {g : TG} {tb : TS} {pos : Pos} (hp : PassesOwn (model X.prog X.w) X.A X.env X.xe) (hc : X.calm = true) (hi : PI X tg iter wi) (hg : PG X tg g) (hb : PSs X body tb)
    (hs : ∀ x, foldedSetIterable iter X.env x = pure x := by intro _; rfl) : PS X (.For tg iter body [] pos) (tFor wi g tb) := by
  intro pins s σ H D I h
  refine wpAny_For (thn (hi pins s σ H _ I h) fun v s1 h1 => thn h1 fun itv s2 h2 => ?_) hs
  obtain ⟨it, fp, tn, J, H2, e, I2, T, st2, f2, W, ⟨m0, w0⟩, turn⟩ := h2
  subst e
  -- what stays true of the iterator's objects through the loop
  have stat : ∀ {H' : Hp}, (∀ b ∈ fp, H' b = none) → ∀ b ∈ fp, FpOk X pins H' b := fun hn b hb => ⟨hn b hb, (f2 b hb).2⟩
  refine codeAny_forLoop_any (fun n s' => ∃ i σ' H', Inv X pins σ' H' s' ∧ tn i s'.heap ∧ (∀ b ∈ fp, H' b = none) ∧ W i n σ' H') ?_ m0 ⟨0, σ, H2, I2, st2, fun b hb => (f2 b hb).1, w0⟩
  rintro n s3 ⟨i, σ3, H3, I3, st3, fr3, w3⟩
  rcases turn i n σ3 H3 w3 with ⟨stop, qn⟩ | ⟨go, N, hN, step⟩
  · refine wpAny_passesOwn hp (thn (T.done X rfl rfl rfl hc i pins s3 σ3 H3 X.xe I3 (stat fr3) st3 stop) fun r s4 ⟨hr, I4⟩ => ?_)
    subst hr
    exact wpAny_execs_nil ⟨σ3, H3, I4, qn⟩
  · refine wpAny_passesOwn hp (thn (T.item X rfl rfl rfl hc i pins s3 σ3 H3 X.xe I3 (stat fr3) st3 go) fun r s4 ⟨u, hr, h4⟩ => ?_)
    subst hr
    refine wpAny_passesOwn hp (thn h4 fun _ s5 ⟨x, H5, I5, r5, y5, st5, fr5⟩ => ?_)
    have I5' := I5.pinned (stat fr5) (T.obj _ _ st5)
    refine wpAny_passesOwn hp (thn (hg _ s5 σ3 H5 x u _ I5' r5 (step x H5 y5)) fun _ s6 ⟨σ6, H6, I6, q6⟩ => ?_)
    refine wpAny_passesOwn hp (thn (hb _ s6 σ6 H6 _ I6 q6) fun f s7 q7 => ?_)
    have again : ∀ {σ7 : St} {H7 : Hp}, Inv X (pins ++ pinsAt fp s5.heap) σ7 H7 s7 → N σ7 H7 → ∃ m, m < n ∧ ∃ i σ' H', Inv X pins σ' H' s7 ∧ tn i s7.heap ∧ (∀ b ∈ fp, H' b = none) ∧ W i m σ' H' := fun {σ7 H7} I7 n7 => by
      obtain ⟨m', hm, w7⟩ := hN σ7 H7 n7
      refine ⟨m', hm, i + 1, σ7, H7, I7.unpinned, T.keep _ _ _ st5 fun b hb o e => (I7.pin (b, o) (List.mem_append_right _ (List.mem_append_right _ (mem_pinsAt hb e)))).1, fun b hb => ?_, w7⟩
      obtain ⟨o, e, d⟩ := T.obj _ _ st5 b hb
      exact (I7.pin (b, o) (List.mem_append_right _ (List.mem_append_right _ (mem_pinsAt hb e)))).2.1
    cases f with
    | next => obtain ⟨σ7, H7, I7, n7⟩ := q7; exact again I7 n7
    | cont => obtain ⟨σ7, H7, I7, n7⟩ := q7; exact again I7 n7
    | brk => obtain ⟨σ7, H7, I7, q7⟩ := q7; exact ⟨σ7, H7, I7.unpinned, q7⟩
    | ret v => obtain ⟨x7, σ7, H7, I7, r7, q7⟩ := q7; exact ⟨x7, σ7, H7, I7.unpinned, r7, q7⟩
end

/-! ### the forms one uses -/
/-- over a list that the body leaves as it is -/
theorem for_list {K : PySem.W.Frag} {a : Addr} {xs : List V} {g : TG} {tb : TS} {D : Ends} {σ : St} {H : Hp} (Pv : Nat → St → Hp → Prop) (h0 : Pv 0 σ H) (hl : ∀ i σ H, i ≤ xs.length → Pv i σ H → SqL K H a xs)
    (hs : ∀ i x σ H, xs[i]? = some x → Pv i σ H → g x σ H fun σ2 H2 => tb { D with nx := Pv (i + 1), ct := Pv (i + 1), bk := D.nx } σ2 H2) (hd : ∀ σ H, Pv xs.length σ H → D.nx σ H) :
    ∃ W : Nat → Nat → St → Hp → Prop, (∃ m, W 0 m σ H) ∧ ∀ i m σ H, W i m σ H →
      ((Itl K a).stop i H ∧ D.nx σ H) ∨ ((Itl K a).go i H ∧ ∃ N : St → Hp → Prop, (∀ σ' H', N σ' H' → ∃ m', m' < m ∧ W (i + 1) m' σ' H') ∧ ∀ x H', (Itl K a).yld i H x H' → g x σ H' fun σ2 H2 => tb { D with nx := N, ct := N, bk := D.nx } σ2 H2) := by
  refine ⟨fun i m σ H => m = xs.length - i ∧ i ≤ xs.length ∧ Pv i σ H, ⟨xs.length, by simp, Nat.zero_le _, h0⟩, ?_⟩
  rintro i m σ H ⟨rfl, hi, p⟩
  have q := hl i σ H hi p
  by_cases hlt : i < xs.length
  · refine .inr ⟨⟨xs, xs[i], q, by simp [hlt]⟩, Pv (i + 1), fun σ' H' p' => ⟨xs.length - (i + 1), by omega, rfl, hlt, p'⟩, fun x H' y => ?_⟩
    obtain ⟨e, y⟩ := y
    subst e
    exact hs i x σ _ (y xs q) p
  · have e : i = xs.length := by omega
    subst e
    exact .inl ⟨⟨xs, q, Nat.le_refl _⟩, hd σ H p⟩
theorem for_tup {K : PySem.W.Frag} {a : Addr} {xs : List V} {g : TG} {tb : TS} {D : Ends} {σ : St} {H : Hp} (Pv : Nat → St → Hp → Prop) (h0 : Pv 0 σ H) (hl : ∀ i σ H, i ≤ xs.length → Pv i σ H → SqT K H a xs)
    (hs : ∀ i x σ H, xs[i]? = some x → Pv i σ H → g x σ H fun σ2 H2 => tb { D with nx := Pv (i + 1), ct := Pv (i + 1), bk := D.nx } σ2 H2) (hd : ∀ σ H, Pv xs.length σ H → D.nx σ H) :
    ∃ W : Nat → Nat → St → Hp → Prop, (∃ m, W 0 m σ H) ∧ ∀ i m σ H, W i m σ H →
      ((Itt K a).stop i H ∧ D.nx σ H) ∨ ((Itt K a).go i H ∧ ∃ N : St → Hp → Prop, (∀ σ' H', N σ' H' → ∃ m', m' < m ∧ W (i + 1) m' σ' H') ∧ ∀ x H', (Itt K a).yld i H x H' → g x σ H' fun σ2 H2 => tb { D with nx := N, ct := N, bk := D.nx } σ2 H2) := by
  refine ⟨fun i m σ H => m = xs.length - i ∧ i ≤ xs.length ∧ Pv i σ H, ⟨xs.length, by simp, Nat.zero_le _, h0⟩, ?_⟩
  rintro i m σ H ⟨rfl, hi, p⟩
  have q := hl i σ H hi p
  by_cases hlt : i < xs.length
  · refine .inr ⟨⟨xs, xs[i], q, by simp [hlt]⟩, Pv (i + 1), fun σ' H' p' => ⟨xs.length - (i + 1), by omega, rfl, hlt, p'⟩, fun x H' y => ?_⟩
    obtain ⟨e, y⟩ := y
    subst e
    exact hs i x σ _ (y xs q) p
  · have e : i = xs.length := by omega
    subst e
    exact .inl ⟨⟨xs, q, Nat.le_refl _⟩, hd σ H p⟩
theorem for_range {lo : Int} {n : Nat} {g : TG} {tb : TS} {D : Ends} {σ : St} {H : Hp} (Pv : Nat → St → Hp → Prop) (h0 : Pv 0 σ H)
    (hs : ∀ i σ H, i < n → Pv i σ H → g (.int (lo + i)) σ H fun σ2 H2 => tb { D with nx := Pv (i + 1), ct := Pv (i + 1), bk := D.nx } σ2 H2) (hd : ∀ σ H, Pv n σ H → D.nx σ H) :
    ∃ W : Nat → Nat → St → Hp → Prop, (∃ m, W 0 m σ H) ∧ ∀ i m σ H, W i m σ H →
      ((Itr lo n).stop i H ∧ D.nx σ H) ∨ ((Itr lo n).go i H ∧ ∃ N : St → Hp → Prop, (∀ σ' H', N σ' H' → ∃ m', m' < m ∧ W (i + 1) m' σ' H') ∧ ∀ x H', (Itr lo n).yld i H x H' → g x σ H' fun σ2 H2 => tb { D with nx := N, ct := N, bk := D.nx } σ2 H2) := by
  refine ⟨fun i m σ H => m = n - i ∧ i ≤ n ∧ Pv i σ H, ⟨n, by simp, Nat.zero_le _, h0⟩, ?_⟩
  rintro i m σ H ⟨rfl, hi, p⟩
  by_cases hlt : i < n
  · refine .inr ⟨hlt, Pv (i + 1), fun σ' H' p' => ⟨n - (i + 1), by omega, rfl, hlt, p'⟩, fun x H' y => ?_⟩
    obtain ⟨e, y⟩ := y
    subst e y
    exact hs i σ _ hlt p
  · have e : i = n := by omega
    subst e
    exact .inl ⟨Nat.le_refl _, hd σ H p⟩
/-- while, by a word and a measure of the state -/
theorem while_by {c : TT} {tb : TS} {D : Ends} {σ : St} {H : Hp} (Pv : St → Hp → Prop) (μ : St → Hp → Nat) (h0 : Pv σ H)
    (hs : ∀ σ H, Pv σ H → c σ H fun b H1 => if b = true then tb { D with nx := fun σ' H' => Pv σ' H' ∧ μ σ' H' < μ σ H, ct := fun σ' H' => Pv σ' H' ∧ μ σ' H' < μ σ H, bk := D.nx } σ H1 else D.nx σ H1)
    (mono : ∀ σ H Q Q', (∀ b H1, Q b H1 → Q' b H1) → c σ H Q → c σ H Q') : tWhile c tb D σ H := by
  refine ⟨fun m σ H => m = μ σ H ∧ Pv σ H, ⟨_, rfl, h0⟩, ?_⟩
  rintro m σ H ⟨rfl, p⟩
  refine mono σ H _ _ (fun b H1 q => ?_) (hs σ H p)
  cases b with
  | true => exact ⟨_, fun σ' H' ⟨p', l⟩ => ⟨_, l, rfl, p'⟩, q⟩
  | false => exact q
end L2

namespace L2
open PySem PySem.Spec PyProof.Rows

abbrev R2 := V → V → Hp → VK → Prop
/-- a two-place operation on values: f is binaryOp op, inplaceOp op or compareOp op -/
def OpR (X : Cx) (f : Value → Value → Sem Value) (r : R2) : Prop :=
  ∀ (pins : List (Addr × Obj)) (s : Shared) (σ : St) (H : Hp) (x y : V) (v u : Value) (Q : VK), Inv X pins σ H s → RelV x v → RelV y u → r x y H Q →
    wpAny (model X.prog X.w) X.A (f v u) (EP X pins σ Q) X.xe s
/-- a one-place operation -/
def UnR (X : Cx) (f : Value → Sem Value) (r : V → Hp → VK → Prop) : Prop :=
  ∀ (pins : List (Addr × Obj)) (s : Shared) (σ : St) (H : Hp) (x : V) (v : Value) (Q : VK), Inv X pins σ H s → RelV x v → r x H Q →
    wpAny (model X.prog X.w) X.A (f v) (EP X pins σ Q) X.xe s
/-- a call of a value that is known (a builtin, a type) with values -/
def CallR (X : Cx) (f : Value) (r : List V → Hp → VK → Prop) : Prop :=
  ∀ (pins : List (Addr × Obj)) (s : Shared) (σ : St) (H : Hp) (xs : List V) (us : List Value) (Q : VK), Inv X pins σ H s → Vals xs us → r xs H Q →
    wpAny (model X.prog X.w) X.A (call f us) (EP X pins σ Q) X.xe s
/-- a value's truth -/
def TruR (X : Cx) (r : V → Hp → (Bool → Hp → Prop) → Prop) : Prop :=
  ∀ (pins : List (Addr × Obj)) (s : Shared) (σ : St) (H : Hp) (x : V) (v : Value) (Q : Bool → Hp → Prop), Inv X pins σ H s → RelV x v → r x H Q →
    wpAny (model X.prog X.w) X.A (truthy v) (TP X pins σ Q) X.xe s

def tOp (r : R2) (ta tb : TE) : TE := fun σ H Q => ta σ H fun x H1 => tb σ H1 fun y H2 => r x y H2 Q
def tUn (r : V → Hp → VK → Prop) (ta : TE) : TE := fun σ H Q => ta σ H fun x H1 => r x H1 Q
/-- ints in, under C, and a value out -/
def rI (C : Int → Int → Prop) (g : Int → Int → V) : R2 := fun x y H Q => ∃ i j, x = .int i ∧ y = .int j ∧ C i j ∧ Q (g i j) H
def rI0 (g : Int → Int → V) : R2 := fun x y H Q => ∃ i j, x = .int i ∧ y = .int j ∧ Q (g i j) H
def rU (g : Int → V) : V → Hp → VK → Prop := fun x H Q => ∃ i, x = .int i ∧ Q (g i) H

section
variable {X : Cx} {a b c : Expr} {ta tb tc : TE} {pos : Pos}

theorem binT (ha : PE X a ta) (hb : PE X b tb) {pins : List (Addr × Obj)} {s : Shared} {σ : St} {H : Hp} {R : V → V → Hp → Prop} (I : Inv X pins σ H s)
    (h : ta σ H fun x H1 => tb σ H1 fun y H2 => R x y H2) {Q : Value → Shared → Prop} {f : Value → Value → Sem Value}
    (hf : ∀ v u s2 x y H2, Inv X pins σ H2 s2 → RelV x v → RelV y u → R x y H2 → wpAny (model X.prog X.w) X.A (f v u) Q X.xe s2) :
    wpAny (model X.prog X.w) X.A (eval a X.env) (fun v s₁ => wpAny (model X.prog X.w) X.A (eval b X.env) (fun u s₂ => wpAny (model X.prog X.w) X.A (f v u) Q X.xe s₂) X.xe s₁) X.xe s := by
  refine thn (ha pins s σ H _ I h) fun v s1 ⟨x, H1, I1, r1, q1⟩ => ?_
  refine thn (hb pins s1 σ H1 _ I1 q1) fun u s2 ⟨y, H2, I2, r2, q2⟩ => ?_
  exact hf v u s2 x y H2 I2 r1 r2 q2

theorem pe_op {op : Operator} {r : R2} (ho : OpR X (binaryOp op) r) (ha : PE X a ta) (hb : PE X b tb) : PE X (.BinOp a op b pos) (tOp r ta tb) := by
  intro pins s σ H Q I h
  exact wpAny_BinOp (binT ha hb I h fun v u s2 x y H2 I2 rx ry q => ho pins s2 σ H2 x y v u Q I2 rx ry q)
theorem pe_un {op : UnaryOp} {r : V → Hp → VK → Prop} (ho : UnR X (unaryOp op) r) (ha : PE X a ta) : PE X (.UnaryOp op a pos) (tUn r ta) := by
  intro pins s σ H Q I h
  exact UnaryOp_ (thn (ha pins s σ H _ I h) fun v s1 ⟨x, H1, I1, r1, q1⟩ => ho pins s1 σ H1 x v Q I1 r1 q1)
/-- a op= e at a name: the name's slot i -/
theorem augR {op : Operator} {r : R2} (ho : OpR X (inplaceOp op) r) {pins : List (Addr × Obj)} {s : Shared} {σ : St} {H : Hp} {x y : V} {v u : Value} {Q : VK} (I : Inv X pins σ H s)
    (rx : RelV x v) (ry : RelV y u) (q : r x y H Q) : wpAny (model X.prog X.w) X.A (inplaceOp op v u) (EP X pins σ Q) X.xe s := ho pins s σ H x y v u Q I rx ry q

/-! ### ints -/
theorem opI {f : Value → Value → Sem Value} {C : Int → Int → Prop} {g : Int → Int → Int}
    (rule : ∀ (i j : Int) (t u : Tok) (s : Shared) (Q : Value → Shared → Prop) (E : Value → Shared → Prop), C i j → Q (.int (g i j) s.toks) { s with toks := s.toks + 1 } → wpAny (model X.prog X.w) X.A (f (.int i t) (.int j u)) Q E s) :
    OpR X f (rI C fun i j => .int (g i j)) := by
  intro pins s σ H x y v u Q I rx ry h
  obtain ⟨i, j, rfl, rfl, hc, q⟩ := h
  obtain ⟨t, rfl⟩ := rx
  obtain ⟨t', rfl⟩ := ry
  exact rule i j t t' s _ _ hc ⟨.int (g i j), H, I.tok _, ⟨_, rfl⟩, q⟩
theorem opI0 {f : Value → Value → Sem Value} {g : Int → Int → Int}
    (rule : ∀ (i j : Int) (t u : Tok) (s : Shared) (Q : Value → Shared → Prop) (E : Value → Shared → Prop), Q (.int (g i j) s.toks) { s with toks := s.toks + 1 } → wpAny (model X.prog X.w) X.A (f (.int i t) (.int j u)) Q E s) :
    OpR X f (rI0 fun i j => .int (g i j)) := by
  intro pins s σ H x y v u Q I rx ry h
  obtain ⟨i, j, rfl, rfl, q⟩ := h
  obtain ⟨t, rfl⟩ := rx
  obtain ⟨t', rfl⟩ := ry
  exact rule i j t t' s _ _ ⟨.int (g i j), H, I.tok _, ⟨_, rfl⟩, q⟩
theorem opB0 {f : Value → Value → Sem Value} {g : Int → Int → Bool}
    (rule : ∀ (i j : Int) (t u : Tok) (s : Shared) (Q : Value → Shared → Prop) (E : Value → Shared → Prop), Q (.bool (g i j)) s → wpAny (model X.prog X.w) X.A (f (.int i t) (.int j u)) Q E s) :
    OpR X f (rI0 fun i j => .bl (g i j)) := by
  intro pins s σ H x y v u Q I rx ry h
  obtain ⟨i, j, rfl, rfl, q⟩ := h
  obtain ⟨t, rfl⟩ := rx
  obtain ⟨t', rfl⟩ := ry
  exact rule i j t t' s _ _ ⟨.bl (g i j), H, I, rfl, q⟩

def CDiv (i j : Int) : Prop := 0 < j ∧ j < 1073741824
def CDivN (i j : Int) : Prop := j ≠ 0 ∧ j.natAbs < 1073741824
def CPow (i j : Int) : Prop := 0 ≤ j ∧ j ≤ 1000000 ∧ i.natAbs < 2 ^ 64
def CMul (i j : Int) : Prop := (-(2 ^ 64) < i ∧ i < 2 ^ 64) ∨ (-(2 ^ 64) < j ∧ j < 2 ^ 64)
theorem CMul.ok {i j : Int} (h : CMul i j) : IntMulOk i j := by
  rcases h with ⟨h1, h2⟩ | ⟨h1, h2⟩
  · exact .of_left (intBits_le_64 h1 h2)
  · exact .of_right (intBits_le_64 h1 h2)
theorem two_pow_nn (k : Nat) : (0 : Int) ≤ 2 ^ k := by
  rw [two_pow_cast]
  exact Int.natCast_nonneg _

theorem op_add : OpR X (binaryOp .Add) (rI0 fun i j => .int (i + j)) := opI0 fun _ _ _ _ _ _ _ q => add_int q
theorem op_sub : OpR X (binaryOp .Sub) (rI0 fun i j => .int (i - j)) := opI0 fun _ _ _ _ _ _ _ q => sub_int q
theorem op_mul : OpR X (binaryOp .Mult) (rI CMul fun i j => .int (i * j)) := opI fun _ _ _ _ _ _ _ hc q => mul_int q hc.ok
/-- // by a positive divisor -/
theorem op_fdiv : OpR X (binaryOp .FloorDiv) (rI CDiv fun i j => .int (i / j)) := opI fun i j _ _ _ _ _ hc q => by
  have h1 : (0 : Int) < j := hc.1
  have h2 : j < 1073741824 := hc.2
  exact floordiv_int (by omega) (by rw [Int.fdiv_eq_ediv_of_nonneg i (by omega)]; exact q) (.inl (PyProof.noPylong_small (by omega)))
theorem op_fdivN : OpR X (binaryOp .FloorDiv) (rI CDivN fun i j => .int (i.fdiv j)) := opI fun _ _ _ _ _ _ _ hc q => floordiv_int hc.1 q (.inl (PyProof.noPylong_small hc.2))
/-- % by a positive divisor of any size -/
theorem op_mod : OpR X (binaryOp .Mod) (rI (fun _ j => 0 < j) fun i j => .int (i % j)) := opI fun i j _ _ _ _ _ hc q => by
  have h1 : (0 : Int) < j := hc
  exact mod_int' (by omega) (by rw [Int.fmod_eq_emod_of_nonneg i (by omega)]; exact q)
theorem op_modN : OpR X (binaryOp .Mod) (rI (fun _ j => j ≠ 0) fun i j => .int (i.fmod j)) := opI fun _ _ _ _ _ _ _ hc q => mod_int' hc q
theorem op_pow : OpR X (binaryOp .Pow) (rI CPow fun i j => .int (i ^ j.toNat)) := opI fun _ _ _ _ _ _ _ hc q => pow_int_small hc.1 hc.2.1 hc.2.2 q
theorem op_shl : OpR X (binaryOp .LShift) (rI CPow fun i j => .int (i * 2 ^ j.toNat)) := opI fun _ _ _ _ _ _ _ hc q => lshift_int_small hc.1 hc.2.1 hc.2.2 q
theorem op_shr : OpR X (binaryOp .RShift) (rI (fun _ j => 0 ≤ j) fun i j => .int (i / 2 ^ j.toNat)) := opI fun i j _ _ _ _ _ hc q =>
  rshift_int hc (by rw [Int.fdiv_eq_ediv_of_nonneg i (two_pow_nn _)]; exact q)
theorem op_and : OpR X (binaryOp .BitAnd) (rI0 fun i j => .int (Builtin.bitAnd i j)) := opI0 fun _ _ _ _ _ _ _ q => and_int q
theorem op_or : OpR X (binaryOp .BitOr) (rI0 fun i j => .int (Builtin.bitOr i j)) := opI0 fun _ _ _ _ _ _ _ q => or_int q
theorem op_xor : OpR X (binaryOp .BitXor) (rI0 fun i j => .int (Builtin.bitXor i j)) := opI0 fun _ _ _ _ _ _ _ q => xor_int q

theorem iop_add : OpR X (inplaceOp .Add) (rI0 fun i j => .int (i + j)) := opI0 fun _ _ _ _ _ _ _ q => iadd_int q
theorem iop_sub : OpR X (inplaceOp .Sub) (rI0 fun i j => .int (i - j)) := opI0 fun _ _ _ _ _ _ _ q => isub_int q
theorem iop_mul : OpR X (inplaceOp .Mult) (rI CMul fun i j => .int (i * j)) := opI fun _ _ _ _ _ _ _ hc q => imul_int q hc.ok
theorem iop_fdiv : OpR X (inplaceOp .FloorDiv) (rI CDiv fun i j => .int (i / j)) := opI fun i j _ _ _ _ _ hc q => by
  have h1 : (0 : Int) < j := hc.1
  have h2 : j < 1073741824 := hc.2
  exact ifloordiv_int (by omega) (by rw [Int.fdiv_eq_ediv_of_nonneg i (by omega)]; exact q) (.inl (PyProof.noPylong_small (by omega)))
theorem iop_mod : OpR X (inplaceOp .Mod) (rI (fun _ j => 0 < j) fun i j => .int (i % j)) := opI fun i j _ _ _ _ _ hc q => by
  have h1 : (0 : Int) < j := hc
  exact imod_int (by omega) (by rw [Int.fmod_eq_emod_of_nonneg i (by omega)]; exact q)
theorem iop_shl : OpR X (inplaceOp .LShift) (rI CPow fun i j => .int (i * 2 ^ j.toNat)) := opI fun _ _ _ _ _ _ _ hc q => ilshift_int_small hc.1 hc.2.1 hc.2.2 q
theorem iop_shr : OpR X (inplaceOp .RShift) (rI (fun _ j => 0 ≤ j) fun i j => .int (i / 2 ^ j.toNat)) := opI fun i j _ _ _ _ _ hc q =>
  irshift_int hc (by rw [Int.fdiv_eq_ediv_of_nonneg i (two_pow_nn _)]; exact q)
theorem iop_and : OpR X (inplaceOp .BitAnd) (rI0 fun i j => .int (Builtin.bitAnd i j)) := opI0 fun _ _ _ _ _ _ _ q => iand_int q
theorem iop_or : OpR X (inplaceOp .BitOr) (rI0 fun i j => .int (Builtin.bitOr i j)) := opI0 fun _ _ _ _ _ _ _ q => ior_int q
theorem iop_xor : OpR X (inplaceOp .BitXor) (rI0 fun i j => .int (Builtin.bitXor i j)) := opI0 fun _ _ _ _ _ _ _ q => ixor_int q

theorem unI {f : Value → Sem Value} {g : Int → Int}
    (rule : ∀ (i : Int) (t : Tok) (s : Shared) (Q : Value → Shared → Prop) (E : Value → Shared → Prop), Q (.int (g i) s.toks) { s with toks := s.toks + 1 } → wpAny (model X.prog X.w) X.A (f (.int i t)) Q E s) :
    UnR X f (rU fun i => .int (g i)) := by
  intro pins s σ H x v Q I rx h
  obtain ⟨i, rfl, q⟩ := h
  obtain ⟨t, rfl⟩ := rx
  exact rule i t s _ _ ⟨.int (g i), H, I.tok _, ⟨_, rfl⟩, q⟩
theorem un_neg : UnR X (unaryOp .USub) (rU fun i => .int (-i)) := unI fun _ _ _ _ _ q => neg_int q
theorem un_inv : UnR X (unaryOp .Invert) (rU fun i => .int (Builtin.bitNot i)) := unI fun _ _ _ _ _ q => invert_int q

/-! ### bools among ints: n += (a < b) -/
theorem op_add_ib : OpR X (binaryOp .Add) (fun x y H Q => ∃ i k, x = .int i ∧ y = .bl k ∧ Q (.int (i + b2i k)) H) := by
  intro pins s σ H x y v u Q I rx ry h
  obtain ⟨i, k, rfl, rfl, q⟩ := h
  obtain ⟨t, rfl⟩ := rx
  cases ry
  exact add_int_bool ⟨.int (i + b2i k), H, I.tok _, ⟨_, rfl⟩, q⟩
end

/-! ### comparisons -/
/-- the scalars that == tells apart as data does -/
def scal : V → V → Bool
  | .non, .non => true | .non, .int _ => true | .int _, .non => true | .non, .bl _ => true | .bl _, .non => true | .non, .str _ => true | .str _, .non => true
  | .int _, .int _ => true | .bl _, .bl _ => true | .str _, .str _ => true | .byt _, .byt _ => true
  | .int _, .str _ => true | .str _, .int _ => true | .bl _, .str _ => true | .str _, .bl _ => true
  | _, _ => false
def rEq : R2 := fun x y H Q => scal x y = true ∧ Q (.bl (decide (x = y))) H
def rNe : R2 := fun x y H Q => scal x y = true ∧ Q (.bl (!decide (x = y))) H

theorem dec_int {i j : Int} : decide (V.int i = V.int j) = (i == j) := by
  rw [Bool.eq_iff_iff]
  simp
theorem dec_bl {i j : Bool} : decide (V.bl i = V.bl j) = (i == j) := by
  rw [Bool.eq_iff_iff]
  simp
theorem dec_str {i j : Str} : decide (V.str i = V.str j) = (i == j) := by
  rw [Bool.eq_iff_iff]
  simp
theorem dec_byt {i j : Array UInt8} : decide (V.byt i = V.byt j) = (i.toList == j.toList) := by
  rw [Bool.eq_iff_iff]
  cases i
  cases j
  simp

section
variable {X : Cx} {a b c : Expr} {ta tb tc : TE} {pos : Pos}
theorem fin_bl {pins : List (Addr × Obj)} {σ : St} {H : Hp} {s : Shared} {Q : VK} {k k' : Bool} (I : Inv X pins σ H s) (q : Q (.bl k) H) (e : k = k') : EP X pins σ Q (.bool k') s := by
  subst e
  exact ⟨.bl k, H, I, rfl, q⟩
theorem op_eq : OpR X (compareOp .Eq) rEq := by
  intro pins s σ H x y v u Q I rx ry h
  obtain ⟨hs, q⟩ := h
  cases x with
  | non =>
    cases rx
    cases y with
    | non => cases ry; exact PySem.EqNone.eq_none_none (fin_bl I q (by simp))
    | bl j => cases ry; exact PySem.EqNone.eq_none_bool (fin_bl I q (by simp))
    | int j => obtain ⟨t', rfl⟩ := ry; exact PySem.EqNone.eq_none_int (fin_bl I q (by simp))
    | str j => obtain ⟨t', rfl⟩ := ry; exact PySem.EqNone.eq_none_str (fin_bl I q (by simp))
    | _ => exact absurd (show false = true from hs) Bool.false_ne_true
  | bl i =>
    cases rx
    cases y with
    | non => cases ry; exact PySem.EqNone.eq_bool_none (fin_bl I q (by simp))
    | bl j => cases ry; exact eq_bool (fin_bl I q dec_bl)
    | str j => obtain ⟨t', rfl⟩ := ry; exact PySem.EqMixed.eq_bool_str (fin_bl I q (by simp))
    | _ => exact absurd (show false = true from hs) Bool.false_ne_true
  | int i =>
    obtain ⟨t, rfl⟩ := rx
    cases y with
    | non => cases ry; exact PySem.EqNone.eq_int_none (fin_bl I q (by simp))
    | int j => obtain ⟨t', rfl⟩ := ry; exact eq_int (fin_bl I q dec_int)
    | str j => obtain ⟨t', rfl⟩ := ry; exact PySem.EqMixed.eq_int_str (fin_bl I q (by simp))
    | _ => exact absurd (show false = true from hs) Bool.false_ne_true
  | str i =>
    obtain ⟨t, rfl⟩ := rx
    cases y with
    | non => cases ry; exact PySem.EqNone.eq_str_none (fin_bl I q (by simp))
    | bl j => cases ry; exact PySem.EqMixed.eq_str_bool (fin_bl I q (by simp))
    | int j => obtain ⟨t', rfl⟩ := ry; exact PySem.EqMixed.eq_str_int (fin_bl I q (by simp))
    | str j => obtain ⟨t', rfl⟩ := ry; exact eq_str (fin_bl I q dec_str)
    | _ => exact absurd (show false = true from hs) Bool.false_ne_true
  | byt i =>
    obtain ⟨t, rfl⟩ := rx
    cases y with
    | byt j => obtain ⟨t', rfl⟩ := ry; exact PySem.W.eq_bytes (fin_bl I q dec_byt)
    | _ => exact absurd (show false = true from hs) Bool.false_ne_true
  | _ => cases y <;> exact absurd (show false = true from hs) Bool.false_ne_true
theorem op_ne : OpR X (compareOp .NotEq) rNe := by
  intro pins s σ H x y v u Q I rx ry h
  obtain ⟨hs, q⟩ := h
  cases x with
  | non =>
    cases rx
    cases y with
    | non => cases ry; exact PySem.EqNone.ne_none_none (fin_bl I q (by simp))
    | bl j => cases ry; exact PySem.EqNone.ne_none_bool (fin_bl I q (by simp))
    | int j => obtain ⟨t', rfl⟩ := ry; exact PySem.EqNone.ne_none_int (fin_bl I q (by simp))
    | str j => obtain ⟨t', rfl⟩ := ry; exact PySem.EqNone.ne_none_str (fin_bl I q (by simp))
    | _ => exact absurd (show false = true from hs) Bool.false_ne_true
  | bl i =>
    cases rx
    cases y with
    | non => cases ry; exact PySem.EqNone.ne_bool_none (fin_bl I q (by simp))
    | bl j => cases ry; exact ne_bool (fin_bl I q (congrArg not dec_bl))
    | str j => obtain ⟨t', rfl⟩ := ry; exact PySem.EqMixed.ne_bool_str (fin_bl I q (by simp))
    | _ => exact absurd (show false = true from hs) Bool.false_ne_true
  | int i =>
    obtain ⟨t, rfl⟩ := rx
    cases y with
    | non => cases ry; exact PySem.EqNone.ne_int_none (fin_bl I q (by simp))
    | int j => obtain ⟨t', rfl⟩ := ry; exact ne_int (fin_bl I q (congrArg not dec_int))
    | str j => obtain ⟨t', rfl⟩ := ry; exact PySem.EqMixed.ne_int_str (fin_bl I q (by simp))
    | _ => exact absurd (show false = true from hs) Bool.false_ne_true
  | str i =>
    obtain ⟨t, rfl⟩ := rx
    cases y with
    | non => cases ry; exact PySem.EqNone.ne_str_none (fin_bl I q (by simp))
    | bl j => cases ry; exact PySem.EqMixed.ne_str_bool (fin_bl I q (by simp))
    | int j => obtain ⟨t', rfl⟩ := ry; exact PySem.EqMixed.ne_str_int (fin_bl I q (by simp))
    | str j => obtain ⟨t', rfl⟩ := ry; exact ne_str (fin_bl I q (congrArg not dec_str))
    | _ => exact absurd (show false = true from hs) Bool.false_ne_true
  | byt i =>
    obtain ⟨t, rfl⟩ := rx
    cases y with
    | byt j => obtain ⟨t', rfl⟩ := ry; exact PySem.W.ne_bytes (fin_bl I q (congrArg not dec_byt))
    | _ => exact absurd (show false = true from hs) Bool.false_ne_true
  | _ => cases y <;> exact absurd (show false = true from hs) Bool.false_ne_true

theorem op_lt : OpR X (compareOp .Lt) (rI0 fun i j => .bl (decide (i < j))) := opB0 fun _ _ _ _ _ _ _ q => lt_int q
theorem op_le : OpR X (compareOp .LtE) (rI0 fun i j => .bl (decide (i ≤ j))) := opB0 fun _ _ _ _ _ _ _ q => le_int q
theorem op_gt : OpR X (compareOp .Gt) (rI0 fun i j => .bl (decide (j < i))) := opB0 fun _ _ _ _ _ _ _ q => gt_int q
theorem op_ge : OpR X (compareOp .GtE) (rI0 fun i j => .bl (decide (j ≤ i))) := opB0 fun _ _ _ _ _ _ _ q => ge_int q
theorem op_lt_str : OpR X (compareOp .Lt) (fun x y H Q => ∃ i j, x = .str i ∧ y = .str j ∧ Q (.bl (decide (i.cps.toList < j.cps.toList))) H) := by
  intro pins s σ H x y v u Q I rx ry h
  obtain ⟨i, j, rfl, rfl, q⟩ := h
  obtain ⟨t, rfl⟩ := rx
  obtain ⟨t', rfl⟩ := ry
  exact lt_str (fin_bl I q rfl)
/-- the one string within the other -/
theorem op_in_str : OpR X (compareOp .In) (fun x y H Q => ∃ i j, x = .str i ∧ y = .str j ∧ Q (.bl (!(Builtin.Str.occurrences j i 0 j.length 1).isEmpty)) H) := by
  intro pins s σ H x y v u Q I rx ry h
  obtain ⟨i, j, rfl, rfl, q⟩ := h
  obtain ⟨t, rfl⟩ := rx
  obtain ⟨t', rfl⟩ := ry
  exact in_str (fin_bl I q rfl)

/-- is None, is not None: the right side a value none -/
theorem op_isN : OpR X (compareOp .Is) (fun x y H Q => y = .non ∧ Q (.bl (decide (x = .non))) H) := by
  intro pins s σ H x y v u Q I rx ry h
  obtain ⟨rfl, q⟩ := h
  cases ry
  refine is_none_gen (fin_bl I q ?_)
  cases x <;> first
    | (cases rx; rfl)
    | (obtain ⟨t, rfl⟩ := rx; rfl)
theorem op_notN : OpR X (compareOp .IsNot) (fun x y H Q => y = .non ∧ Q (.bl (!decide (x = .non))) H) := by
  intro pins s σ H x y v u Q I rx ry h
  obtain ⟨rfl, q⟩ := h
  cases ry
  refine isnot_none_gen (fin_bl I q ?_)
  cases x <;> first
    | (cases rx; rfl)
    | (obtain ⟨t, rfl⟩ := rx; rfl)

theorem op_notin_str : OpR X (compareOp .NotIn) (fun x y H Q => ∃ i j, x = .str i ∧ y = .str j ∧ Q (.bl (!(!(Builtin.Str.occurrences j i 0 j.length 1).isEmpty))) H) := by
  intro pins s σ H x y v u Q I rx ry h
  obtain ⟨i, j, rfl, rfl, q⟩ := h
  obtain ⟨t, rfl⟩ := rx
  obtain ⟨t', rfl⟩ := ry
  exact notIn_str (fin_bl I q rfl)
/-- is, is not of two objects that are tracked lists or instances -/
def isObj : HO → Bool
  | .lst _ => true
  | .ins _ _ _ => true
  | _ => false
theorem obj_there {pins : List (Addr × Obj)} {s : Shared} {σ : St} {H : Hp} {a : Addr} {o : HO} (I : Inv X pins σ H s) (h : H a = some o) (p : isObj o = true) : ∃ ob, s.heap.get? a = some ob ∧ ob.cls ≠ .type "tuple" := by
  cases o with
  | lst xs =>
    obtain ⟨_, its, n, _, e⟩ : xs.length ≤ sizeLine ∧ ∃ (its : List Value) (n : Nat), Vals xs its ∧ s.heap.get? a = some { cls := .type "list", data := .seq its.toArray n } := I.hok a _ h
    exact ⟨_, e, (by show Value.type "list" ≠ .type "tuple"; decide +kernel)⟩
  | ins C dx fs =>
    have x := I.hok a _ h
    obtain ⟨_, _, _, e, _⟩ := x
    exact ⟨_, e, (by show Value.ref C ≠ .type "tuple"; exact fun z => by cases z)⟩
  | _ => exact absurd (show false = true from p) Bool.false_ne_true
theorem op_is_ref : OpR X (compareOp .Is) (fun x y H Q => ∃ a b oa ob, x = .ref a ∧ y = .ref b ∧ H a = some oa ∧ isObj oa = true ∧ H b = some ob ∧ isObj ob = true ∧ Q (.bl (decide (a = b))) H) := by
  intro pins s σ H x y v u Q I rx ry h
  obtain ⟨a, b, oa, ob, rfl, rfl, ha, pa, hb, pb, q⟩ := h
  cases rx
  cases ry
  obtain ⟨o1, e1, n1⟩ := obj_there I ha pa
  obtain ⟨o2, e2, _⟩ := obj_there I hb pb
  by_cases z : a = b
  · subst z
    exact wpAny_is_ref_self (fin_bl I q (by simp))
  · exact wpAny_is_ref_other z e1 e2 n1 (fin_bl I q (by simp [z]))
theorem op_isnot_ref : OpR X (compareOp .IsNot) (fun x y H Q => ∃ a b oa ob, x = .ref a ∧ y = .ref b ∧ H a = some oa ∧ isObj oa = true ∧ H b = some ob ∧ isObj ob = true ∧ Q (.bl (!decide (a = b))) H) := by
  intro pins s σ H x y v u Q I rx ry h
  obtain ⟨a, b, oa, ob, rfl, rfl, ha, pa, hb, pb, q⟩ := h
  cases rx
  cases ry
  obtain ⟨o1, e1, n1⟩ := obj_there I ha pa
  obtain ⟨o2, e2, _⟩ := obj_there I hb pb
  by_cases z : a = b
  · subst z
    exact wpAny_isNot_ref_self (fin_bl I q (by simp))
  · exact wpAny_isNot_ref_other z e1 e2 n1 (fin_bl I q (by simp [z]))

/-- two rules for one operation: by cases -/
theorem OpR.or {f : Value → Value → Sem Value} {r r' : R2} (h : OpR X f r) (h' : OpR X f r') : OpR X f (fun x y H Q => r x y H Q ∨ r' x y H Q) := by
  intro pins s σ H x y v u Q I rx ry q
  rcases q with q | q
  · exact h pins s σ H x y v u Q I rx ry q
  · exact h' pins s σ H x y v u Q I rx ry q

theorem nomark (b : Expr) {op : CmpOp} (h : op ≠ .In := by decide) (h2 : op ≠ .NotIn := by decide) : behindInMarks op b = false := by
  have e1 : (op == CmpOp.In) = false := by cases op <;> first | rfl | exact absurd rfl h
  have e2 : (op == CmpOp.NotIn) = false := by cases op <;> first | rfl | exact absurd rfl h2
  cases b <;> simp [behindInMarks, e1, e2]
/-- a comparison as a value; hm: nomark b, or (for in, not in) by with_unfolding_all rfl -/
theorem pe_cmpR {op : CmpOp} {r : R2} (ho : OpR X (compareOp op) r) (ha : PE X a ta) (hb : PE X b tb) (hm : behindInMarks op b = false) : PE X (.Compare a [op] [b] pos) (tOp r ta tb) := by
  intro pins s σ H Q I h
  exact wpAny_Compare1 (binT ha hb I h fun v u s2 x y H2 I2 rx ry q => ho pins s2 σ H2 x y v u Q I2 rx ry q) hm
/-- a reading of a value as a test -/
def tTest (t : TE) : TT := fun σ H Q => t σ H fun x H' => ∃ k, x = .bl k ∧ Q k H'
theorem pt_cmpR {op : CmpOp} {r : R2} (ho : OpR X (compareOp op) r) (ha : PE X a ta) (hb : PE X b tb) (hm : behindInMarks op b = false) : PT X (.Compare a [op] [b] pos) (tTest (tOp r ta tb)) := by
  intro pins s σ H Q I h
  refine wpAny_isTrue_Compare1 (thn (ha pins s σ H _ I h) fun v s1 ⟨x, H1, I1, r1, q1⟩ => thn (hb pins s1 σ H1 _ I1 q1) fun u s2 ⟨y, H2, I2, r2, q2⟩ =>
    thn (ho pins s2 σ H2 x y v u _ I2 r1 r2 q2) fun c s3 ⟨z, H3, I3, r3, k, e, q3⟩ => ?_) hm
  subst e
  cases r3
  exact wpAny_truthy_bool ⟨H3, I3, q3⟩
/-- a op1 b op2 c -/
def tChain (r r' : R2) (ta tb tc : TE) : TE := fun σ H Q => ta σ H fun x H1 => tb σ H1 fun y H2 => r x y H2 fun z H3 => ∃ k, z = .bl k ∧
  (if k = true then tc σ H3 fun w' H4 => r' y w' H4 Q else Q (.bl false) H3)
theorem pe_chain {op op' : CmpOp} {r r' : R2} (ho : OpR X (compareOp op) r) (ho' : OpR X (compareOp op') r') (ha : PE X a ta) (hb : PE X b tb) (hc : PE X c tc)
    (hm : lastMarks [op, op'] [b, c] = false := by with_unfolding_all rfl) : PE X (.Compare a [op, op'] [b, c] pos) (tChain r r' ta tb tc) := by
  intro pins s σ H Q I h
  refine Compare_chain (thn (ha pins s σ H _ I h) fun v s1 ⟨x, H1, I1, r1, q1⟩ => chain_link (thn (hb pins s1 σ H1 _ I1 q1) fun u s2 ⟨y, H2, I2, r2, q2⟩ =>
    thn (ho pins s2 σ H2 x y v u _ I2 r1 r2 q2) fun d s3 ⟨z, H3, I3, r3, k, e, q3⟩ => ?_)) hm
  subst e
  cases r3
  refine wpAny_truthy_bool ?_
  cases k with
  | false => exact ite_ff ⟨.bl false, H3, I3, rfl, q3⟩
  | true => exact ite_tt (chain_last (thn (hc pins s3 σ H3 _ I3 q3) fun w' s4 ⟨z', H4, I4, r4, q4⟩ => ho' pins s4 σ H4 y z' u w' Q I4 r2 r4 q4))
theorem pt_chain {op op' : CmpOp} {r r' : R2} (ho : OpR X (compareOp op) r) (ho' : OpR X (compareOp op') r') (ha : PE X a ta) (hb : PE X b tb) (hc : PE X c tc)
    (hm : lastMarks [op, op'] [b, c] = false := by with_unfolding_all rfl) : PT X (.Compare a [op, op'] [b, c] pos) (tTest (tChain r r' ta tb tc)) := by
  intro pins s σ H Q I h
  refine isTrue_chain (thn (ha pins s σ H _ I h) fun v s1 ⟨x, H1, I1, r1, q1⟩ => test_link (thn (hb pins s1 σ H1 _ I1 q1) fun u s2 ⟨y, H2, I2, r2, q2⟩ =>
    thn (ho pins s2 σ H2 x y v u _ I2 r1 r2 q2) fun d s3 ⟨z, H3, I3, r3, k, e, q3⟩ => ?_)) hm
  subst e
  cases r3
  refine wpAny_truthy_bool ?_
  cases k with
  | false =>
    obtain ⟨k', e', q'⟩ := q3
    cases e'
    exact ite_ff ⟨H3, I3, q'⟩
  | true =>
    refine ite_tt (test_last (thn (hc pins s3 σ H3 _ I3 q3) fun w' s4 ⟨z', H4, I4, r4, q4⟩ => thn (ho' pins s4 σ H4 y z' u w' _ I4 r2 r4 q4) fun d' s5 ⟨z2, H5, I5, r5, k2, e2, q5⟩ => ?_))
    subst e2
    cases r5
    exact wpAny_truthy_bool ⟨H5, I5, q5⟩

/-! ### truth -/
/-- a value's truth by the abstract heap -/
def TruV (K : PySem.W.Frag) (x : V) (H : Hp) (k : Bool) : Prop :=
  match x with
  | .non => k = false
  | .bl b => k = b
  | .int i => k = (i != 0)
  | .str y => y.length ≤ sizeLine ∧ k = ((y.length : Int) != 0)
  | .byt y => y.size ≤ sizeLine ∧ k = ((y.size : Int) != 0)
  | .ref p => (∃ xs, SqL K H p xs ∧ k = !xs.isEmpty) ∨ (∃ xs, SqT K H p xs ∧ k = !xs.isEmpty) ∨ ∃ kvs, H p = some (.dK kvs) ∧ k = !kvs.isEmpty
  | _ => False
theorem isEmpty_kv {κ : Type} {kvs : List (κ × V)} {vs : List (κ × Value)} (r : KV kvs vs) : (!vs.isEmpty) = !kvs.isEmpty := by
  cases r <;> rfl
theorem isEmpty_of {xs : List V} {its : List Value} (r : Vals xs its) : (!its.toArray.isEmpty) = !xs.isEmpty := by
  cases r <;> simp
theorem line63 : (sizeLine : Nat) < 2 ^ 63 := by rw [sizeLine_eq]; decide
theorem tru_ok : TruR X (fun x H Q => ∃ k, TruV X.K x H k ∧ Q k H) := by
  intro pins s σ H x v Q I rx h
  obtain ⟨k, e, q⟩ := h
  have hl := line63
  have hs : sizeLine = 16777216 := sizeLine_eq
  cases x with
  | non =>
    cases rx
    have e' : k = false := e
    subst e'
    exact truthy_none ⟨H, I, q⟩
  | bl b =>
    cases rx
    have e' : k = b := e
    subst e'
    exact wpAny_truthy_bool ⟨H, I, q⟩
  | int i =>
    obtain ⟨t, rfl⟩ := rx
    have e' : k = (i != 0) := e
    subst e'
    exact PySem.P.truthy_int ⟨H, I, q⟩
  | str y =>
    obtain ⟨t, rfl⟩ := rx
    obtain ⟨hy, e'⟩ : y.length ≤ sizeLine ∧ k = ((y.length : Int) != 0) := e
    subst e'
    exact PySem.P.truthy_str (by omega) ⟨H, I.tok _, q⟩
  | byt y =>
    obtain ⟨t, rfl⟩ := rx
    obtain ⟨hy, e'⟩ : y.size ≤ sizeLine ∧ k = ((y.size : Int) != 0) := e
    subst e'
    exact PySem.W.truthy_bytes (by omega) ⟨H, I.tok _, q⟩
  | ref p =>
    cases rx
    have e' : (∃ xs, SqL X.K H p xs ∧ k = !xs.isEmpty) ∨ (∃ xs, SqT X.K H p xs ∧ k = !xs.isEmpty) ∨ ∃ kvs, H p = some (.dK kvs) ∧ k = !kvs.isEmpty := e
    rcases e' with ⟨xs, hx, e'⟩ | ⟨xs, hx, e'⟩ | ⟨kvs, hx, e'⟩
    · subst e'
      obtain ⟨its, r, pl, hz⟩ := I.list hx
      have hlen := r.length
      exact wpAny_truthy_list pl.isList (by simp only [List.size_toArray]; omega) ⟨H, I.tok _, by rw [isEmpty_of r]; exact q⟩
    · subst e'
      obtain ⟨its, r, pl, hz⟩ := I.tuple hx
      have hlen := r.length
      exact truthy_tuple pl (by simp only [List.size_toArray]; omega) ⟨H, I.tok _, by rw [isEmpty_of r]; exact q⟩
    · subst e'
      obtain ⟨hz, hS, vs, r, m⟩ : kvs.length ≤ sizeLine ∧ (p == sysModules) = false ∧ ∃ vs, KV kvs vs ∧ s.heap.DictOf (mixKind X.prog X.w) p vs := I.hok p _ hx
      have hlen : kvs.length = vs.length := Paired.length r
      exact wpAny_truthy_dict hS m (by omega) ⟨H, I.tok _, by rw [isEmpty_kv r]; exact q⟩
  | _ => exact (show False from e).elim
/-- any expression whose test is its value's truth (a name, a call, a subscript, a field ..: he by fun _ => rfl) -/
theorem pt_truth (ha : PE X a ta) (he : ∀ whole, isTrue a X.env whole = (do let v ← whole; standAt a.pos; holding [v] (truthy v))) :
    PT X a (fun σ H Q => ta σ H fun x H' => ∃ k, TruV X.K x H' k ∧ Q k H') := by
  intro pins s σ H Q I h
  exact isTrue_plain (thn (ha pins s σ H _ I h) fun v s1 ⟨x, H1, I1, r1, q1⟩ => tru_ok pins s1 σ H1 x v Q I1 r1 q1) (he _)

/-! ### strs and bytes -/
theorem pe_byt {x : List UInt8} {k : Nat} : PE X (.Constant (.bytes x) k pos) (fun _ H Q => Q (.byt x.toArray) H) := fun _ _ _ H _ I h => PySem.W.Constant_bytes ⟨.byt x.toArray, H, I.tok _, ⟨_, rfl⟩, h⟩
theorem op_add_str : OpR X (binaryOp .Add) (fun x y H Q => ∃ i j, x = .str i ∧ y = .str j ∧ i.length + j.length ≤ sizeLine ∧ Q (.str (i ++ j)) H) := by
  intro pins s σ H x y v u Q I rx ry h
  obtain ⟨i, j, rfl, rfl, hz, q⟩ := h
  obtain ⟨t, rfl⟩ := rx
  obtain ⟨t', rfl⟩ := ry
  exact add_str (fun t' tk => ⟨.str (i ++ j), H, I.tok _, ⟨_, rfl⟩, q⟩) hz
theorem iop_add_str : OpR X (inplaceOp .Add) (fun x y H Q => ∃ i j, x = .str i ∧ y = .str j ∧ i.length + j.length ≤ sizeLine ∧ Q (.str (i ++ j)) H) := by
  intro pins s σ H x y v u Q I rx ry h
  obtain ⟨i, j, rfl, rfl, hz, q⟩ := h
  obtain ⟨t, rfl⟩ := rx
  obtain ⟨t', rfl⟩ := ry
  exact iadd_str (fun t' tk => ⟨.str (i ++ j), H, I.tok _, ⟨_, rfl⟩, q⟩) hz
theorem op_add_byt : OpR X (binaryOp .Add) (fun x y H Q => ∃ i j, x = .byt i ∧ y = .byt j ∧ i.size + j.size ≤ 16777216 ∧ Q (.byt (i ++ j)) H) := by
  intro pins s σ H x y v u Q I rx ry h
  obtain ⟨i, j, rfl, rfl, hz, q⟩ := h
  obtain ⟨t, rfl⟩ := rx
  obtain ⟨t', rfl⟩ := ry
  exact PySem.W.KBy.add_bytes hz (fun t' tk => ⟨.byt (i ++ j), H, I.tok _, ⟨_, rfl⟩, q⟩)

def PlainIxT (b : Expr) : Prop := ∀ o i, subscripted b false o i = operate [o, i] (getItem o i)
/-- s[i], 0 ≤ i < len -/
theorem pe_item_str (ha : PE X a ta) (hb : PE X b tb) (hs : PlainIxT b) :
    PE X (.Subscript a b pos) (tOp (fun x y H Q => ∃ z i c, x = .str z ∧ y = .int i ∧ 0 ≤ i ∧ i < 2 ^ 63 ∧ i < z.length ∧ z.cps[i.toNat]? = some c ∧ Q (.str ⟨#[c]⟩) H) ta tb) := by
  intro pins s σ H Q I h
  refine Subscript_ (binT ha hb I h fun v u s2 x y H2 I2 rx ry q => ?_)
  obtain ⟨z, i, c, rfl, rfl, h0, h63, h1, hc, q⟩ := q
  obtain ⟨t, rfl⟩ := rx
  obtain ⟨t', rfl⟩ := ry
  have e : seqIndex? i z.length = some i.toNat := PySem.StrLaws.seqIndex_nonneg h0 h1
  exact tail_any (typeIs_str s2 z t) slot_str_getitem.lookup (getItem_str (c := c) (by
    have e1 : decide (i < -(2 ^ 63 : Int)) = false := decide_eq_false (by omega)
    have e2 : decide (i ≥ 2 ^ 63) = false := decide_eq_false (by omega)
    rw [e1, e2] <;> rfl) (by rw [e]; exact hc) ⟨.str ⟨#[c]⟩, H2, I2.tok _, ⟨_, rfl⟩, q⟩) (hs _ _)
/-- b[i], 0 ≤ i < len -/
theorem pe_item_byt (ha : PE X a ta) (hb : PE X b tb) (hs : PlainIxT b) :
    PE X (.Subscript a b pos) (tOp (fun x y H Q => ∃ (z : List UInt8) (i : Int), x = .byt z.toArray ∧ y = .int i ∧ z.length ≤ sizeLine ∧ 0 ≤ i ∧ i < z.length ∧ Q (.int ((z.getD i.toNat 0).toNat : Nat)) H) ta tb) := by
  intro pins s σ H Q I h
  refine Subscript_ (binT ha hb I h fun v u s2 x y H2 I2 rx ry q => ?_)
  obtain ⟨z, i, rfl, rfl, hz, h0, h1, q⟩ := q
  obtain ⟨t, rfl⟩ := rx
  obtain ⟨t', rfl⟩ := ry
  have hl : sizeLine = 16777216 := sizeLine_eq
  exact tail_any (PySem.W.typeIs_bytes s2 z.toArray t) PySem.W.FB.slot_bytes_getitem.lookup (PySem.W.getItem_bytes (by omega) h0 h1 ⟨.int ((z.getD i.toNat 0).toNat : Nat), H2, I2.tok _, ⟨_, rfl⟩, q⟩) (hs _ _)

/-! ### scalar builtins, by CallR -/
theorem vals1 {x : V} {us : List Value} (r : Vals [x] us) : ∃ u, us = [u] ∧ RelV x u := by
  cases r with
  | cons r1 r2 => cases r2; exact ⟨_, rfl, r1⟩
theorem vals2 {x y : V} {us : List Value} (r : Vals [x, y] us) : ∃ u w', us = [u, w'] ∧ RelV x u ∧ RelV y w' := by
  cases r with
  | cons r1 r2 =>
    cases r2 with
    | cons r3 r4 => cases r4; exact ⟨_, _, rfl, r1, r3⟩
theorem call_abs : CallR X (.builtin "abs") (fun xs H Q => ∃ i, xs = [.int i] ∧ Q (.int (if i < 0 then -i else i)) H) := by
  intro pins s σ H xs us Q I r h
  obtain ⟨i, rfl, q⟩ := h
  obtain ⟨u, rfl, t, rfl⟩ := vals1 r
  exact call_abs_int fun u tk => ⟨.int (if i < 0 then -i else i), H, I.tok _, ⟨_, rfl⟩, q⟩
theorem call_max2 (hc : X.calm = true) : CallR X (.builtin "max") (fun xs H Q => ∃ i j, xs = [.int i, .int j] ∧ Q (.int (if j > i then j else i)) H) := by
  intro pins s σ H xs us Q I r h
  obtain ⟨i, j, rfl, q⟩ := h
  obtain ⟨u, w', rfl, ⟨t, rfl⟩, ⟨t', rfl⟩⟩ := vals2 r
  refine max_two_ints (I.ok.hd hc) fun h' tk k => ⟨_, H, I.kept k, ?_, q⟩
  by_cases hj : j > i
  · rw [if_pos hj, if_pos hj]; exact ⟨_, rfl⟩
  · rw [if_neg hj, if_neg hj]; exact ⟨_, rfl⟩
theorem call_min2 (hc : X.calm = true) : CallR X (.builtin "min") (fun xs H Q => ∃ i j, xs = [.int i, .int j] ∧ Q (.int (if j < i then j else i)) H) := by
  intro pins s σ H xs us Q I r h
  obtain ⟨i, j, rfl, q⟩ := h
  obtain ⟨u, w', rfl, ⟨t, rfl⟩, ⟨t', rfl⟩⟩ := vals2 r
  refine min_two_ints (I.ok.hd hc) fun h' tk k => ⟨_, H, I.kept k, ?_, q⟩
  by_cases hj : j < i
  · rw [if_pos hj, if_pos hj]; exact ⟨_, rfl⟩
  · rw [if_neg hj, if_neg hj]; exact ⟨_, rfl⟩
theorem call_int1 : CallR X (.type "int") (fun xs H Q => (∃ i, xs = [.int i] ∧ Q (.int i) H) ∨ ∃ k, xs = [.bl k] ∧ Q (.int (if k then 1 else 0)) H) := by
  intro pins s σ H xs us Q I r h
  rcases h with ⟨i, rfl, q⟩ | ⟨k, rfl, q⟩
  · obtain ⟨u, rfl, t, rfl⟩ := vals1 r
    exact call_int_int ⟨.int i, H, I, ⟨_, rfl⟩, q⟩
  · obtain ⟨u, rfl, r1⟩ := vals1 r
    cases r1
    exact call_int_bool ⟨.int (if k then 1 else 0), H, I.tok _, ⟨_, rfl⟩, q⟩
theorem call_bool1 : CallR X (.type "bool") (fun xs H Q => (∃ i, xs = [.int i] ∧ Q (.bl (i != 0)) H) ∨ ∃ k, xs = [.bl k] ∧ Q (.bl k) H) := by
  intro pins s σ H xs us Q I r h
  rcases h with ⟨i, rfl, q⟩ | ⟨k, rfl, q⟩
  · obtain ⟨u, rfl, t, rfl⟩ := vals1 r
    exact call_bool_int ⟨.bl (i != 0), H, I, rfl, q⟩
  · obtain ⟨u, rfl, r1⟩ := vals1 r
    cases r1
    exact call_bool_bool ⟨.bl k, H, I, rfl, q⟩
theorem call_str_int : CallR X (.type "str") (fun xs H Q => ∃ i, xs = [.int i] ∧ i.natAbs.log2 < 1920 ∧ Q (.str (toString i)) H) := by
  intro pins s σ H xs us Q I r h
  obtain ⟨i, rfl, hz, q⟩ := h
  obtain ⟨u, rfl, t, rfl⟩ := vals1 r
  exact PySem.P.str_of_int hz ⟨.str _, H, I.tok _, ⟨_, rfl⟩, q⟩
theorem call_ord : CallR X (.builtin "ord") (fun xs H Q => ∃ x, xs = [.str x] ∧ x.length = 1 ∧ Q (.int (x.cps.getD 0 0 : Nat)) H) := by
  intro pins s σ H xs us Q I r h
  obtain ⟨x, rfl, hz, q⟩ := h
  obtain ⟨u, rfl, t, rfl⟩ := vals1 r
  exact ord_of_one hz ⟨.int _, H, I.tok _, ⟨_, rfl⟩, q⟩
theorem call_chr : CallR X (.builtin "chr") (fun xs H Q => ∃ i, xs = [.int i] ∧ 0 ≤ i ∧ i ≤ 1114111 ∧ Q (.str ⟨#[i.toNat]⟩) H) := by
  intro pins s σ H xs us Q I r h
  obtain ⟨i, rfl, h0, h1, q⟩ := h
  obtain ⟨u, rfl, t, rfl⟩ := vals1 r
  exact chr_of_range h0 h1 ⟨.str _, H, I.tok _, ⟨_, rfl⟩, q⟩
/-- len of a str, a bytes, a list, a tuple -/
def LenV (K : PySem.W.Frag) (x : V) (H : Hp) (n : Nat) : Prop :=
  match x with
  | .str y => y.length ≤ sizeLine ∧ n = y.length
  | .byt y => y.size ≤ sizeLine ∧ n = y.size
  | .ref p => (∃ xs, SqL K H p xs ∧ n = xs.length) ∨ ∃ xs, SqT K H p xs ∧ n = xs.length
  | _ => False
theorem call_len : CallR X (.builtin "len") (fun xs H Q => ∃ x n, xs = [x] ∧ LenV X.K x H n ∧ Q (.int n) H) := by
  intro pins s σ H xs us Q I r h
  obtain ⟨x, n, rfl, e, q⟩ := h
  obtain ⟨u, rfl, rx⟩ := vals1 r
  have hl := line63
  have hs : sizeLine = 16777216 := sizeLine_eq
  cases x with
  | str y =>
    obtain ⟨t, rfl⟩ := rx
    obtain ⟨hy, e'⟩ : y.length ≤ sizeLine ∧ n = y.length := e
    subst e'
    exact len_str (by omega) ⟨.int _, H, I.tok _, ⟨_, rfl⟩, q⟩
  | byt y =>
    obtain ⟨t, rfl⟩ := rx
    obtain ⟨hy, e'⟩ : y.size ≤ sizeLine ∧ n = y.size := e
    subst e'
    exact PySem.W.len_bytes (by omega) ⟨.int _, H, I.tok _, ⟨_, rfl⟩, q⟩
  | ref p =>
    cases rx
    have e' : (∃ xs, SqL X.K H p xs ∧ n = xs.length) ∨ ∃ xs, SqT X.K H p xs ∧ n = xs.length := e
    rcases e' with ⟨xs, hx, e'⟩ | ⟨xs, hx, e'⟩
    · subst e'
      obtain ⟨its, r', pl, hz⟩ := I.list hx
      have hlen := r'.length
      exact Calls.call_len_list pl.isList (by simp only [List.size_toArray]; omega) ⟨.int xs.length, H, I.tok _, ⟨_, by simp only [List.size_toArray]; rw [hlen]⟩, q⟩
    · subst e'
      obtain ⟨its, r', pl, hz⟩ := I.tuple hx
      have hlen := r'.length
      exact len_tuple pl (by simp only [List.size_toArray]; omega) ⟨.int xs.length, H, I.tok _, ⟨_, by simp only [List.size_toArray]; rw [hlen]⟩, q⟩
  | _ => exact (show False from e).elim
/-- divmod: a new tuple -/
theorem call_divmod : CallR X (.builtin "divmod") (fun xs H Q => ∃ i j, xs = [.int i, .int j] ∧ CDiv i j ∧ ∀ p, H p = none → Q (.ref p) (upd H p (.tup [.int (i / j), .int (i % j)]))) := by
  intro pins s σ H xs us Q I r h
  obtain ⟨i, j, rfl, ⟨h1, h2⟩, q⟩ := h
  obtain ⟨u, w', rfl, ⟨t, rfl⟩, ⟨t', rfl⟩⟩ := vals2 r
  refine divmod_int (by omega) ?_ (.inl (PyProof.noPylong_small (by omega)))
  rw [Int.fdiv_eq_ediv_of_nonneg i (by omega), Int.fmod_eq_emod_of_nonneg i (by omega)]
  have hn : H s.heap.objs.size = none := I.hok.fresh (Nat.le_refl _)
  refine ⟨.ref s.heap.objs.size, _, ?_, rfl, q _ hn⟩
  refine I.laid (fun b o e => Heap.get?_push_of_some _ e) (Nat.le_refl _) ⟨by simp only [List.length_cons, List.length_nil]; rw [sizeLine_eq]; decide, [.int (i / j) s.toks, .int (i % j) (s.toks + 1)], .cons ⟨_, rfl⟩ (.cons ⟨_, rfl⟩ .nil), ?_⟩
  exact ⟨_, Heap.get?_push_size s.heap rfl, rfl, 0, rfl⟩
end
end L2

namespace L2
open PySem PySem.Spec PyProof.Rows

/-! ### an instance, its attributes a map -/
structure ObjM (h : Heap) (x dx C : Addr) (mA : Str → Option Value) : Prop where
  obj : h.get? x = some (PySem.W.instObj C dx)
  ns : h.Ns1 dx mA
  ne : dx ≠ x

theorem lookIn_ns {h : Heap} {dx : Addr} {mA : Str → Option Value} (n : h.Ns1 dx mA) : ∃ od, h.get? dx = some od ∧ ∀ name, PySem.W.lookIn name od = some (mA name) := by
  obtain ⟨o, es, ep, ho, hd, hk, _, hm⟩ := n
  refine ⟨o, ho, fun name => ?_⟩
  have e := hm name
  unfold nsFind findBy at e
  rw [← Array.find?_toList] at e
  unfold PySem.W.lookIn
  rw [hd]
  dsimp only
  split
  · rename_i y q
    rw [q] at e
    exact congrArg some e
  · rename_i q
    rw [q] at e
    have a : es.toList.any (·.refKey) = false := by
      rw [List.any_eq_false]
      intro y hy
      obtain ⟨z, t, hkey⟩ := hk y (Array.mem_toList_iff.mp hy)
      simp [DictEntry.refKey, hkey]
    have a' : ¬ es.toList.any (·.refKey) = true := by rw [a]; exact Bool.false_ne_true
    rw [if_neg a']
    exact congrArg some e

theorem ObjM.look {h : Heap} {x dx C : Addr} {mA : Str → Option Value} (I : ObjM h x dx C mA) : ∃ od, PySem.W.InstAt h x (PySem.W.instObj C dx) C (some od) ∧ ∀ name, PySem.W.lookIn name od = some (mA name) :=
  let ⟨od, ho, hl⟩ := lookIn_ns I.ns
  ⟨od, ⟨I.obj, rfl, rfl, ho⟩, hl⟩

section
variable {prog : Program} {w : World} {A : Around} {E : Value → Shared → Prop} {s : Shared} {K : PySem.W.Frag} {x dx C f : Addr} {mA : Str → Option Value} {name : Str} {v : Value}

theorem get_map {expr : Bool} {Q : Value → Shared → Prop} (X : K.In s.heap) (I : ObjM s.heap x dx C mA) (hg : PySem.W.plainGet K C name = true) (hh : PySem.W.hasDictIn K C = true)
    (ha : PySem.W.findIn K (.ref C) name = some none) (hv : mA name = some v) (hv' : PySem.W.handedIn v = true) (h : Q v { s with toks := s.toks + 1 }) :
    wpAny (model prog w) A (getAttr (.ref x) name expr) Q E s := by
  obtain ⟨od, J, hl⟩ := I.look
  exact PySem.W.get_value X J (PySem.W.plainGet_of hg).1 (PySem.W.findObj_own hh ha rfl (by rw [hl, hv])) hv' h

theorem get_const {expr : Bool} {a : Value} {Q : Value → Shared → Prop} (X : K.In s.heap) (I : ObjM s.heap x dx C mA) (hg : PySem.W.plainGet K C name = true) (hh : PySem.W.hasDictIn K C = true)
    (ha : PySem.W.findIn K (.ref C) name = some (some a)) (hn : PySem.W.specialIn K a "__get__" = some none) (hc : PySem.W.copiedNames.contains name = false) (hv : mA name = none) (hv' : PySem.W.handedIn a = true)
    (h : Q a { s with toks := s.toks + 1 }) : wpAny (model prog w) A (getAttr (.ref x) name expr) Q E s := by
  obtain ⟨od, J, hl⟩ := I.look
  exact PySem.W.get_value X J (PySem.W.plainGet_of hg).1 (PySem.W.findObj_cls hh ha hn hv' hc (by rw [hl, hv])) hv' h

theorem get_meth {pl : Sem Bool} {Q : Value × List Value → Shared → Prop} (X : K.In s.heap) (I : ObjM s.heap x dx C mA) (hg : PySem.W.plainGet K C name = true)
    (hf : PySem.W.findIn K (.ref C) name = some (some (.ref f))) (ht : PySem.W.isFn K (.ref f) = true) (hv : mA name = none) (h : Q (.ref f, [.ref x]) s) :
    wpAny (model prog w) A (getMethod (.ref x) name pl) Q E s := by
  obtain ⟨od, J, hl⟩ := I.look
  exact PySem.W.method_fn X J (PySem.W.plainGet_of hg).1 (PySem.W.plainGet_of hg).2 hf (beq_iff_eq.mp ht) (by show (PySem.W.lookIn name od).map (·.isSome) = some false; rw [hl, hv]; rfl) h

theorem set_map {ns : List Str} {Q : Unit → Shared → Prop} (X : K.In s.heap) (I : ObjM s.heap x dx C mA)
    (hs : PySem.W.findIn K (.ref C) "__setattr__" = some (some (.builtin "object.__setattr__"))) (hp : PySem.W.plainOver K C = true) (ht : PySem.W.takerIn K C name = some none) (hh : PySem.W.hasDictIn K C = true)
    (hw : PySem.Within mA ns) (hsz : ns.length ≤ sizeLine)
    (h : ∀ h', ObjM h' x dx C (fun y => if y = name then some v else mA y) → Heap.SameBut dx s.heap h' → Q () { s with heap := h', toks := s.toks + 2 }) :
    wpAny (model prog w) A (setAttr (.ref x) name v) Q E s := by
  obtain ⟨od, J, hl⟩ := I.look
  refine PySem.W.set_plain X J hs (PySem.W.osa_open (s := { s with toks := s.toks + 1 }) (r := none) X J hp ht fun b => ?_)
  obtain ⟨cd, hc, hd'⟩ := PySem.W.any_some hh
  have hx : s.heap.get? x = some ⟨.ref C, some dx, .plain, #[]⟩ := I.obj
  refine wpAny_bind (wpAny_pure (wpAny_bind (wpAny_bind (wpAny_loadPart hx (wpAny_bind (PySem.W.Looks.here (s := { s with toks := s.toks + 1 }) (PySem.W.looks_clsIn X hc) ?_))))))
  rw [hd']
  refine wpAny_pure (a := some dx) (wpAny_bind (wpAny_pure (wpAny_bind ?_)))
  refine wpAny_nsSet1 (s := { s with toks := s.toks + 1 }) I.ns fun h' hn2 hs2 => ?_
  obtain ⟨oD, esD, epD, hoD, hdD, hcD⟩ := hn2.count (PySem.Within.cons name v hw)
  refine wpAny_bind (wpAny_lookBehind hoD (by rw [hdD]; exact pastItsLine_dict (Nat.le_trans hcD (by rw [List.length_cons]; omega))) ?_)
  exact wpAny_pure (h _ ⟨(hs2.2 _ (Ne.symm I.ne)).trans I.obj, hn2, I.ne⟩ hs2)

/-- C(..): the dict at the heap's end, the instance behind it; then its __init__ -/
theorem make_map {R : Result → Shared → Prop} {vs : List Value} {kw : List (Str × Value)} (X : K.In s.heap) (hm : PySem.W.makesIn K C = true)
    (hi : PySem.W.findIn K (.ref C) "__init__" = some (some (.ref f))) (hf : PySem.W.typeIn K (.ref f) = some (.type "function"))
    (h : codeAny (model prog w) (A.under (.builtin "type.__call__" ⟨.ref C :: vs, kw⟩)) (.call (.ref f) ⟨.ref (s.heap.objs.size + 1) :: vs, kw⟩) (PySem.W.InitBack (s.heap.objs.size + 1) R)
      { s with heap := (s.heap.push PySem.W.emptyDict).push (PySem.W.instObj C s.heap.objs.size) }) :
    codeAny (model prog w) A (.call (.ref C) ⟨vs, kw⟩) R s := by
  obtain ⟨hh, g, d, t, os⟩ := s
  exact PySem.W.make_core (PySem.W.makes_of X hm) (PySem.W.looks_findIn X hi) (fun self => PySem.W.bind_fn X self hf) (.inl rfl) h
/-- C() where there is no __init__ but object's -/
theorem make_map0 {R : Result → Shared → Prop} (X : K.In s.heap) (hm : PySem.W.makesIn K C = true)
    (hi : PySem.W.findIn K (.ref C) "__init__" = some (some (.builtin "object.__init__")))
    (hb : ∀ self, PySem.W.Looks (model prog w) s.heap (bindSpecial (.builtin "object.__init__") self) (.builtin "object.__init__", [self]))
    (h : codeAny (model prog w) (A.under (.builtin "type.__call__" ⟨[.ref C], []⟩)) (.call (.builtin "object.__init__") ⟨[.ref (s.heap.objs.size + 1)], []⟩) (PySem.W.InitBack (s.heap.objs.size + 1) R)
      { s with heap := (s.heap.push PySem.W.emptyDict).push (PySem.W.instObj C s.heap.objs.size) }) :
    codeAny (model prog w) A (.call (.ref C) ⟨[], []⟩) R s := by
  obtain ⟨hh, g, d, t, os⟩ := s
  exact PySem.W.make_core (PySem.W.makes_of X hm) (PySem.W.looks_findIn X hi) hb (.inr ⟨rfl, rfl⟩) h
end

/-! ### the attributes as a list of pairs -/
def putF (f : Str) (v : V) : List (Str × V) → List (Str × V)
  | [] => [(f, v)]
  | (g, x) :: r => if g = f then (g, v) :: r else (g, x) :: putF f v r
theorem lookup_putF (f g : Str) (v : V) : ∀ fs : List (Str × V), (putF f v fs).lookup g = if g = f then some v else fs.lookup g
  | [] => by
    show List.lookup g [(f, v)] = _
    by_cases h : g = f
    · have hb : (g == f) = true := beq_iff_eq.mpr h
      simp only [List.lookup, hb, if_pos h]
    · have hb : (g == f) = false := beq_eq_false_iff_ne.mpr h
      simp only [List.lookup, hb, if_neg h]
  | (k, x) :: r => by
    have ih := lookup_putF f g v r
    rw [show putF f v ((k, x) :: r) = (if k = f then (k, v) :: r else (k, x) :: putF f v r) from rfl]
    by_cases hk : k = f
    · rw [if_pos hk]
      by_cases h : g = k
      · have hb : (g == k) = true := beq_iff_eq.mpr h
        simp only [List.lookup, hb, if_pos (h.trans hk)]
      · have hb : (g == k) = false := beq_eq_false_iff_ne.mpr h
        simp only [List.lookup, hb, if_neg (fun e : g = f => h (e.trans hk.symm))]
    · rw [if_neg hk]
      by_cases h : g = k
      · have hb : (g == k) = true := beq_iff_eq.mpr h
        simp only [List.lookup, hb, if_neg (fun e : g = f => hk (h.symm.trans e))]
      · have hb : (g == k) = false := beq_eq_false_iff_ne.mpr h
        simp only [List.lookup, hb]
        exact ih
theorem keys_putF (f : Str) (v : V) : ∀ fs : List (Str × V), f ∈ (putF f v fs).map (·.1) ∧ ∀ g, g ∈ fs.map (·.1) → g ∈ (putF f v fs).map (·.1)
  | [] => ⟨by simp [putF], fun g h => by simp at h⟩
  | (k, x) :: r => by
    obtain ⟨i1, i2⟩ := keys_putF f v r
    rw [show putF f v ((k, x) :: r) = (if k = f then (k, v) :: r else (k, x) :: putF f v r) from rfl]
    by_cases hk : k = f
    · rw [if_pos hk]
      subst hk
      exact ⟨by simp, fun g h => by simpa using h⟩
    · rw [if_neg hk]
      refine ⟨?_, fun g h => ?_⟩
      · rw [List.map_cons]
        exact List.mem_cons_of_mem _ i1
      · rw [List.map_cons] at h ⊢
        rcases List.mem_cons.mp h with e | e
        · exact List.mem_cons.mpr (.inl e)
        · exact List.mem_cons_of_mem _ (i2 g e)
theorem length_putF (f : Str) (v : V) : ∀ fs : List (Str × V), (putF f v fs).length ≤ fs.length + 1
  | [] => by simp [putF]
  | (k, x) :: r => by
    have ih := length_putF f v r
    rw [show putF f v ((k, x) :: r) = (if k = f then (k, v) :: r else (k, x) :: putF f v r) from rfl]
    by_cases hk : k = f
    · rw [if_pos hk, List.length_cons, List.length_cons]; omega
    · rw [if_neg hk, List.length_cons, List.length_cons]; omega

theorem RelO.some_of {v : V} {o : Option Value} (r : RelO (some v) o) : ∃ u, o = some u ∧ RelV v u := by
  cases o with
  | none => exact (show False from r).elim
  | some u => exact ⟨u, rfl, r⟩
theorem RelO.none_of {o : Option Value} (r : RelO none o) : o = none := by
  cases o with
  | none => rfl
  | some u => exact (show False from r).elim
theorem handed_of {v : V} {u : Value} (r : RelV v u) : PySem.W.handedIn u = true := by
  cases v with
  | non => cases (show u = Value.none from r); rfl
  | bl b => cases (show u = Value.bool b from r); rfl
  | int i => obtain ⟨t, e⟩ := (show ∃ t, u = Value.int i t from r); cases e; rfl
  | str x => obtain ⟨t, e⟩ := (show ∃ t, u = Value.str x t from r); cases e; rfl
  | byt b => obtain ⟨t, e⟩ := (show ∃ t, u = Value.bytes b t from r); cases e; rfl
  | flt b => obtain ⟨t, e⟩ := (show ∃ t, u = Value.float b t from r); cases e; rfl
  | ref a => cases (show u = Value.ref a from r); rfl
  | ty n => cases (show u = Value.type n from r); rfl

section
variable {P : Program} {w : World} {H H' : Hp} {h h' : Heap} {a C dx : Addr} {fs fs' : List (Str × V)}
theorem ins_get (hok : HOk P w H h) (e : H a = some (.ins C dx fs)) : ∃ mA, ObjM h a dx C mA ∧ (∀ f, RelO (fs.lookup f) (mA f)) ∧ PySem.Within mA (fs.map (·.1)) ∧ fs.length ≤ 1000 ∧ H dx = some (.own a) := by
  obtain ⟨d, z, ne, ob, mA, n, r, q⟩ := (show ObjOk P w H h a (.ins C dx fs) from hok a _ e)
  exact ⟨mA, ⟨ob, n, ne⟩, r, q, z, d⟩
end

/-! ### what of the text a class must have -/
structure Cls (K : PySem.W.Frag) (C : Addr) : Prop where
  pg : PySem.W.plainGet K C Str.empty = true
  hd : PySem.W.hasDictIn K C = true
  po : PySem.W.plainOver K C = true
  sa : PySem.W.findIn K (.ref C) "__setattr__" = some (some (.builtin "object.__setattr__"))
theorem Cls.get {K : PySem.W.Frag} {C : Addr} (c : Cls K C) (f : Str) : PySem.W.plainGet K C f = true := c.pg
/-- no class of it has the name -/
def NoAttr (K : PySem.W.Frag) (C : Addr) (f : Str) : Prop := PySem.W.findIn K (.ref C) f = some none
theorem NoAttr.taker {K : PySem.W.Frag} {C : Addr} {f : Str} (n : NoAttr K C f) : PySem.W.takerIn K C f = some none := by
  unfold PySem.W.takerIn
  rw [show PySem.W.findIn K (.ref C) f = some none from n]
  rfl
/-- a constant of the class -/
structure Con (K : PySem.W.Frag) (C : Addr) (f : Str) (v : V) (u : Value) : Prop where
  at_ : PySem.W.findIn K (.ref C) f = some (some u)
  rel : RelV v u
  get : PySem.W.specialIn K u "__get__" = some none
  cp : PySem.W.copiedNames.contains f = false
/-- a method: a plain def of the class or of one above it -/
structure Meth (K : PySem.W.Frag) (C : Addr) (m : Str) (f : Addr) : Prop where
  at_ : PySem.W.findIn K (.ref C) m = some (some (.ref f))
  fn : PySem.W.isFn K (.ref f) = true
  kp : PySem.W.keepIn K (.ref f) = true

section
variable {X : Cx} {pins : List (Addr × Obj)} {σ : St} {H : Hp} {s : Shared} {a C dx : Addr} {fs : List (Str × V)} {f : Str} {v : V} {A : Around} {E : Value → Shared → Prop}

theorem getattr_ok {b : Bool} {Q : Value → Shared → Prop} (I : Inv X pins σ H s) (e : H a = some (.ins C dx fs)) (c : Cls X.K C) (n : NoAttr X.K C f) (l : fs.lookup f = some v)
    (h : ∀ u s', Inv X pins σ H s' → RelV v u → Q u s') : wpAny (model X.prog X.w) A (getAttr (.ref a) f b) Q E s := by
  obtain ⟨mA, O, r, _, _, _⟩ := ins_get I.hok e
  obtain ⟨u, hu, ru⟩ := RelO.some_of (v := v) (o := mA f) (by rw [← l]; exact r f)
  exact get_map I.kIn O (c.get f) c.hd n hu (handed_of ru) (h u _ (I.tok _) ru)

theorem getcon_ok {b : Bool} {u : Value} {Q : Value → Shared → Prop} (I : Inv X pins σ H s) (e : H a = some (.ins C dx fs)) (c : Cls X.K C) (k : Con X.K C f v u) (l : fs.lookup f = none)
    (h : ∀ s', Inv X pins σ H s' → Q u s') : wpAny (model X.prog X.w) A (getAttr (.ref a) f b) Q E s := by
  obtain ⟨mA, O, r, _, _, _⟩ := ins_get I.hok e
  have hn : mA f = none := RelO.none_of (by rw [← l]; exact r f)
  exact get_const I.kIn O (c.get f) c.hd k.at_ k.get k.cp hn (handed_of k.rel) (h _ (I.tok _))

theorem getmeth_ok {m : Str} {g : Addr} {pl : Sem Bool} {Q : Value × List Value → Shared → Prop} (I : Inv X pins σ H s) (e : H a = some (.ins C dx fs)) (c : Cls X.K C) (k : Meth X.K C m g) (l : fs.lookup m = none)
    (h : Q (.ref g, [.ref a]) s) : wpAny (model X.prog X.w) A (getMethod (.ref a) m pl) Q E s := by
  obtain ⟨mA, O, r, _, _, _⟩ := ins_get I.hok e
  have hn : mA m = none := RelO.none_of (by rw [← l]; exact r m)
  exact get_meth I.kIn O (c.get m) k.at_ k.fn hn h

theorem setattr_ok {y : V} {u : Value} {Q : Unit → Shared → Prop} (I : Inv X pins σ H s) (e : H a = some (.ins C dx fs)) (c : Cls X.K C) (n : NoAttr X.K C f) (hl : fs.length < 1000) (ry : RelV y u)
    (h : ∀ s', Inv X pins σ (upd H a (.ins C dx (putF f y fs))) s' → Q () s') : wpAny (model X.prog X.w) A (setAttr (.ref a) f u) Q E s := by
  obtain ⟨mA, O, r, wi, _, ho⟩ := ins_get I.hok e
  have hz : (fs.map (·.1)).length ≤ sizeLine := by rw [List.length_map, sizeLine_eq]; omega
  refine set_map I.kIn O c.sa c.po n.taker c.hd wi hz fun h' O' sb => h _ ?_
  have hd : ∃ o, h'.get? dx = some o := let ⟨o, _, _, e', _⟩ := O'.ns; ⟨o, e'⟩
  refine I.write (x := a) (e := dx) (by rw [e]; exact True.intro) (.inr ho) (fun b q hb z => (sb.2 b hb).trans z) hd ?_
  refine ⟨by rw [upd_ne O.ne]; exact ho, ?_, O.ne, O'.obj, _, O'.ns, fun g => ?_, fun g hg => ?_⟩
  · have := length_putF f y fs; omega
  · show RelO ((putF f y fs).lookup g) (if g = f then some u else mA g)
    rw [lookup_putF]
    by_cases q : g = f
    · rw [if_pos q, if_pos q]; exact ry
    · rw [if_neg q, if_neg q]; exact r g
  · by_cases q : g = f
    · rw [q]; exact (keys_putF f y fs).1
    · refine (keys_putF f y fs).2 g (wi g fun z => hg ?_)
      show (if g = f then some u else mA g) = none
      rw [if_neg q]; exact z

/-- a new instance, tracked, without attributes -/
theorem Inv.made (I : Inv X pins σ H s) : Inv X pins σ (upd (upd H s.heap.objs.size (.own (s.heap.objs.size + 1))) (s.heap.objs.size + 1) (.ins C s.heap.objs.size []))
    { s with heap := (s.heap.push PySem.W.emptyDict).push (PySem.W.instObj C s.heap.objs.size) } := by
  have e1 : (s.heap.push PySem.W.emptyDict).get? s.heap.objs.size = some PySem.W.emptyDict := Heap.get?_push_size s.heap rfl
  have e2 : ((s.heap.push PySem.W.emptyDict).push (PySem.W.instObj C s.heap.objs.size)).get? (s.heap.objs.size + 1) = some (PySem.W.instObj C s.heap.objs.size) := by
    have := Heap.get?_push_size (s.heap.push PySem.W.emptyDict) (o := PySem.W.instObj C s.heap.objs.size) rfl
    rwa [Heap.size_push] at this
  have e3 : (s.heap.push PySem.W.emptyDict).Ns s.heap.objs.size (fun _ => none) := ⟨PySem.W.emptyDict, #[], _, e1, rfl, (fun e he => absurd he (by simp)), fun _ => rfl⟩
  have I1 := I.laid (a := s.heap.objs.size) (o := .own (s.heap.objs.size + 1)) (h' := s.heap.push PySem.W.emptyDict) (t' := s.toks) (fun b u q => Heap.get?_push_of_some _ q) (Nat.le_refl _) ⟨_, e1⟩
  refine I1.laid (a := s.heap.objs.size + 1) (o := .ins C s.heap.objs.size []) (t' := s.toks) (fun b u q => Heap.get?_push_of_some _ q) (Nat.le_of_eq (Heap.size_push _ _)) ?_
  have ne : s.heap.objs.size ≠ s.heap.objs.size + 1 := Nat.ne_of_lt (Nat.lt_succ_self _)
  refine ⟨by rw [upd_ne ne, upd_same], Nat.zero_le _, ne, e2, fun _ => none, (Heap.Ns1.of_empty e3).at fun o q => Heap.get?_push_of_some _ q, fun _ => True.intro, fun y hy => absurd rfl hy⟩

/-- e.f where nothing but the object is asked: through attributeBase (super) and the last hold -/
theorem attr_of {prog : Program} {w : World} {env : Env} {e : Expr} {f : Str} {pos : Pos} {s : Shared} {Q : Value → Shared → Prop} (hb : attributeBase e f env (eval e env) = eval e env)
    (h : wpAny (model prog w) A (eval e env) (fun o s₁ => wpAny (model prog w) A (getAttr o f true) Q E s₁) E s) : wpAny (model prog w) A (eval (.Attribute e f pos) env) Q E s :=
  Attribute_any_ h (by rw [arm_eval_Attribute, hb])
end

/-! ### readings and rules -/
/-- e.f, an attribute of the instance -/
def tFld (K : PySem.W.Frag) (ta : TE) (f : Str) : TE := fun σ H Q => ta σ H fun x H1 => ∃ a C dx fs v, x = .ref a ∧ H1 a = some (.ins C dx fs) ∧ Cls K C ∧ NoAttr K C f ∧ fs.lookup f = some v ∧ Q v H1
/-- e.f, a constant of the class -/
def tCon (K : PySem.W.Frag) (ta : TE) (f : Str) : TE := fun σ H Q => ta σ H fun x H1 => ∃ a C dx fs v u, x = .ref a ∧ H1 a = some (.ins C dx fs) ∧ Cls K C ∧ Con K C f v u ∧ fs.lookup f = none ∧ Q v H1
/-- e.f = value -/
def sFld (K : PySem.W.Frag) (ta tv : TE) (f : Str) : TS := fun D σ H => tv σ H fun y H1 => ta σ H1 fun x H2 => ∃ a C dx fs, x = .ref a ∧ H2 a = some (.ins C dx fs) ∧ Cls K C ∧ NoAttr K C f ∧ fs.length < 1000 ∧
  D.nx σ (upd H2 a (.ins C dx (putF f y fs)))
/-- an augmented operator on two values -/
def InOp (X : Cx) (op : Operator) (rd : V → V → Hp → VK → Prop) : Prop :=
  ∀ (pins : List (Addr × Obj)) (s : Shared) (σ : St) (H : Hp) (x y : V) (u v : Value) (Q : VK), Inv X pins σ H s → RelV x u → RelV y v → rd x y H Q → wpAny (model X.prog X.w) X.A (inplaceOp op u v) (EP X pins σ Q) X.xe s
/-- e.f op= value -/
def sFldAug (K : PySem.W.Frag) (ta tv : TE) (rd : V → V → Hp → VK → Prop) (f : Str) : TS := fun D σ H => ta σ H fun x H1 => ∃ a C dx fs v, x = .ref a ∧ H1 a = some (.ins C dx fs) ∧ Cls K C ∧ NoAttr K C f ∧ fs.lookup f = some v ∧
  tv σ H1 fun y H2 => rd v y H2 fun z H3 => ∃ dx' fs', H3 a = some (.ins C dx' fs') ∧ fs'.length < 1000 ∧ D.nx σ (upd H3 a (.ins C dx' (putF f z fs')))

section
variable {X : Cx} {o e value : Expr} {f : Str} {pos pos' tpos : Pos} {ta tv : TE}
theorem pe_fld (he : PE X e ta) (hb : attributeBase e f X.env (eval e X.env) = eval e X.env) : PE X (.Attribute e f pos) (tFld X.K ta f) := by
  intro pins s σ H Q I h
  refine attr_of hb (thn (he pins s σ H _ I h) fun u s1 ⟨x, H1, I1, rx, a, C, dx, fs, v, ex, ea, c, n, l, q⟩ => ?_)
  subst ex
  obtain rfl : u = Value.ref a := rx
  exact getattr_ok I1 ea c n l fun u' s2 I2 ru => ⟨v, H1, I2, ru, q⟩
theorem pe_con (he : PE X e ta) (hb : attributeBase e f X.env (eval e X.env) = eval e X.env) : PE X (.Attribute e f pos) (tCon X.K ta f) := by
  intro pins s σ H Q I h
  refine attr_of hb (thn (he pins s σ H _ I h) fun u s1 ⟨x, H1, I1, rx, a, C, dx, fs, v, u0, ex, ea, c, k, l, q⟩ => ?_)
  subst ex
  obtain rfl : u = Value.ref a := rx
  exact getcon_ok I1 ea c k l fun s2 I2 => ⟨v, H1, I2, k.rel, q⟩
theorem ps_fld (ha : PE X o ta) (hv : PE X value tv) (hs : swapsWith value (some (.Attribute o f pos')) pos.line X.env = pure false) : PS X (.Assign [.Attribute o f pos'] value pos) (sFld X.K ta tv f) := by
  intro pins s σ H D I h
  refine plainObj_wpAny_Assign_Attribute (thn (hv pins s σ H _ I h) fun u s1 ⟨y, H1, I1, ry, q⟩ => thn (ha pins s1 σ H1 _ I1 q) fun ov s2 ⟨x, H2, I2, rx, a, C, dx, fs, ex, ea, c, n, l, q2⟩ => ?_) hs
  subst ex
  obtain rfl : ov = Value.ref a := rx
  exact setattr_ok I2 ea c n l ry fun s3 I3 => ⟨σ, _, I3, q2⟩
theorem ps_fldaug {op : Operator} {rd : V → V → Hp → VK → Prop} (ha : PE X o ta) (hv : PE X value tv) (hop : InOp X op rd) : PS X (.AugAssign (.Attribute o f tpos) op value pos) (sFldAug X.K ta tv rd f) := by
  intro pins s σ H D I h
  refine wpAny_AugAssign_AttributeAny (thn (ha pins s σ H _ I h) fun ov s1 ⟨x, H1, I1, rx, a, C, dx, fs, v, ex, ea, c, n, l, q⟩ => ?_)
  subst ex
  obtain rfl : ov = Value.ref a := rx
  refine getattr_ok I1 ea c n l fun u s2 I2 ru => thn (hv pins s2 σ H1 _ I2 q) fun w3 s3 ⟨y, H2, I3, ry, q3⟩ => thn (hop pins s3 σ H2 v y u w3 _ I3 ru ry q3) fun w4 s4 ⟨z, H3, I4, rz, dx', fs', ea', l', q4⟩ => ?_
  exact setattr_ok I4 ea' c n l' rz fun s5 I5 => ⟨σ, _, I5, q4⟩
def rAdd : V → V → Hp → VK → Prop := fun x y H Q => ∃ i j, x = .int i ∧ y = .int j ∧ Q (.int (i + j)) H
def rSub : V → V → Hp → VK → Prop := fun x y H Q => ∃ i j, x = .int i ∧ y = .int j ∧ Q (.int (i - j)) H
theorem in_add : InOp X .Add rAdd := by
  rintro pins s σ H x y u v Q I rx ry ⟨i, j, rfl, rfl, q⟩
  obtain ⟨t, rfl⟩ := (show ∃ t, u = Value.int i t from rx)
  obtain ⟨t', rfl⟩ := (show ∃ t', v = Value.int j t' from ry)
  exact PyProof.Rows.iadd_int ⟨.int (i + j), H, I.tok _, ⟨_, rfl⟩, q⟩
theorem in_sub : InOp X .Sub rSub := by
  rintro pins s σ H x y u v Q I rx ry ⟨i, j, rfl, rfl, q⟩
  obtain ⟨t, rfl⟩ := (show ∃ t, u = Value.int i t from rx)
  obtain ⟨t', rfl⟩ := (show ∃ t', v = Value.int j t' from ry)
  exact PyProof.Rows.isub_int ⟨.int (i - j), H, I.tok _, ⟨_, rfl⟩, q⟩

/-- what is between an instance and its method: the tree of a method call -/
theorem methcall_of {pl : Sem Bool} {m : Str} {apos : Pos} {args : List Expr} {pins : List (Addr × Obj)} {s : Shared} {σ : St} {H : Hp} {Q : Value → Shared → Prop} {te : TE} (he : PE X e te) (I : Inv X pins σ H s)
    (h : te σ H fun x H1 => ∃ a C dx fs g, x = .ref a ∧ H1 a = some (.ins C dx fs) ∧ Cls X.K C ∧ Meth X.K C m g ∧ fs.lookup m = none ∧
      ∀ s1, Inv X pins σ H1 s1 → wpAny (model X.prog X.w) X.A (callWith pos (.ref g) [.ref a] (backTo pos (starEach args X.env)) (backToKw pos (keywordEach [] X.env))) Q X.xe s1)
    (ht : eval (.Call (.Attribute e m apos) args [] pos) X.env = (do
      let ov ← eval e X.env
      standAt apos.atName
      let (f, first) ← holding [ov] (getMethod ov m pl)
      callWith pos f first (backTo pos (starEach args X.env)) (backToKw pos (keywordEach [] X.env)))) :
    wpAny (model X.prog X.w) X.A (eval (.Call (.Attribute e m apos) args [] pos) X.env) Q X.xe s := by
  refine PySem.W.methodCall_KW (pl := pl) (thn (he pins s σ H _ I h) fun u s1 ⟨x, H1, I1, rx, a, C, dx, fs, g, ex, ea, c, k, l, q⟩ => ?_) ht
  subst ex
  obtain rfl : u = Value.ref a := rx
  exact getmeth_ok I1 ea c k l (q s1 I1)
end

/-! ### isinstance -/
section
variable {X : Cx} {pins : List (Addr × Obj)} {σ : St} {H : Hp} {s : Shared} {A : Around} {E : Value → Shared → Prop} {Q : Value → Shared → Prop} {c : Value} {b : Bool}
/-- the type of a value, as the fragment's deciders take it; for an instance its class -/
inductive TyOf (K : PySem.W.Frag) (H : Hp) : V → Value → Prop where
  | non : TyOf K H .non (.type "NoneType")
  | bl (x : Bool) : TyOf K H (.bl x) (.type "bool")
  | int (i : Int) : TyOf K H (.int i) (.type "int")
  | str (x : Str) : TyOf K H (.str x) (.type "str")
  | flt (x : UInt64) : TyOf K H (.flt x) (.type "float")
  | lst {a : Addr} {xs : List V} (e : H a = some (.lst xs)) : TyOf K H (.ref a) (.type "list")
  | frz {a : Addr} {o : Obj} {xs : List V} (e : H a = some (.frz o (.lst xs))) : TyOf K H (.ref a) (.type "list")
  | tup {a : Addr} {xs : List V} (e : H a = some (.tup xs)) : TyOf K H (.ref a) (.type "tuple")
  | dK {a : Addr} {kvs : List (Key × V)} (e : H a = some (.dK kvs)) : TyOf K H (.ref a) (.type "dict")
  | dT {a : Addr} {kvs : List (List Key × V)} (e : H a = some (.dT kvs)) : TyOf K H (.ref a) (.type "dict")
  | ins {a C dx : Addr} {fs : List (Str × V)} (e : H a = some (.ins C dx fs)) (cl : Cls K C) (ha : PySem.W.findIn K (.ref C) "__class__" = some (some (.builtin "object.__class__")))
      (hn : PySem.W.specialIn K (.builtin "object.__class__") "__get__" = some (some (.builtin "getset_descriptor.__get__"))) (htk : PySem.W.takesIn K (.builtin "object.__class__") = some true)
      (hm : PySem.W.mroIn K C (.type "object") = some true) : TyOf K H (.ref a) (.ref C)
/-- isinstance(x, c) for one class c, a built-in or an own one: kitOne's answer -/
theorem isinst_ok {x : V} {u t : Value} (I : Inv X pins σ H s) (rx : RelV x u) (ty : TyOf X.K H x t) (e : PySem.W.kitOne X.K t c = some b) (h : ∀ tk, Q (.bool b) { s with toks := tk }) :
    wpAny (model X.prog X.w) A (call (.builtin "isinstance") [u, c]) Q E s := by
  cases ty with
  | non => cases (show u = Value.none from rx); exact PySem.W.kia_one PySem.W.kitx_none I.kIn True.intro e (fun z => nomatch z) h
  | bl y => cases (show u = Value.bool y from rx); exact PySem.W.kia_one PySem.W.kitx_bool I.kIn True.intro e (fun z => nomatch z) h
  | int i => obtain ⟨t, q⟩ := (show ∃ t, u = Value.int i t from rx); cases q; exact PySem.W.kia_one PySem.W.kitx_int I.kIn True.intro e (fun z => nomatch z) h
  | str y => obtain ⟨t, q⟩ := (show ∃ t, u = Value.str y t from rx); cases q; exact PySem.W.kia_one PySem.W.kitx_str I.kIn True.intro e (fun z => nomatch z) h
  | flt y => obtain ⟨t, q⟩ := (show ∃ t, u = Value.float y t from rx); cases q; exact PySem.W.kia_one PySem.W.kitx_float I.kIn True.intro e (fun z => nomatch z) h
  | @lst a xs ea =>
    cases (show u = Value.ref a from rx)
    obtain ⟨_, _, n, _, h1⟩ := (show ObjOk X.prog X.w H s.heap a (.lst xs) from I.hok a _ ea)
    exact PySem.W.kia_one PySem.W.kitx_list I.kIn ⟨_, h1, rfl⟩ e (fun z => nomatch z) h
  | @frz a ob xs ea =>
    cases (show u = Value.ref a from rx)
    obtain ⟨_, _, _, n, _, h1⟩ := (show ObjOk X.prog X.w H s.heap a (.frz ob (.lst xs)) from I.hok a _ ea)
    exact PySem.W.kia_one PySem.W.kitx_list I.kIn ⟨_, h1, rfl⟩ e (fun z => nomatch z) h
  | @tup a xs ea =>
    cases (show u = Value.ref a from rx)
    obtain ⟨_, _, _, p⟩ := (show ObjOk X.prog X.w H s.heap a (.tup xs) from I.hok a _ ea)
    obtain ⟨o, h1, h2, _⟩ := p
    exact PySem.W.kia_one PySem.W.kitx_tuple I.kIn ⟨o, h1, h2⟩ e (fun z => nomatch z) h
  | @dK a kvs ea =>
    cases (show u = Value.ref a from rx)
    obtain ⟨_, _, vs, _, p⟩ := (show ObjOk X.prog X.w H s.heap a (.dK kvs) from I.hok a _ ea)
    obtain ⟨o, es, ep, h1, h2, _⟩ := p
    exact PySem.W.kia_one PySem.W.kitx_dict I.kIn ⟨o, h1, h2.1⟩ e (fun z => nomatch z) h
  | @dT a kvs ea =>
    cases (show u = Value.ref a from rx)
    obtain ⟨_, _, xs, _, o, es, ep, h1, h2, _⟩ := (show ObjOk X.prog X.w H s.heap a (.dT kvs) from I.hok a _ ea)
    exact PySem.W.kia_one PySem.W.kitx_dict I.kIn ⟨o, h1, h2.1⟩ e (fun z => nomatch z) h
  | @ins a C dx fs ea cl ha hn htk hm =>
    cases (show u = Value.ref a from rx)
    obtain ⟨mA, O, _⟩ := ins_get I.hok ea
    obtain ⟨od, J, _⟩ := O.look
    exact PySem.W.kia_one (PySem.W.kitx_own (cl.get _) cl.hd ha hn htk hm) I.kIn J e (fun z => nomatch z) h
end
end L2

namespace L2
open PySem PySem.Spec PyProof.Rows

/-! ### room -/
structure Room (k : Nat) (A : Around) : Prop where
  hd : A.handled = none
  dp : A.depth + 3 * k + 5 < recursionLimit
  un : A.units + 16 * k + 200 < cLine
theorem Room.mono {j k : Nat} {A : Around} (r : Room k A) (h : j ≤ k) : Room j A := ⟨r.hd, by have := r.dp; omega, by have := r.un; omega⟩
theorem Room.deeper {k : Nat} {A : Around} (r : Room (k + 1) A) (env : Env) : Room k (A.deeper env) :=
  ⟨r.hd, by have := r.dp; show A.depth + 1 + 3 * k + 5 < _; omega, by have := r.un; show A.units + 3 + 16 * k + 200 < _; omega⟩
theorem Room.in1 {k : Nat} {A : Around} (r : Room (k + 1) A) : Room k A.in1 :=
  ⟨r.hd, by have := r.dp; show A.depth + 3 * k + 5 < _; omega, by have := r.un; show A.units + 1 + 16 * k + 200 < _; omega⟩
theorem make_depth {A : Around} {C : Addr} {us : List Value} {kw : List (Str × Value)} : (A.under (.builtin "type.__call__" ⟨.ref C :: us, kw⟩)).depth = A.depth + 1 := by
  first | rfl | simp [Around.under, Code.weight, Code.isCreation, Code.isGuard, Code.isCaller, Code.frames, Code.isFrame, guardIds]
theorem make_units {A : Around} {C : Addr} {us : List Value} {kw : List (Str × Value)} : (A.under (.builtin "type.__call__" ⟨.ref C :: us, kw⟩)).units = A.units + 1 := by
  first | rfl | simp [Around.under, Code.cUnits, Code.frames, Code.isFrame]
theorem Room.make {k : Nat} {A : Around} (r : Room (k + 1) A) (C : Addr) (us : List Value) (kw : List (Str × Value)) : Room k (A.under (.builtin "type.__call__" ⟨.ref C :: us, kw⟩)) :=
  ⟨r.hd, by have := r.dp; rw [make_depth]; omega, by have := r.un; rw [make_units]; omega⟩
theorem Room.depth {k : Nat} {A : Around} (r : Room k A) : A.depth < recursionLimit := by have := r.dp; omega
theorem Room.units {k : Nat} {A : Around} (r : Room k A) : A.units + 64 < cLine := by have := r.un; omega
theorem Room.units0 {k : Nat} {A : Around} (r : Room k A) : A.units < cLine := by have := r.un; omega

/-! ### argument lists and displays -/
def tNil : TA := fun _ H Q => Q [] H
def tCons (ta : TE) (tr : TA) : TA := fun σ H Q => ta σ H fun x H1 => tr σ H1 fun xs H2 => Q (x :: xs) H2
section
variable {X : Cx} {e : Expr} {es : List Expr} {te : TE} {t : TA} {pos : Pos}
theorem pa_nil : PA X [] tNil := fun _ _ _ _ H Q I h => Calls.spliced_nil ⟨[], H, I, .nil, h⟩
theorem pa_cons (ha : PE X e te) (hr : PA X es t) (hs : starEach (e :: es) X.env = (false, eval e X.env) :: starEach es X.env := by rfl) : PA X (e :: es) (tCons te t) := by
  intro pos pins s σ H Q I h
  rw [hs]
  show wpAny _ _ (spliced ((false, eval e X.env) :: backTo pos (starEach es X.env))) _ _ s
  refine Calls.spliced_cons (thn (ha pins s σ H _ I h) fun u s1 ⟨x, H1, I1, r1, q1⟩ => ?_)
  exact thn (hr pos pins s1 σ H1 _ I1 q1) fun us s2 ⟨xs, H2, I2, r2, q2⟩ => ⟨x :: xs, H2, I2, .cons r1 r2, q2⟩

/-- a tuple, a list of written items -/
def tTup (t : TA) : TE := fun σ H Q => t σ H fun xs H1 => xs.length ≤ sizeLine ∧ ∀ p, H1 p = none → Q (.ref p) (upd H1 p (.tup xs))
def tLst (t : TA) : TE := fun σ H Q => t σ H fun xs H1 => xs.length ≤ sizeLine ∧ ∀ p, H1 p = none → Q (.ref p) (upd H1 p (.lst xs))
theorem pe_tup {x1} (h : PA X es t) : PE X (.Tuple es x1 pos) (tTup t) := by
  intro pins s σ H Q I hq
  refine wpAny_Tuple_spliced (thn (h pos pins s σ H _ I hq) fun us s1 ⟨xs, H1, I1, r, z, q⟩ => ⟨by rw [← r.length]; exact z, ?_⟩)
  have hf : H1 s1.heap.objs.size = none := I1.hok.fresh (Nat.le_refl _)
  refine ⟨.ref s1.heap.objs.size, upd H1 s1.heap.objs.size (.tup xs), I1.laid (t' := s1.toks) (fun b u e => Heap.get?_push_of_some _ e) (Nat.le_refl _) ?_, rfl, q _ hf⟩
  exact ⟨z, us, r, ⟨_, Heap.get?_push_size _ rfl, rfl, _, rfl⟩⟩
theorem pe_lst (h : PA X es t) : PE X (.List es pos) (tLst t) := by
  intro pins s σ H Q I hq
  refine wpAny_List_spliced (thn (h pos pins s σ H _ I hq) fun us s1 ⟨xs, H1, I1, r, z, q⟩ => ⟨by rw [← r.length]; exact z, ?_⟩)
  have hf : H1 s1.heap.objs.size = none := I1.hok.fresh (Nat.le_refl _)
  refine ⟨.ref s1.heap.objs.size, upd H1 s1.heap.objs.size (.lst xs), I1.laid (t' := s1.toks) (fun b u e => Heap.get?_push_of_some _ e) (Nat.le_refl _) ?_, rfl, q _ hf⟩
  exact ⟨z, us, 0, r, Heap.get?_push_size _ rfl⟩
end

/-! ### what a def promises -/
/-- a def's promise: the bound arguments in the parameters' order, the heap, the wanted end, the wanted exception -/
abbrev Sp := List V → Hp → VK → XK → Prop
/-- how an exception lies behind a call (file 08 gives it): the callers' frames, abstract heap and state ahead of the call, the wish, the exception, the state -/
abbrev CXT := List Env → Hp → Shared → XK → Value → Shared → Prop

/-- the state at a call -/
structure Env0 (P : Program) (w : World) (K : PySem.W.Frag) (mg : Str → Option Value) (base : Heap) (A : Around) (outer : List Env) (s : Shared) (H : Hp) : Prop where
  frames : A.frames = some outer
  mod : Mod K mg base
  bs : ∀ b o, base.get? b = some o → s.heap.get? b = some o ∧ H b = none
  bsz : base.objs.size ≤ s.heap.objs.size
  funs : s.heap.FunFrames base outer
  frf : ∀ b ∈ frs outer, H b = none
  hok : HOk P w H s.heap
  bare : AllBare s.gens
/-- a call's end -/
def CE (outer : List Env) (P : Program) (w : World) (H : Hp) (s : Shared) (Q : VK) (u : Value) (s' : Shared) : Prop :=
  ∃ v H', s'.os = s.os ∧ AllBare s'.gens ∧ Un (frs outer) [] H H' s.heap s'.heap ∧ HOk P w H' s'.heap ∧ RelV v u ∧ Q v H'
def CR (CX : CXT) (outer : List Env) (P : Program) (w : World) (H : Hp) (s : Shared) (Q : VK) (E : XK) (r : Result) (s' : Shared) : Prop :=
  match r with
  | .ok (.ret u) => CE outer P w H s Q u s'
  | .ok _ => False
  | .error e => CX outer H s E e s'
structure FnOk (P : Program) (w : World) (K : PySem.W.Frag) (mg : Str → Option Value) (base : Heap) (CX : CXT) (k : Nat) (f : Addr) (fd : FuncData) (ps : List Str) (sp : Sp) : Prop where
  len : ∀ vs H Q E, sp vs H Q E → vs.length = ps.length
  run : ∀ (A : Around) (outer : List Env) (s : Shared) (H : Hp) (args : Args) (us : List Value) (vs : List V) (Q : VK) (E : XK), Room k A → Env0 P w K mg base A outer s H → BindsTo s fd args (ps.zip us) → Vals vs us → sp vs H Q E →
    codeAny (model P w) A (.call (.ref f) args) (CR CX outer P w H s Q E) s
theorem FnOk.mono {P : Program} {w : World} {K : PySem.W.Frag} {mg : Str → Option Value} {base : Heap} {CX : CXT} {j k : Nat} {f : Addr} {fd : FuncData} {ps : List Str} {sp : Sp} (F : FnOk P w K mg base CX j f fd ps sp) (h : j ≤ k) :
    FnOk P w K mg base CX k f fd ps sp := ⟨F.len, fun A outer s H args us vs Q E hr => F.run A outer s H args us vs Q E (hr.mono h)⟩
/-- a weaker promise -/
theorem FnOk.imp {P : Program} {w : World} {K : PySem.W.Frag} {mg : Str → Option Value} {base : Heap} {CX : CXT} {k : Nat} {f : Addr} {fd : FuncData} {ps : List Str} {sp sp' : Sp} (F : FnOk P w K mg base CX k f fd ps sp)
    (h : ∀ vs H Q E, sp' vs H Q E → sp vs H Q E) : FnOk P w K mg base CX k f fd ps sp' :=
  ⟨fun vs H Q E q => F.len vs H Q E (h _ _ _ _ q), fun A outer s H args us vs Q E hr he hb hv hs => F.run A outer s H args us vs Q E hr he hb hv (h _ _ _ _ hs)⟩

theorem Env0.make {P : Program} {w : World} {K : PySem.W.Frag} {mg : Str → Option Value} {base : Heap} {A : Around} {outer : List Env} {s : Shared} {H : Hp} (e : Env0 P w K mg base A outer s H) (C : Addr) (us : List Value) (kw : List (Str × Value)) :
    Env0 P w K mg base (A.under (.builtin "type.__call__" ⟨.ref C :: us, kw⟩)) outer s H := ⟨by first | exact e.frames | (simpa [Around.under, Code.envs, Code.isFrame, pushEnvs] using e.frames), e.mod, e.bs, e.bsz, e.funs, e.frf, e.hok, e.bare⟩
theorem Env0.in1 {P : Program} {w : World} {K : PySem.W.Frag} {mg : Str → Option Value} {base : Heap} {A : Around} {outer : List Env} {s : Shared} {H : Hp} (e : Env0 P w K mg base A outer s H) :
    Env0 P w K mg base A.in1 outer s H := ⟨e.frames, e.mod, e.bs, e.bsz, e.funs, e.frf, e.hok, e.bare⟩

section
variable {X : Cx} {pins : List (Addr × Obj)} {σ : St} {H : Hp} {s s' : Shared}
/-- from a body: what a callee wants -/
theorem Inv.env0 (I : Inv X pins σ H s) : Env0 X.prog X.w X.K X.mg X.base X.A X.stack s H :=
  ⟨I.ok.frames, I.ok.mod, I.bs, Nat.le_trans I.ok.bsz I.sz, I.stack, I.stkFree, I.hok, I.bare⟩
/-- behind a call -/
theorem Inv.after {Q : VK} {u : Value} (I : Inv X pins σ H s) (h : CE X.stack X.prog X.w H s Q u s') : EP X pins σ Q u s' := by
  obtain ⟨v, H', os, bare, un, hok, r, q⟩ := h
  obtain ⟨hh, g, d, t, os'⟩ := s'
  obtain rfl : os' = s.os := os
  exact ⟨v, H', I.call (h' := hh) (g' := g) (d' := d) (t' := t) (ch := []) un hok bare (fun b z => absurd z (by simp)), r, q⟩
end

/-! ### calls -/
/-- f(..): the written arguments, then the defaults dvs; E: what is wanted of an exception -/
def tCall (sp : Sp) (dvs : List V) (E : XK) (t : TA) : TE := fun σ H Q => t σ H fun vs H1 => sp (vs ++ dvs) H1 Q E
/-- o.m(..) of an instance of the class at C -/
def tMeth (C : Addr) (m : Str) (sp : Sp) (dvs : List V) (E : XK) (ta : TE) (t : TA) : TE := fun σ H Q => ta σ H fun x H1 => ∃ a dx fs, x = .ref a ∧ H1 a = some (.ins C dx fs) ∧ fs.lookup m = none ∧
  t σ H1 fun vs H2 => sp (x :: (vs ++ dvs)) H2 Q E
/-- C(..): a new instance and its dict, then __init__ -/
def tMake (C : Addr) (sp : Sp) (dvs : List V) (E : XK) (t : TA) : TE := fun σ H Q => t σ H fun vs H1 => ∀ x dx, H1 x = none → H1 dx = none → dx ≠ x →
  sp (.ref x :: (vs ++ dvs)) (upd (upd H1 dx (.own x)) x (.ins C dx [])) (fun v H2 => v = .non ∧ Q (.ref x) H2) E

/-- how the parameters are bound: us the positional arguments, kw the keywords' values by name, ds the defaults that fill up -/
def Binds (K : PySem.W.Frag) (fd : FuncData) (ps : List Str) (ds : List Value) : Prop :=
  ∀ (s : Shared) (us : List Value), K.In s.heap → (us ++ ds).length = ps.length → BindsTo s fd ⟨us, []⟩ (ps.zip (us ++ ds))
/-- every parameter is given -/
theorem Binds.all {K : PySem.W.Frag} {fd : FuncData} {ps : List Str} (h : ∀ us : List Value, us.length = ps.length → bindArgs fd ⟨us, []⟩ = pure (ps.zip us)) : Binds K fd ps [] := fun s us _ hl => by
  rw [List.append_nil] at hl ⊢
  exact .of_eq (h us hl)

/-- an exception of a callee reaches what this body wants of exceptions -/
def Passes (CX : CXT) (X : Cx) (E : XK) : Prop := ∀ (pins : List (Addr × Obj)) (σ : St) (H : Hp) (s : Shared) (e : Value) (s' : Shared), Inv X pins σ H s → CX X.stack H s E e s' → X.xe e s'

section
variable {X : Cx} {CX : CXT} {k : Nat} {f C : Addr} {fd : FuncData} {ps : List Str} {sp : Sp} {dvs : List V} {ds : List Value} {E : XK} {x m : Str} {p pos apos : Pos} {e o : Expr} {es : List Expr} {ta : TE} {t : TA}

/-- the callee runs -/
theorem run_fn {pins : List (Addr × Obj)} {σ : St} {H : Hp} {s : Shared} {Q : VK} {us : List Value} {vs : List V} (F : FnOk X.prog X.w X.K X.mg X.base CX k f fd ps sp) (hr : Room k X.A) (hb : Binds X.K fd ps ds) (hd : Vals dvs ds) (hx : Passes CX X E)
    (I : Inv X pins σ H s) (r : Vals vs us) (h : sp (vs ++ dvs) H Q E) : wpAny (model X.prog X.w) X.A (call (.ref f) us) (EP X pins σ Q) X.xe s := by
  have r2 : Vals (vs ++ dvs) (us ++ ds) := r.append hd
  have hl : (us ++ ds).length = ps.length := by rw [← r2.length]; exact F.len _ _ _ _ h
  refine wpAny_call (codeAny_mono (F.run X.A X.stack s H ⟨us, []⟩ (us ++ ds) (vs ++ dvs) Q E hr I.env0 (hb s us I.kIn hl) r2 h) fun r s' hq => ?_)
  cases r with
  | error e => exact hx pins σ H s e s' I hq
  | ok fl =>
    cases fl with
    | ret u => exact I.after hq
    | next => exact False.elim hq
    | brk => exact False.elim hq
    | cont => exact False.elim hq

theorem pe_call (F : FnOk X.prog X.w X.K X.mg X.base CX k f fd ps sp) (hr : Room k X.A) (hg : Gl X x) (hm : X.mg x = some (.ref f)) (hk : PySem.W.keepIn X.K (.ref f) = true) (hb : Binds X.K fd ps ds) (hd : Vals dvs ds) (hx : Passes CX X E)
    (ha : PA X (e :: es) t) (hdb : (x == ("__debug__" : Str)) = false := by decide) (he : starEach (e :: es) X.env = (false, eval e X.env) :: starEach es X.env := by rfl) (hpl : (backTo pos (starEach es X.env)).any (·.1) = false := by rfl) :
    PE X (.Call (.Name x p) (e :: es) [] pos) (tCall sp dvs E t) := by
  intro pins s σ H Q I h
  refine wpAny_Call_Name_kw (ld_glob I hg hm ?_ hdb)
  refine PySem.W.callWith_K (h₀ := X.base) I.ok.mod.kin hk (thn (ha pos pins s σ H _ I h) fun us s1 ⟨vs, H1, I1, r, q⟩ => ⟨I1.kIn, ?_⟩) he hpl
  exact run_fn F hr hb hd hx I1 r q
theorem pe_call0 (F : FnOk X.prog X.w X.K X.mg X.base CX k f fd ps sp) (hr : Room k X.A) (hg : Gl X x) (hm : X.mg x = some (.ref f)) (hk : PySem.W.keepIn X.K (.ref f) = true) (hb : Binds X.K fd ps ds) (hd : Vals dvs ds) (hx : Passes CX X E)
    (hdb : (x == ("__debug__" : Str)) = false := by decide) : PE X (.Call (.Name x p) [] [] pos) (tCall sp dvs E tNil) := by
  intro pins s σ H Q I h
  refine wpAny_Call_Name_kw (ld_glob I hg hm ?_ hdb)
  exact PySem.W.callWith_K0 I.kIn hk (run_fn (us := []) F hr hb hd hx I .nil h)

/-- o.m(e, ..) -/
theorem pe_meth {pl : Sem Bool} (he : PE X o ta) (c : Cls X.K C) (hm : Meth X.K C m f) (F : FnOk X.prog X.w X.K X.mg X.base CX k f fd ps sp) (hr : Room k X.A) (hb : Binds X.K fd ps ds) (hd : Vals dvs ds) (hx : Passes CX X E) (ha : PA X (e :: es) t)
    (hst : starEach (e :: es) X.env = (false, eval e X.env) :: starEach es X.env := by rfl) (hpl : (backTo pos (starEach es X.env)).any (·.1) = false := by rfl)
    (ht : eval (.Call (.Attribute o m apos) (e :: es) [] pos) X.env = (do
      let ov ← eval o X.env
      standAt apos.atName
      let (f, first) ← holding [ov] (getMethod ov m pl)
      callWith pos f first (backTo pos (starEach (e :: es) X.env)) (backToKw pos (keywordEach [] X.env))) := by rfl) :
    PE X (.Call (.Attribute o m apos) (e :: es) [] pos) (tMeth C m sp dvs E ta t) := by
  intro pins s σ H Q I h
  refine PySem.W.methodCall_KW (pl := pl) (thn (he pins s σ H _ I h) fun u s1 ⟨x, H1, I1, rx, a, dx, fs, ex, ea, l, q⟩ => ?_) ht
  subst ex
  obtain rfl : u = Value.ref a := rx
  refine getmeth_ok I1 ea c hm l ?_
  refine PySem.W.callWith_K (first := [.ref a]) (h₀ := X.base) I.ok.mod.kin hm.kp (thn (ha pos pins s1 σ H1 _ I1 q) fun us s2 ⟨vs, H2, I2, r, q2⟩ => ⟨I2.kIn, ?_⟩) hst hpl
  exact run_fn (us := .ref a :: us) (vs := .ref a :: vs) F hr hb hd hx I2 (.cons rfl r) q2
/-- o.m() -/
theorem pe_meth0 {pl : Sem Bool} (he : PE X o ta) (c : Cls X.K C) (hm : Meth X.K C m f) (F : FnOk X.prog X.w X.K X.mg X.base CX k f fd ps sp) (hr : Room k X.A) (hb : Binds X.K fd ps ds) (hd : Vals dvs ds) (hx : Passes CX X E)
    (ht : eval (.Call (.Attribute o m apos) [] [] pos) X.env = (do
      let ov ← eval o X.env
      standAt apos.atName
      let (f, first) ← holding [ov] (getMethod ov m pl)
      callWith pos f first (backTo pos (starEach [] X.env)) (backToKw pos (keywordEach [] X.env))) := by rfl) :
    PE X (.Call (.Attribute o m apos) [] [] pos) (tMeth C m sp dvs E ta tNil) := by
  intro pins s σ H Q I h
  refine PySem.W.methodCall_KW (pl := pl) (thn (he pins s σ H _ I h) fun u s1 ⟨x, H1, I1, rx, a, dx, fs, ex, ea, l, q⟩ => ?_) ht
  subst ex
  obtain rfl : u = Value.ref a := rx
  refine getmeth_ok I1 ea c hm l ?_
  exact PySem.W.callWith_K0 (first := [.ref a]) I1.kIn hm.kp (run_fn (us := [.ref a]) (vs := [.ref a]) F hr hb hd hx I1 (.cons rfl .nil) q)

/-- what a class must have to be made -/
structure Mk (K : PySem.W.Frag) (C f : Addr) : Prop where
  makes : PySem.W.makesIn K C = true
  init : PySem.W.findIn K (.ref C) "__init__" = some (some (.ref f))
  fn : PySem.W.isFn K (.ref f) = true
  kp : PySem.W.keepIn K (.ref C) = true

theorem run_make {pins : List (Addr × Obj)} {σ : St} {H : Hp} {s : Shared} {Q : VK} {us : List Value} {vs : List V} (M : Mk X.K C f) (F : FnOk X.prog X.w X.K X.mg X.base CX k f fd ps sp) (hr : Room (k + 1) X.A) (hb : Binds X.K fd ps ds) (hd : Vals dvs ds)
    (hx : Passes CX X E) (I : Inv X pins σ H s) (r : Vals vs us)
    (h : ∀ x dx, H x = none → H dx = none → dx ≠ x → sp (.ref x :: (vs ++ dvs)) (upd (upd H dx (.own x)) x (.ins C dx [])) (fun v H2 => v = .non ∧ Q (.ref x) H2) E) :
    wpAny (model X.prog X.w) X.A (call (.ref C) us) (EP X pins σ Q) X.xe s := by
  have hq := h (s.heap.objs.size + 1) s.heap.objs.size (I.hok.fresh (Nat.le_succ _)) (I.hok.fresh (Nat.le_refl _)) (Nat.ne_of_lt (Nat.lt_succ_self _))
  have I2 := Inv.made (C := C) I
  have r2 : Vals (V.ref (s.heap.objs.size + 1) :: (vs ++ dvs)) (Value.ref (s.heap.objs.size + 1) :: (us ++ ds)) := .cons rfl (r.append hd)
  have hl : (Value.ref (s.heap.objs.size + 1) :: us ++ ds).length = ps.length := by
    have e := r2.length
    rw [F.len _ _ _ _ hq] at e
    exact e.symm
  refine wpAny_call (make_map (f := f) I.kIn M.makes M.init (beq_iff_eq.mp M.fn) (codeAny_mono (F.run _ X.stack _ _ ⟨Value.ref (s.heap.objs.size + 1) :: us, []⟩ (Value.ref (s.heap.objs.size + 1) :: (us ++ ds)) _ _ E (hr.make C us [])
    (I2.env0.make C us []) (hb _ (Value.ref (s.heap.objs.size + 1) :: us) I2.kIn hl) r2 hq) fun r s' hq' => ?_))
  cases r with
  | error e => exact hx pins σ _ _ e s' I2 hq'
  | ok fl =>
    cases fl with
    | ret u =>
      obtain ⟨v, H', I3, rv, ev, q3⟩ := I2.after hq'
      subst ev
      exact ⟨rv, ⟨V.ref (s.heap.objs.size + 1), H', I3, rfl, q3⟩⟩
    | next => exact False.elim hq'
    | brk => exact False.elim hq'
    | cont => exact False.elim hq'
theorem pe_make (M : Mk X.K C f) (F : FnOk X.prog X.w X.K X.mg X.base CX k f fd ps sp) (hr : Room (k + 1) X.A) (hg : Gl X x) (hm : X.mg x = some (.ref C)) (hb : Binds X.K fd ps ds) (hd : Vals dvs ds) (hx : Passes CX X E)
    (ha : PA X (e :: es) t) (hdb : (x == ("__debug__" : Str)) = false := by decide) (he : starEach (e :: es) X.env = (false, eval e X.env) :: starEach es X.env := by rfl) (hpl : (backTo pos (starEach es X.env)).any (·.1) = false := by rfl) :
    PE X (.Call (.Name x p) (e :: es) [] pos) (tMake C sp dvs E t) := by
  intro pins s σ H Q I h
  refine wpAny_Call_Name_kw (ld_glob I hg hm ?_ hdb)
  refine PySem.W.callWith_K (h₀ := X.base) I.ok.mod.kin M.kp (thn (ha pos pins s σ H _ I h) fun us s1 ⟨vs, H1, I1, r, q⟩ => ⟨I1.kIn, ?_⟩) he hpl
  exact run_make M F hr hb hd hx I1 r q
theorem pe_make0 (M : Mk X.K C f) (F : FnOk X.prog X.w X.K X.mg X.base CX k f fd ps sp) (hr : Room (k + 1) X.A) (hg : Gl X x) (hm : X.mg x = some (.ref C)) (hb : Binds X.K fd ps ds) (hd : Vals dvs ds) (hx : Passes CX X E)
    (hdb : (x == ("__debug__" : Str)) = false := by decide) : PE X (.Call (.Name x p) [] [] pos) (tMake C sp dvs E tNil) := by
  intro pins s σ H Q I h
  refine wpAny_Call_Name_kw (ld_glob I hg hm ?_ hdb)
  exact PySem.W.callWith_K0 I.kIn M.kp (run_make (us := []) M F hr hb hd hx I .nil h)
end

/-! ### keywords -/
/-- the values of the keywords, from the left -/
def PK (X : Cx) (kws : List Keyword) (t : TA) : Prop :=
  ∀ (pos : Pos) (pins : List (Addr × Obj)) (s : Shared) (σ : St) (H : Hp) (Q : List V → Hp → Prop), Inv X pins σ H s → t σ H Q → wpAny (model X.prog X.w) X.A (evalAll ((backToKw pos (keywordEach kws X.env)).map (·.2))) (AP X pins σ Q) X.xe s
section
variable {X : Cx} {CX : CXT} {k : Nat} {f C : Addr} {fd : FuncData} {ps ks : List Str} {sp : Sp} {E : XK} {x m : Str} {p pos apos kpos : Pos} {e o : Expr} {es : List Expr} {kws : List Keyword} {te ta : TE} {t tk : TA} {nm : Option Str}
theorem pk_nil : PK X [] tNil := fun _ _ _ _ H Q I h => wpAny_evalAll_nil ⟨[], H, I, .nil, h⟩
theorem pk_cons (ha : PE X e te) (hr : PK X kws t) : PK X (⟨nm, e, kpos⟩ :: kws) (tCons te t) := by
  intro pos pins s σ H Q I h
  show wpAny _ _ (evalAll ((do let v ← eval e X.env; standAt pos; pure v) :: (backToKw pos (keywordEach kws X.env)).map (·.2))) _ _ s
  refine wpAny_evalAll_cons (wpAny_bind (thn (ha pins s σ H _ I h) fun u s1 ⟨x, H1, I1, r1, q1⟩ => wpAny_bind (wpAny_standAt (wpAny_pure ?_))))
  exact thn (hr pos pins s1 σ H1 _ I1 q1) fun us s2 ⟨xs, H2, I2, r2, q2⟩ => ⟨x :: xs, H2, I2, .cons r1 r2, q2⟩

/-- how a call with keywords binds: g puts the positional values us and the keywords' values ws (names ks) in the parameters' order, defaults among them -/
structure KBinds (K : PySem.W.Frag) (fd : FuncData) (ps ks : List Str) (g : List Value → List Value → List Value) (gV : List V → List V → List V) : Prop where
  to : ∀ (s : Shared) (us ws : List Value), K.In s.heap → (g us ws).length = ps.length → BindsTo s fd ⟨us, ks.zip ws⟩ (ps.zip (g us ws))
  rel : ∀ {vs : List V} {us : List Value} {zs : List V} {ws : List Value}, Vals vs us → Vals zs ws → Vals (gV vs zs) (g us ws)
def tCallK (sp : Sp) (gV : List V → List V → List V) (E : XK) (t tk : TA) : TE := fun σ H Q => t σ H fun vs H1 => tk σ H1 fun zs H2 => sp (gV vs zs) H2 Q E
variable {g : List Value → List Value → List Value} {gV : List V → List V → List V}
theorem run_fnk {pins : List (Addr × Obj)} {σ : St} {H : Hp} {s : Shared} {Q : VK} {us ws : List Value} {vs zs : List V} (F : FnOk X.prog X.w X.K X.mg X.base CX k f fd ps sp) (hr : Room k X.A) (hb : KBinds X.K fd ps ks g gV) (hx : Passes CX X E)
    (I : Inv X pins σ H s) (r : Vals vs us) (rz : Vals zs ws) (h : sp (gV vs zs) H Q E) : wpAny (model X.prog X.w) X.A (call (.ref f) us (ks.zip ws)) (EP X pins σ Q) X.xe s := by
  have r2 := hb.rel r rz
  have hl : (g us ws).length = ps.length := by rw [← r2.length]; exact F.len _ _ _ _ h
  refine wpAny_call (codeAny_mono (F.run X.A X.stack s H ⟨us, ks.zip ws⟩ (g us ws) (gV vs zs) Q E hr I.env0 (hb.to s us ws I.kIn hl) r2 h) fun r s' hq => ?_)
  cases r with
  | error e => exact hx pins σ H s e s' I hq
  | ok fl =>
    cases fl with
    | ret u => exact I.after hq
    | next => exact False.elim hq
    | brk => exact False.elim hq
    | cont => exact False.elim hq
/-- f(e, .., k = v, ..) -/
theorem pe_callK (F : FnOk X.prog X.w X.K X.mg X.base CX k f fd ps sp) (hr : Room k X.A) (hg : Gl X x) (hm : X.mg x = some (.ref f)) (hk : PySem.W.keepIn X.K (.ref f) = true) (hb : KBinds X.K fd ps ks g gV) (hx : Passes CX X E)
    (ha : PA X (e :: es) t) (hkw : PK X kws tk) (hall : (backToKw pos (keywordEach kws X.env)).all (·.1.isSome) = true := by rfl) (hks : (backToKw pos (keywordEach kws X.env)).filterMap (·.1) = ks := by rfl)
    (hdb : (x == ("__debug__" : Str)) = false := by decide) (he : starEach (e :: es) X.env = (false, eval e X.env) :: starEach es X.env := by rfl)
    (hpl : ((backTo pos (starEach (e :: es) X.env)).any (·.1) || (backToKw pos (keywordEach kws X.env)).any (·.1.isNone)) = false := by rfl) :
    PE X (.Call (.Name x p) (e :: es) kws pos) (tCallK sp gV E t tk) := by
  intro pins s σ H Q I h
  refine wpAny_Call_Name_kw (ld_glob I hg hm ?_ hdb)
  refine PySem.W.callWith_KW (h₀ := X.base) I.ok.mod.kin hk hall (thn (ha pos pins s σ H _ I h) fun us s1 ⟨vs, H1, I1, r, q⟩ => ?_) hpl he
  refine thn (hkw pos pins s1 σ H1 _ I1 q) fun ws s2 ⟨zs, H2, I2, rz, q2⟩ => ⟨I2.kIn, ?_⟩
  rw [hks]
  exact run_fnk F hr hb hx I2 r rz q2
end

/-! ### a def's body keeps its promise -/
/-- names: the parameters first -/
structure FnScope (N P : List Str) (sc : Scope) : Prop where
  kind : sc.kind = .function
  co : sc.isCoroutine = false
  gen : sc.isGenerator = false
  nd : N.Nodup
  pre : N.take P.length = P
  par : ∀ x ∈ P, sc.names.lookup x = some .local ∨ sc.names.lookup x = some .cell
  nofree : ∀ y ∈ sc.names, y.2 ≠ .free

theorem bindL_out {kindOf : Str → Option NameKind} {x : Str} : ∀ {binds : List (Str × Value)} {m : Str → Option Value}, (∀ v, (x, v) ∉ binds) → bindL kindOf binds m x = m x
  | [], _, _ => rfl
  | (n, v) :: r, m, h => by
    unfold bindL
    rw [bindL_out fun w hw => h w (List.mem_cons_of_mem _ hw)]
    split
    · have : x ≠ n := by rintro rfl; exact h v List.mem_cons_self
      simp [this]
    · rfl
theorem bindC_out {kindOf : Str → Option NameKind} {x : Str} : ∀ {binds : List (Str × Value)} {m : Str → Option Value}, (∀ v, (x, v) ∉ binds) → bindC kindOf binds m x = m x
  | [], _, _ => rfl
  | (n, v) :: r, m, h => by
    unfold bindC
    rw [bindC_out fun w hw => h w (List.mem_cons_of_mem _ hw)]
    split
    · rfl
    · have : x ≠ n := by rintro rfl; exact h v List.mem_cons_self
      simp [this]
theorem bindL_get {kindOf : Str → Option NameKind} {x : Str} {v : Value} : ∀ {P : List Str} {vs : List Value} {i : Nat} {m : Str → Option Value}, P.Nodup → P[i]? = some x → vs[i]? = some v → kindOf x = some .local →
    bindL kindOf (P.zip vs) m x = some v
  | [], _, _, _, _, h, _, _ => by simp at h
  | _ :: _, [], _, _, _, _, h, _ => by simp at h
  | p :: P, w :: vs, 0, m, nd, h1, h2, hk => by
    simp at h1 h2; subst h1; subst h2
    show bindL kindOf ((p, w) :: P.zip vs) m p = _
    unfold bindL
    rw [bindL_out fun v hv => (List.nodup_cons.mp nd).1 (List.of_mem_zip hv).1, if_pos hk]
    simp
  | p :: P, w :: vs, i + 1, m, nd, h1, h2, hk => by
    show bindL kindOf ((p, w) :: P.zip vs) m x = _
    unfold bindL
    exact bindL_get (i := i) (List.nodup_cons.mp nd).2 (by simpa using h1) (by simpa using h2) hk
theorem bindC_get {kindOf : Str → Option NameKind} {x : Str} {v : Value} : ∀ {P : List Str} {vs : List Value} {i : Nat} {m : Str → Option Value}, P.Nodup → P[i]? = some x → vs[i]? = some v → kindOf x ≠ some .local →
    bindC kindOf (P.zip vs) m x = some v
  | [], _, _, _, _, h, _, _ => by simp at h
  | _ :: _, [], _, _, _, _, h, _ => by simp at h
  | p :: P, w :: vs, 0, m, nd, h1, h2, hk => by
    simp at h1 h2; subst h1; subst h2
    show bindC kindOf ((p, w) :: P.zip vs) m p = _
    unfold bindC
    rw [bindC_out fun v hv => (List.nodup_cons.mp nd).1 (List.of_mem_zip hv).1, if_neg hk]
    simp
  | p :: P, w :: vs, i + 1, m, nd, h1, h2, hk => by
    show bindC kindOf ((p, w) :: P.zip vs) m x = _
    unfold bindC
    exact bindC_get (i := i) (List.nodup_cons.mp nd).2 (by simpa using h1) (by simpa using h2) hk

/-- the names' values at the entry -/
def start (N : List Str) (vs : List V) : St := vs.map some ++ List.replicate (N.length - vs.length) none

/-- the context of a def's body, at its entry; an exception leaves the frame, then lies as CX says -/
def cxOf (CX : CXT) (P : Program) (w : World) (K : PySem.W.Frag) (mg : Str → Option Value) (base : Heap) (N : List Str) (qual : Str) (scope : Scope) (f : Addr) (cd : Value) (A : Around) (outer : List Env) (s : Shared) (H : Hp) (E : XK) : Cx where
  prog := P
  w := w
  K := K
  mg := mg
  base := base
  A := A.deeper (envOfC qual scope s.heap.objs.size f cd)
  N := N
  s₀ := s
  H₀ := H
  env := envOfC qual scope s.heap.objs.size f cd
  outer := outer
  stack := envOfC qual scope s.heap.objs.size f cd :: outer
  ex := []
  calm := true
  fn := fun _ => true
  pn := []
  xe := fun e s' => wpAny (model P w) (A.deeper (envOfC qual scope s.heap.objs.size f cd)) (leaving (envOfC qual scope s.heap.objs.size f cd) e) (fun _ s'' => CX outer H s E e s'') (fun e' s'' => CX outer H s E e' s'') s'

theorem cell_has {sc : Scope} {n : Nat} {x : Str} (h : sc.names.lookup x = some .cell) : ∃ c, (cellsFrom n sc.names []).lookup x = some c := by
  have q := PySem.W.cellsFrom_some sc.names n [] (.inl h)
  exact Option.isSome_iff_exists.mp q

theorem inv_start {CX : CXT} {P : Program} {w : World} {K : PySem.W.Frag} {mg : Str → Option Value} {base : Heap} {N ps : List Str} {qual : Str} {scope : Scope} {f : Addr} {cd : Value} {A : Around} {outer : List Env} {s s1 : Shared} {H : Hp} {E : XK} {us : List Value} {vs : List V}
    (S : FnScope N ps scope) (hd : A.handled = none) (e0 : Env0 P w K mg base A outer s H) (hl : vs.length = ps.length) (r : Vals vs us)
    (x : InCallC s s.heap.objs.size (bindL (envOfC qual scope s.heap.objs.size f cd).kindOf (ps.zip us) fun _ => none) (cellsFrom (s.heap.objs.size + 1) scope.names []) (bindC (envOfC qual scope s.heap.objs.size f cd).kindOf (ps.zip us) fun _ => none) s1) :
    Inv (cxOf CX P w K mg base N qual scope f cd A outer s H E) [] (start N vs) H s1 := by
  have hpl : ps.length ≤ N.length := by have := congrArg List.length S.pre; rw [List.length_take] at this; omega
  obtain ⟨h1, tk, rfl, hk⟩ := x.done
  have noA : ∀ b : Addr, b ∉ (cxOf CX P w K mg base N qual scope f cd A outer s H E).ex := fun b z => absurd (show b ∈ ([] : List Addr) from z) (by simp)
  refine ⟨⟨e0.mod, S.kind, rfl, rfl, Nat.le_refl _, fun y z c h1 h2 => ?_, fun y hy => ?_, fun y c _ h => ?_, fun _ => hd, Around.frames_deeper e0.frames, .inr ⟨rfl, rfl⟩, fun b z => absurd z (noA b), e0.bs, e0.bsz, fun b _ _ => noA b, fun b z => absurd z (noA b), e0.funs, e0.frf⟩,
    rfl, e0.bare, Un.kept hk, ⟨_, x.toInCall.ns, fun i y v h1 h2 h3 => ?_⟩, fun y c h => ⟨_, x.cell y c h⟩, e0.hok.fresh (Nat.le_refl _), fun y c h => ?_, fun p hp => absurd (show p ∈ ([] : List (Addr × Obj)) from hp) (by simp), e0.hok.kept hk, ?_⟩
  · exact name_of_addr x.apart (PySem.mem_of_lookup h1) (PySem.mem_of_lookup h2)
  · have hy : scope.names.lookup y = some .cell ∨ scope.names.lookup y = some .free := hy
    rcases hy with hy | hy
    · exact cell_has hy
    · exact absurd rfl (S.nofree _ (PySem.mem_of_lookup hy))
  · exact Nat.le_of_lt (x.above y c (PySem.mem_of_lookup h))
  · have hi : i < vs.length := by
      unfold start at h2
      by_cases hi : i < vs.length
      · exact hi
      · rw [List.getElem?_append_right (by simpa using hi)] at h2
        rw [List.getElem?_replicate] at h2
        split at h2 <;> cases h2
    have ha : vs[i]? = some v := by
      unfold start at h2
      rw [List.getElem?_append_left (by simpa using hi), List.getElem?_map] at h2
      cases e : vs[i]? with
      | none => rw [e] at h2; cases h2
      | some a => rw [e] at h2; cases h2; rfl
    obtain ⟨u, hu, rv⟩ := r.get ha
    have hp : ps[i]? = some y := by
      rw [← S.pre, List.getElem?_take_of_lt (by omega)]; exact h1
    have ndP : ps.Nodup := by rw [← S.pre]; exact S.nd.sublist (List.take_sublist _ _)
    refine ⟨u, rv, ?_⟩
    rcases S.par y (List.mem_of_getElem? hp) with k | k
    · exact .inl ⟨k, bindL_get ndP hp hu k⟩
    · obtain ⟨c, e⟩ := cell_has (n := s.heap.objs.size + 1) k
      refine .inr ⟨.inl k, c, e, ?_⟩
      have q := x.cell y c e
      rw [bindC_get ndP hp hu (by show scope.names.lookup y ≠ _; rw [k]; decide)] at q
      exact q
  · exact e0.hok.fresh (Nat.le_of_lt (x.above y c (PySem.mem_of_lookup h)))
  · unfold start
    show _ = N.length
    rw [List.length_append, List.length_map, List.length_replicate]
    omega

/-- THE RULE: a def (or a method) of the text, by its body. The body's reading t is chosen for each entry; it is run at the parameters' values -/
theorem fn_of {CX : CXT} {P : Program} {w : World} {K : PySem.W.Frag} {mg : Str → Option Value} {base : Heap} {k : Nat} {f : Addr} {name qual : Str} {params : Arguments} {body : List Stmt} {scope : Scope} {dV kV doc pm cdv ct oc : Value} {an od : Option Addr}
    {osl : Array (Option Value)} {N ps : List Str} {sp : Sp} (lk : K.lookup f = some ⟨oc, od, .func (PySem.W.fnOf name qual params body scope dV kV doc pm an cdv ct), osl⟩) (hcd : PySem.W.codeIn K cdv qual = true) (S : FnScope N ps scope)
    (len : ∀ vs H Q E, sp vs H Q E → vs.length = ps.length)
    (hbody : ∀ (A : Around) (outer : List Env) (s : Shared) (H : Hp) (vs : List V) (Q : VK) (E : XK), Room k (A.deeper (envOfC qual scope s.heap.objs.size f cdv)) → sp vs H Q E →
      ∃ t, PSs (cxOf CX P w K mg base N qual scope f cdv A outer s H E) body t ∧ t { nx := fun _ H' => Q .non H', rt := Q } (start N vs) H) :
    FnOk P w K mg base CX (k + 1) f (PySem.W.fnOf name qual params body scope dV kV doc pm an cdv ct) ps sp := by
  refine ⟨len, fun A outer s H args us vs Q E hr e0 hb r hsp => ?_⟩
  have hl := len _ _ _ _ hsp
  have KX : K.In s.heap := e0.mod.kin.keeps fun b o e => (e0.bs b o e).1
  have lim : s.heap.NoLimit := e0.mod.nolimit.keeps fun b o e => (e0.bs b o e).1
  have hkind : ∀ y ∈ ps.zip us, scope.names.lookup y.1 = some .local ∨ (scope.names.lookup y.1 = some .cell ∧ ((cellsFrom (s.heap.objs.size + 1) scope.names []).lookup y.1).isSome = true) := fun ⟨n, v⟩ hy => by
    rcases S.par n (List.of_mem_zip hy).1 with q | q
    · exact .inl q
    · exact .inr ⟨q, PySem.W.cellsFrom_some _ _ _ (.inl q)⟩
  refine codeAny_call_function hr.depth (KX _ _ lk) rfl S.co S.gen rfl (PySem.W.codeRec_of KX hcd) (hb _ _ _ _ ?_)
  refine wpAny_newFunctionEnv_cells S.kind hkind fun env he s1 x => ?_
  subst he
  refine ⟨lim.keeps x.toInCall.keep, codeAny_func ?_⟩
  obtain ⟨t, ht, hq⟩ := hbody A outer s H vs Q E (hr.deeper _) hsp
  have I : Inv (cxOf CX P w K mg base N qual scope f cdv A outer s H E) [] (start N vs) H s1 := inv_start S hr.hd e0 hl r x
  refine wpAny_mono (ht [] s1 (start N vs) H _ I hq) (fun fl s' hs => ?_) fun e s' hs => hs
  have fin : ∀ {σ' : St} {H' : Hp} {v : V} {u : Value}, Inv (cxOf CX P w K mg base N qual scope f cdv A outer s H E) [] σ' H' s' → RelV v u → Q v H' → CE outer P w H s Q u s' :=
    fun {σ' H' v u} J rv q => ⟨v, H', J.os, J.bare, J.base, J.hok, rv, q⟩
  cases fl with
  | ret u =>
    obtain ⟨v, σ', H', J, rv, q⟩ := hs
    exact fin J rv q
  | next =>
    obtain ⟨σ', H', J, q⟩ := hs
    exact fin (v := V.non) (u := Value.none) J rfl q
  | brk =>
    obtain ⟨_, _, _, q⟩ := hs
    exact False.elim q
  | cont =>
    obtain ⟨_, _, _, q⟩ := hs
    exact False.elim q
end L2

namespace L2
open PySem PySem.Spec PyProof.Rows
section
variable {X : Cx} {x : Str} {p pos : Pos} {e : Expr} {es : List Expr} {t : TA} {id T : String} {r : List V → Hp → VK → Prop}

def tCB (r : List V → Hp → VK → Prop) (t : TA) : TE := fun σ H Q => t σ H fun vs H1 => r vs H1 Q
/-- f(e, ..), f a built-in function -/
theorem pe_callB (hc : CallR X (.builtin id) r) (hg : Gl X x) (hm : X.mg x = none) (hv : bootBuiltins x = some (.builtin id)) (ha : PA X (e :: es) t) (hn : x ≠ "__name__" := by decide) (hdb : (x == ("__debug__" : Str)) = false := by decide)
    (he : starEach (e :: es) X.env = (false, eval e X.env) :: starEach es X.env := by rfl) (hpl : (backTo pos (starEach es X.env)).any (·.1) = false := by rfl) : PE X (.Call (.Name x p) (e :: es) [] pos) (tCB r t) := by
  intro pins s σ H Q I h
  refine wpAny_Call_Name_kw (ld_blt I hg hm hv ?_ hn hdb)
  exact PyProof.Rows.callWith_builtin1 (thn (ha pos pins s σ H _ I h) fun us s1 ⟨vs, H1, I1, r1, q1⟩ => hc pins s1 σ H1 vs us Q I1 r1 q1) he hpl
/-- T(e, ..), T a built-in type -/
theorem pe_callTy (hc : CallR X (.type T) r) (hg : Gl X x) (hm : X.mg x = none) (hv : bootBuiltins x = some (.type T)) (ha : PA X (e :: es) t) (hn : x ≠ "__name__" := by decide) (hdb : (x == ("__debug__" : Str)) = false := by decide)
    (he : starEach (e :: es) X.env = (false, eval e X.env) :: starEach es X.env := by rfl) (hpl : (backTo pos (starEach es X.env)).any (·.1) = false := by rfl) : PE X (.Call (.Name x p) (e :: es) [] pos) (tCB r t) := by
  intro pins s σ H Q I h
  refine wpAny_Call_Name_kw (ld_blt I hg hm hv ?_ hn hdb)
  exact PyProof.Rows.callWith_type1 (thn (ha pos pins s σ H _ I h) fun us s1 ⟨vs, H1, I1, r1, q1⟩ => hc pins s1 σ H1 vs us Q I1 r1 q1) he hpl
/-- T() -/
theorem pe_callTy0 (hc : CallR X (.type T) r) (hg : Gl X x) (hm : X.mg x = none) (hv : bootBuiltins x = some (.type T)) (hn : x ≠ "__name__" := by decide) (hdb : (x == ("__debug__" : Str)) = false := by decide) :
    PE X (.Call (.Name x p) [] [] pos) (tCB r tNil) := by
  intro pins s σ H Q I h
  refine wpAny_Call_Name_kw (ld_blt I hg hm hv ?_ hn hdb)
  exact PyProof.Rows.callWith_type0 (hc pins s σ H [] [] Q I .nil h)
end
end L2

namespace HT
open PySem PyProof.Rows

/-- t < u of tuples of ints -/
def lexLt : List Int → List Int → Bool
  | [], [] => false
  | [], _ :: _ => true
  | _ :: _, [] => false
  | x :: xs, y :: ys => if x = y then lexLt xs ys else decide (x < y)
theorem lexLt_cons (x y : Int) (xs ys : List Int) : lexLt (x :: xs) (y :: ys) = if x = y then lexLt xs ys else decide (x < y) := rfl
theorem lexLt_nil_nil : lexLt [] [] = false := rfl
theorem lexLt_nil_cons (y : Int) (ys : List Int) : lexLt [] (y :: ys) = true := rfl
theorem lexLt_cons_nil (x : Int) (xs : List Int) : lexLt (x :: xs) [] = false := rfl

theorem eqAt_int (A : Around) (s : Shared) (a : Int) (t : Tok) (c : Int) (u : Tok) : ∃ e, SeqAt.EqAt A s (.int a t) (.int c u) e ∧ (e = true ↔ a = c) :=
  ⟨(a == c), SeqAt.EqAt.int_int a t c u, by simp⟩
theorem rcLt_int (A : Around) (s : Shared) (a : Int) (t : Tok) (c : Int) (u : Tok) (prog : Program) (w : World) (E : Value → Shared → Prop) (Q : Value → Shared → Prop) (h : Q (.bool (decide (a < c))) s) :
    wpAny (model prog w) A (richCompare .Lt (.int a t) (.int c u)) Q E s :=
  (PyProof.Rows.lt_int h : wpAny (model prog w) A (compareOp .Lt (.int a t) (.int c u)) Q E s)

section
open PySem.SeqAt
open PySem.AutoSeq1 (wpAny_loadPart')
open PySem.MeetsSeq PySem.MeetsSeq2 PySem.MeetsSeq3

theorem tuple_lt_ints (l b : Addr) (items items2 : Array Value) (n n2 : Nat) (dd dd2 : Option Addr) (sl sl2 : Array (Option Value)) (ns ms : List Int) (hi : IntsAre items.toList ns) (hj : IntsAre items2.toList ms) :
    Meets (Builtin.«tuple.__lt__» ⟨[.ref l, .ref b], []⟩)
      (fun _ R s => s.heap.get? l = some { cls := .type "tuple", dict := dd, data := .seq items n, slots := sl } ∧ s.heap.get? b = some { cls := .type "tuple", dict := dd2, data := .seq items2 n2, slots := sl2 } ∧
        R (.ok (.ret (.bool (lexLt ns ms)))) s) :=
  .of_wp fun prog w A R s h => by
    obtain ⟨hp, g, d, tk, os⟩ := s; obtain ⟨hl, hb, h⟩ := h
    have f2 := AutoSeq1.sub_tuple_tuple
    have z1 : items.size = ns.length := by rw [← hi.length]; simp
    have z2 : items2.size = ms.length := by rw [← hj.length]; simp
    wp_walk using wpAny_loadPart' hl, wpAny_loadPart' hb, wpAny_forIn_list _ (fun rest b s' => b.1 = none ∧ s' = ⟨hp, g, d, tk, os⟩ ∧ ∃ (vs ws : List Value) (ns' ms' : List Int), rest = vs.zip ws ∧
      IntsAre vs ns' ∧ IntsAre ws ms' ∧ ns'.length + items2.size = ms'.length + items.size ∧ R (.ok (.ret (.bool (lexLt ns' ms')))) ⟨hp, g, d, tk, os⟩) _
    case turn =>
      rintro ⟨y, x⟩ rest b s' ⟨hb', rfl, vs, ws, ns', ms', hz, hvi, hwi, hlen, hR⟩
      cases hvi with
      | nil => rw [List.zip_nil_left] at hz; cases hz
      | cons a t hvi' =>
        cases hwi with
        | nil => rw [List.zip_nil_right] at hz; cases hz
        | cons c u hwi' =>
          rw [List.zip_cons_cons] at hz
          injection hz with hyx hrest
          injection hyx with hy hx
          subst hy hx
          rw [lexLt_cons] at hR
          simp only [List.length_cons] at hlen
          obtain ⟨e, he, hiff⟩ := eqAt_int A.in1 ⟨hp, g, d, tk, os⟩ a t c u
          refine wpAny_bind (he prog w _ _ ?_)
          cases e with
          | true =>
            rw [if_pos (hiff.mp rfl)] at hR
            wp_walk
            exact ⟨rfl, rfl, _, _, _, _, hrest, hvi', hwi', by omega, hR⟩
          | false =>
            rw [if_neg (fun q => absurd (hiff.mpr q) Bool.false_ne_true)] at hR
            have hri := rcLt_int A.in1 ⟨hp, g, d, tk, os⟩ a t c u prog w
            wp_walk using hri
            exact ⟨_, rfl, by simpa using hR⟩
    case fin =>
      rintro ⟨b1, b2⟩ s' ⟨hb', rfl, vs, ws, ns', ms', hz, hvi, hwi, hlen, hR⟩
      simp only at hb'
      subst hb'
      have hv : lexLt ns' ms' = decide (items.size < items2.size) := by
        cases hvi with
        | nil =>
          cases hwi with
          | nil =>
            simp only [List.length_nil] at hlen
            rw [lexLt_nil_nil]
            exact (decide_eq_false (by omega)).symm
          | cons c u hw =>
            simp only [List.length_nil, List.length_cons] at hlen
            rw [lexLt_nil_cons]
            exact (decide_eq_true (by omega)).symm
        | cons a t hv =>
          cases hwi with
          | nil =>
            simp only [List.length_nil, List.length_cons] at hlen
            rw [lexLt_cons_nil]
            exact (decide_eq_false (by omega)).symm
          | cons c u hw =>
            rw [List.zip_cons_cons] at hz
            cases hz
      rw [hv] at hR
      wp_walk
      exact ⟨_, rfl, by simpa [Builtin.Tuple.tupleCompareSizes] using hR⟩
    case h =>
      exact ⟨rfl, rfl, items.toList, items2.toList, ns, ms, rfl, hi, hj, by omega, h⟩
end

section
variable {prog : Program} {w : World} {A : Around} {E : Value → Shared → Prop} {s : Shared}

theorem lt_tupInts {l b : Addr} {items items2 : Array Value} {ns ms : List Int} {Q : Value → Shared → Prop} (hl : IsTup s.heap l items) (hb : IsTup s.heap b items2) (hi : IntsAre items.toList ns) (hj : IntsAre items2.toList ms)
    (hu : A.units < cLine) (h : Q (.bool (lexLt ns ms)) s) : wpAny (model prog w) A (compareOp .Lt (.ref l) (.ref b)) Q E s := by
  obtain ⟨⟨cls, dd, data, sl⟩, ho, hc, n, hd⟩ := id hl
  obtain ⟨⟨cls2, dd2, data2, sl2⟩, ho2, hc2, n2, hd2⟩ := id hb
  simp only at hc hd hc2 hd2
  subst hc hd hc2 hd2
  exact richCompare_meets_room (op := .Lt) ⟨_, ho, rfl⟩ ⟨_, ho2, rfl⟩ PySem.F.slot_tuple_lt PySem.F.entry_tuple_lt (PySem.F.args_tuple_lt_2 _ _) (tuple_lt_ints l b items items2 n n2 dd dd2 sl sl2 ns ms hi hj)
    ⟨ho, ho2, show Value.bool (lexLt ns ms) ≠ Value.notImplemented ∧ Q (.bool (lexLt ns ms)) s from ⟨(fun x => nomatch x), h⟩⟩ hu

/-- t + u, t not empty -/
theorem cat_tup {t b : Addr} {vs ws : List Value} {Q : Value → Shared → Prop} (ht : IsTup s.heap t vs.toArray) (hb : IsTup s.heap b ws.toArray) (hv : vs ≠ [])
    (h1 : ws = [] → Q (.ref t) s) (h2 : ws ≠ [] → Q (.ref s.heap.objs.size) { s with heap := s.heap.push { cls := .type "tuple", data := .seq (vs ++ ws).toArray } })
    (hsz : vs.length + ws.length ≤ sizeLine) : wpAny (model prog w) A (binaryOp .Add (.ref t) (.ref b)) Q E s := by
  obtain ⟨⟨cls, dd, data, sl⟩, ho, hc, n, hd⟩ := id ht
  obtain ⟨⟨cls2, dd2, data2, sl2⟩, ho2, hc2, n2, hd2⟩ := id hb
  simp only at hc hd hc2 hd2
  subst hc hd hc2 hd2
  have e : vs.toArray ++ ws.toArray = (vs ++ ws).toArray := by simp
  by_cases hw : ws = []
  · exact concat_meets ⟨_, ho, rfl⟩ ⟨_, ho2, rfl⟩ noFill_tuple_add seq_tuple_add PySem.F.slot_tuple_add PySem.F.entry_tuple_add (PySem.F.args_tuple_add_2 _ _)
      (tuple_addW1 t b vs.toArray ws.toArray n n2 dd dd2 sl sl2 (by simpa using hv) (by simp [hw])) ⟨ho, ho2, h1 hw⟩
  · refine concat_meets ⟨_, ho, rfl⟩ ⟨_, ho2, rfl⟩ noFill_tuple_add seq_tuple_add PySem.F.slot_tuple_add PySem.F.entry_tuple_add (PySem.F.args_tuple_add_2 _ _)
      (tuple_addW2 t b vs.toArray ws.toArray n n2 dd dd2 sl sl2 (by simpa using hv) (by simpa using hw) (by rw [List.size_toArray, List.size_toArray]; exact hsz)) ⟨ho, ho2, ?_⟩
    rw [e]
    exact h2 hw

/-! ### t[a:b], not the whole -/
/-- a slice's bound as a place among n (d where it is left out) -/
def sIx (n d : Nat) : Option Int → Nat
  | none => d
  | some v => if v < 0 then (v + (n : Int)).toNat else min v.toNat n
theorem sIx_none (n d : Nat) : sIx n d none = d := rfl
theorem sIx_nat (n d k : Nat) : sIx n d (some (k : Int)) = min k n := by
  show (if (k : Int) < 0 then ((k : Int) + (n : Int)).toNat else min (k : Int).toNat n) = min k n
  rw [if_neg (by omega), Int.toNat_natCast]
theorem sIx_le (n d : Nat) (hd : d ≤ n) (o : Option Int) : sIx n d o ≤ n := by
  cases o with
  | none => exact hd
  | some v =>
    show (if v < 0 then (v + (n : Int)).toNat else min v.toNat n) ≤ n
    by_cases hv : v < 0
    · rw [if_pos hv]; omega
    · rw [if_neg hv]; exact Nat.min_le_right _ _
theorem clip_eq (v : Int) (n d : Nat) : (if v < 0 then max (v + (n : Int)) 0 else min v (n : Int)) = ((sIx n d (some v) : Nat) : Int) := by
  show (if v < 0 then max (v + (n : Int)) 0 else min v (n : Int)) = (((if v < 0 then (v + (n : Int)).toNat else min v.toNat n) : Nat) : Int)
  by_cases hv : v < 0
  · simp only [if_pos hv]; omega
  · simp only [if_neg hv]; omega
theorem adjust_gen (lo hi : Option Int) (n : Nat) : Builtin.Slice.sliceAdjust lo hi 1 (n : Int) = (((sIx n 0 lo : Nat) : Int), ((sIx n n hi : Nat) : Int)) := by
  have h1 : ¬ ((1 : Int) < 0) := by omega
  unfold Builtin.Slice.sliceAdjust
  simp only [h1, if_false]
  refine Prod.ext ?_ ?_
  · cases lo with
    | none => rfl
    | some v => exact clip_eq v n 0
  · cases hi with
    | none => rfl
    | some v => exact clip_eq v n n
theorem places_gen (i j : Nat) : Builtin.Slice.slicePlaces (i : Int) (j : Int) 1 = j - i := by
  unfold Builtin.Slice.slicePlaces
  have h1 : (1 : Int) > 0 := by omega
  simp only [h1, if_true, Int.ediv_one]
  split <;> omega
theorem slicePart_ {v : Value} {o : Option Int} {Q : Option Int → Shared → Prop} (p : IsPart v o) (h : Q o s) : wpAny (model prog w) A (Builtin.Slice.slicePartIndex v) Q E s := by
  cases p with
  | none => exact slicePart_none h
  | int i t => exact slicePart_int h
theorem sliceApplied_gen {sl : Addr} {vl vu : Value} {lo hi : Option Int} {n : Nat} {Q : Int × Int × Nat → Shared → Prop} (hs : s.heap.IsSliceOf sl vl vu .none) (pl : IsPart vl lo) (pu : IsPart vu hi)
    (h : Q (((sIx n 0 lo : Nat) : Int), 1, sIx n n hi - sIx n 0 lo) s) : wpAny (model prog w) A (Builtin.Slice.sliceApplied (.ref sl) (pure (n : Int))) Q E s := by
  obtain ⟨os, hos, hcs, hds⟩ := id hs
  unfold Builtin.Slice.sliceApplied Builtin.Slice.sliceFields
  refine wpAny_bind (wpAny_bind (wpAny_field hos hds (x := vl) rfl (wpAny_bind (wpAny_field hos hds (x := vu) rfl (wpAny_bind (wpAny_field hos hds (x := .none) rfl (wpAny_pure ?_)))))))
  refine wpAny_bind (slicePart_none ?_)
  show wpAny _ _ (if ((1 : Int) == 0) = true then _ else _) _ _ s
  rw [if_neg (by decide)]
  refine wpAny_bind (slicePart_ pl (wpAny_bind (slicePart_ pu (wpAny_bind (wpAny_pure ?_)))))
  show wpAny _ _ (match Builtin.Slice.sliceAdjust lo hi 1 (n : Int) with | (lo, hi) => pure (lo, (1 : Int), Builtin.Slice.slicePlaces lo hi 1)) _ _ s
  rw [adjust_gen lo hi n]
  show wpAny _ _ (pure (((sIx n 0 lo : Nat) : Int), (1 : Int), Builtin.Slice.slicePlaces ((sIx n 0 lo : Nat) : Int) ((sIx n n hi : Nat) : Int) 1)) _ _ s
  rw [places_gen]
  exact wpAny_pure h
theorem pick_gen (xs : Array Value) (i k : Nat) : ((List.range k).filterMap fun (m : Nat) => xs[((i : Int) + (m : Int) * 1).toNat]?).toArray = ((xs.toList.drop i).take k).toArray := by
  have e : (fun (m : Nat) => xs[((i : Int) + (m : Int) * 1).toNat]?) = fun m => xs[i + m]? := by
    funext m
    have : ((i : Int) + (m : Int) * 1).toNat = i + m := by omega
    rw [this]
  rw [e]
  have := pick_run xs i k
  rw [List.filterMap_map] at this
  have e2 : ((fun x => xs[x]?) ∘ fun x => i + x) = fun m => xs[i + m]? := rfl
  rw [e2] at this
  rw [this]

theorem getItem_tuple_cut {t sl : Addr} {items : Array Value} {vl vu : Value} {lo hi : Option Int} {Q : Value → Shared → Prop} (ht : IsTup s.heap t items) (hs : s.heap.IsSliceOf sl vl vu .none) (pl : IsPart vl lo) (pu : IsPart vu hi)
    (hw : ¬ (sIx items.size 0 lo = 0 ∧ sIx items.size items.size hi = items.size))
    (h : Q (.ref s.heap.objs.size) { s with heap := s.heap.push { cls := .type "tuple", data := .seq ((items.toList.drop (sIx items.size 0 lo)).take (sIx items.size items.size hi - sIx items.size 0 lo)).toArray } })
    (hsz : items.size ≤ sizeLine) : wpAny (model prog w) A (getItem (.ref t) (.ref sl)) Q E s := by
  have htake : sizeOk (.seq ((items.toList.drop (sIx items.size 0 lo)).take (sIx items.size items.size hi - sIx items.size 0 lo)).toArray) := by
    show ((items.toList.drop (sIx items.size 0 lo)).take (sIx items.size items.size hi - sIx items.size 0 lo)).toArray.size ≤ sizeLine
    rw [List.size_toArray, List.length_take, List.length_drop, Array.length_toList]
    omega
  have hj : sIx items.size items.size hi ≤ items.size := sIx_le _ _ (Nat.le_refl _) hi
  obtain ⟨os, hos, hcs, hds⟩ := id hs
  have hTs : s.TypeIs (.ref sl) "slice" := ⟨os, hos, hcs⟩
  unfold getItem
  try with_reducible refine wpAny_holding ?_
  first | refine wpAny_bind (wpAny_pure ?_) | skip
  refine wpAny_bind (wpAny_sequenceKey ht.typeIs (by decide) ?_)
  refine wpAny_bind (wpAny_callSpecial?_slot (name := Str.ofString "__getitem__") ht.typeIs PyProof.Rows.slot_tuple_getitem
    (wpAny_call_entry PyProof.Rows.slot_tuple_getitem ht.typeIs entry_tuple_getitem ?_ (args_tuple_getitem _ _)))
  show wpAny _ _ (Builtin.Tuple.tupleItemsOf (.ref t) >>= _) _ _ s
  refine wpAny_bind (tupleItemsOf_ ht ?_)
  refine wpAny_bind (wpAny_typeOf hTs ?_)
  rw [if_pos (by decide)]
  refine wpAny_bind (sliceApplied_gen hs pl pu ?_)
  have hno : ¬ ((((sIx items.size 0 lo : Nat) : Int) == 0 && (1 : Int) == 1 && (sIx items.size items.size hi - sIx items.size 0 lo) == items.size) = true) := by
    intro q
    rw [Bool.and_eq_true, Bool.and_eq_true] at q
    have q1 : ((sIx items.size 0 lo : Nat) : Int) = 0 := eq_of_beq q.1.1
    have q2 : sIx items.size items.size hi - sIx items.size 0 lo = items.size := eq_of_beq q.2
    exact hw ⟨by omega, by omega⟩
  show wpAny _ _ (if (((sIx items.size 0 lo : Nat) : Int) == 0 && (1 : Int) == 1 && (sIx items.size items.size hi - sIx items.size 0 lo) == items.size) = true then _ else _) _ _ s
  rw [if_neg hno, pick_gen]
  first
    | exact wpAny_bind (m := Builtin.Tuple.tupleExact _) (wpAny_newObj_type (wpAny_pure ⟨_, rfl, wpAny_pure h⟩) htake)
    | exact wpAny_bind (m := Builtin.Tuple.tupleExact _) (wpAny_newObj_type (wpAny_bind (wpAny_pure (wpAny_pure ⟨_, rfl, wpAny_pure h⟩))) htake)
    | exact wpAny_bind (wpAny_bind (m := Builtin.Tuple.tupleExact _) (wpAny_newObj_type (wpAny_pure (wpAny_pure ⟨_, rfl, wpAny_pure h⟩)) htake))
    | exact wpAny_bind (wpAny_bind (m := Builtin.Tuple.tupleExact _) (wpAny_newObj_type (wpAny_pure ⟨_, rfl, wpAny_pure h⟩) htake))
end
end HT

namespace L2
open PySem PySem.Spec PyProof.Rows

/-! ### the parts of a slice -/
abbrev TO := St → Hp → (Option Int → Hp → Prop) → Prop
/-- a slice's part (left out, or an int) -/
def PO (X : Cx) (e : Option Expr) (t : TO) : Prop :=
  ∀ (pins : List (Addr × Obj)) (s : Shared) (σ : St) (H : Hp) (Q : Option Int → Hp → Prop), Inv X pins σ H s → t σ H Q →
    wpAny (model X.prog X.w) X.A (evalPart e X.env) (fun u s' => ∃ o H', Inv X pins σ H' s' ∧ IsPart u o ∧ Q o H') X.xe s
def tNoPart : TO := fun _ H Q => Q none H
def tPart (t : TE) : TO := fun σ H Q => t σ H fun x H1 => ∃ i, x = .int i ∧ Q (some i) H1

theorem intsAre_of {ns : List Int} : ∀ {us : List Value}, Vals (ns.map V.int) us → IntsAre us ns := by
  induction ns with
  | nil => intro us r; rw [List.map_nil] at r; cases r; exact .nil
  | cons n ns ih =>
    intro us r
    rw [List.map_cons] at r
    cases r with
    | cons r1 r2 =>
      obtain ⟨t, e⟩ := r1
      subst e
      exact .cons n t (ih r2)

section
variable {X : Cx} {e : Expr} {te : TE} {lo hi : Option Expr} {tl th : TO} {pos p2 : Pos}

theorem po_none : PO X none tNoPart := by
  intro pins s σ H Q I h
  rw [evalPart_none]
  exact wpAny_pure ⟨none, H, I, .none, h⟩
theorem po_some (h : PE X e te) : PO X (some e) (tPart te) := by
  intro pins s σ H Q I hw
  rw [evalPart_some]
  refine thn (h pins s σ H _ I hw) fun u s1 ⟨x, H1, I1, r1, q1⟩ => ?_
  obtain ⟨i, rfl, q⟩ := q1
  obtain ⟨t, rfl⟩ := r1
  exact ⟨some i, H1, I1, .int i t, q⟩

/-- what a slice of a value is, by values: the slice object stands at sl -/
def SlR (X : Cx) (r : V → Option Int → Option Int → Hp → VK → Prop) : Prop :=
  ∀ (pins : List (Addr × Obj)) (s : Shared) (σ : St) (H : Hp) (x : V) (v vl vu : Value) (lo hi : Option Int) (sl : Addr) (Q : VK), Inv X pins σ H s → RelV x v → s.heap.IsSliceOf sl vl vu .none → IsPart vl lo → IsPart vu hi → r x lo hi H Q →
    ∃ T id, typeLookup (.type T) "__getitem__" = pure (some (.builtin id)) ∧ s.TypeIs v T ∧ wpAny (model X.prog X.w) X.A (getItem v (.ref sl)) (EP X pins σ Q) X.xe s
theorem SlR.or {r r' : V → Option Int → Option Int → Hp → VK → Prop} (h : SlR X r) (h' : SlR X r') : SlR X (fun x lo hi H Q => r x lo hi H Q ∨ r' x lo hi H Q) := by
  intro pins s σ H x v vl vu lo hi sl Q I rx hs pl pu q
  rcases q with q | q
  · exact h pins s σ H x v vl vu lo hi sl Q I rx hs pl pu q
  · exact h' pins s σ H x v vl vu lo hi sl Q I rx hs pl pu q
def tSl (r : V → Option Int → Option Int → Hp → VK → Prop) (te : TE) (tl th : TO) : TE := fun σ H Q => te σ H fun x H1 => tl σ H1 fun l H2 => th σ H2 fun u H3 => r x l u H3 Q
/-- a[lo:hi], any a -/
theorem pe_slice {r : V → Option Int → Option Int → Hp → VK → Prop} (hr : SlR X r) (he : PE X e te) (hl : PO X lo tl) (hu : PO X hi th) : PE X (.Subscript e (.Slice lo hi none p2) pos) (tSl r te tl th) := by
  intro pins s σ H Q I h
  refine Subscript_ (thn (he pins s σ H _ I h) fun v s1 ⟨x, H1, I1, r1, q1⟩ => ?_)
  refine wpAny_Slice (thn (hl pins s1 σ H1 _ I1 q1) fun vl s2 ⟨l, H2, I2, pl, q2⟩ => thn (hu pins s2 σ H2 _ I2 q2) fun vu s3 ⟨u, H3, I3, pu, q3⟩ => ?_)
  rw [evalPart_none]
  refine wpAny_pure ?_
  have I4 : Inv X pins σ H3 { s3 with heap := s3.heap.push { cls := .type "slice", data := .fields #[vl, vu, .none] } } := I3.kept (t' := s3.toks) fun b ob q => Heap.get?_push_of_some _ q
  obtain ⟨T, id, hT, ht, hg⟩ := hr pins { s3 with heap := s3.heap.push { cls := .type "slice", data := .fields #[vl, vu, .none] } } σ H3 x v vl vu l u s3.heap.objs.size Q I4 r1 (Heap.IsSliceOf.new ..) pl pu q3
  show wpAny (model X.prog X.w) X.A (subscriptTail e (.Slice lo hi none p2) v (.ref s3.heap.objs.size)) (EP X pins σ Q) X.xe { s3 with heap := s3.heap.push { cls := .type "slice", data := .fields #[vl, vu, .none] } }
  exact tail_any (ops := [.ref s3.heap.objs.size, v]) ht hT hg (by with_unfolding_all rfl)

/-- the items of xs[lo:hi] -/
def cutV (xs : List V) (lo hi : Option Int) : List V := (xs.drop (HT.sIx xs.length 0 lo)).take (HT.sIx xs.length xs.length hi - HT.sIx xs.length 0 lo)
theorem cutV_length (xs : List V) (lo hi : Option Int) : (cutV xs lo hi).length ≤ xs.length := by
  unfold cutV
  rw [List.length_take, List.length_drop]
  omega
/-- t[lo:hi], not the whole of it (the whole would be t itself) -/
def rSlT (K : PySem.W.Frag) : V → Option Int → Option Int → Hp → VK → Prop := fun x lo hi H Q => ∃ a xs, x = .ref a ∧ SqT K H a xs ∧
  ¬ (HT.sIx xs.length 0 lo = 0 ∧ HT.sIx xs.length xs.length hi = xs.length) ∧ ∀ p, H p = none → Q (.ref p) (upd H p (.tup (cutV xs lo hi)))
theorem sl_tup : SlR X (rSlT X.K) := by
  intro pins s σ H x v vl vu lo hi sl Q I rx hs pl pu h
  obtain ⟨a, xs, rfl, hx, hw, q⟩ := h
  cases rx
  obtain ⟨its, r, ht, hz⟩ := I.tuple hx
  have hlen : its.toArray.size = xs.length := by rw [List.size_toArray]; exact r.length.symm
  refine ⟨"tuple", _, PyProof.Rows.slot_tuple_getitem.lookup, ht.typeIs, ?_⟩
  refine HT.getItem_tuple_cut ht hs pl pu (by rw [hlen]; exact hw) ?_ (by rw [hlen]; exact hz)
  rw [hlen]
  refine ⟨.ref s.heap.objs.size, _, I.laid (t' := s.toks) (o := .tup (cutV xs lo hi)) (fun b ob q => Heap.get?_push_of_some _ q) (Nat.le_refl _) ?_, rfl, q _ (I.hok.fresh (Nat.le_refl _))⟩
  exact ⟨Nat.le_trans (cutV_length xs lo hi) hz, _, (r.drop (HT.sIx xs.length 0 lo)).take (HT.sIx xs.length xs.length hi - HT.sIx xs.length 0 lo), IsTup.new _ _⟩

/-! ### t < u, t + u -/
def rLtT (K : PySem.W.Frag) : R2 := fun x y H Q => ∃ a b ns ms, x = .ref a ∧ y = .ref b ∧ SqT K H a (ns.map V.int) ∧ SqT K H b (ms.map V.int) ∧ Q (.bl (HT.lexLt ns ms)) H
theorem op_ltT (hu : X.A.units < cLine) : OpR X (compareOp .Lt) (rLtT X.K) := by
  intro pins s σ H x y v u Q I rx ry h
  obtain ⟨a, b, ns, ms, rfl, rfl, ha, hb, q⟩ := h
  cases rx
  cases ry
  obtain ⟨its, r1, p1, _⟩ := I.tuple ha
  obtain ⟨its2, r2, p2, _⟩ := I.tuple hb
  have i1 : IntsAre its.toArray.toList ns := intsAre_of r1
  have i2 : IntsAre its2.toArray.toList ms := intsAre_of r2
  exact HT.lt_tupInts p1 p2 i1 i2 hu ⟨.bl (HT.lexLt ns ms), H, I, rfl, q⟩
/-- t + u, t not empty: u empty gives t itself -/
def rCatT (K : PySem.W.Frag) : R2 := fun x y H Q => ∃ a b xs ys, x = .ref a ∧ y = .ref b ∧ SqT K H a xs ∧ SqT K H b ys ∧ xs ≠ [] ∧ xs.length + ys.length ≤ sizeLine ∧
  (ys = [] → Q (.ref a) H) ∧ (ys ≠ [] → ∀ p, H p = none → Q (.ref p) (upd H p (.tup (xs ++ ys))))
theorem Vals.nil_iff {xs : List V} {us : List Value} (r : Vals xs us) : us = [] ↔ xs = [] := by
  cases r with
  | nil => simp
  | cons _ _ => simp
theorem op_catT : OpR X (binaryOp .Add) (rCatT X.K) := by
  intro pins s σ H x y v u Q I rx ry h
  obtain ⟨a, b, xs, ys, rfl, rfl, ha, hb, hx, hz, q1, q2⟩ := h
  cases rx
  cases ry
  obtain ⟨its, r1, p1, _⟩ := I.tuple ha
  obtain ⟨its2, r2, p2, _⟩ := I.tuple hb
  refine HT.cat_tup p1 p2 (fun z => hx (r1.nil_iff.mp z)) (fun z => ⟨.ref a, H, I, rfl, q1 (r2.nil_iff.mp z)⟩) (fun z => ?_) (by rw [← r1.length, ← r2.length]; exact hz)
  refine ⟨.ref s.heap.objs.size, _, I.laid (t' := s.toks) (o := .tup (xs ++ ys)) (fun b ob q => Heap.get?_push_of_some _ q) (Nat.le_refl _) ?_, rfl, q2 (fun w => z (r2.nil_iff.mpr w)) _ (I.hok.fresh (Nat.le_refl _))⟩
  exact ⟨by rw [List.length_append]; exact hz, _, r1.append r2, IsTup.new _ _⟩
/-- tuple(t) -/
theorem call_tupleT : CallR X (.type "tuple") (fun xs H Q => ∃ a ys, xs = [.ref a] ∧ SqT X.K H a ys ∧ Q (.ref a) H) := by
  intro pins s σ H xs us Q I r h
  obtain ⟨a, ys, rfl, ha, q⟩ := h
  obtain ⟨u, rfl, ru⟩ := vals1 r
  cases ru
  obtain ⟨its, _, p1, _⟩ := I.tuple ha
  exact call_tuple_same (items := its.toArray) p1 ⟨.ref a, H, I, rfl, q⟩
end
end L2

namespace L2
open PySem PySem.Spec PyProof.Rows

/-! ### places -/
/-- the place that an index of any sign means -/
def ixN (n : Nat) (i : Int) : Option Nat := if 0 ≤ i then (if i < n then some i.toNat else none) else if -(n : Int) ≤ i then some (i + n).toNat else none
def atI {α : Type} (xs : List α) (i : Int) : Option α := (ixN xs.length i).bind fun j => xs[j]?
theorem ixN_seq {n : Nat} {i : Int} {j : Nat} (h : ixN n i = some j) : seqIndex? i n = some j ∧ j < n ∧ -(n : Int) ≤ i ∧ i < n := by
  unfold ixN at h
  by_cases h0 : 0 ≤ i
  · rw [if_pos h0] at h
    by_cases h1 : i < n
    · rw [if_pos h1] at h
      have e : i.toNat = j := Option.some.inj h
      exact ⟨by rw [seqIndex_of h0 h1, e], by omega, by omega, h1⟩
    · rw [if_neg h1] at h; cases h
  · rw [if_neg h0] at h
    by_cases h1 : -(n : Int) ≤ i
    · rw [if_pos h1] at h
      have e : (i + n).toNat = j := Option.some.inj h
      exact ⟨by rw [seqIndex_neg (by omega) h1, e], by omega, h1, by omega⟩
    · rw [if_neg h1] at h; cases h
theorem atI_get {α : Type} {xs : List α} {i : Int} {v : α} (h : atI xs i = some v) : ∃ j, seqIndex? i xs.length = some j ∧ xs[j]? = some v ∧ j < xs.length ∧ -(xs.length : Int) ≤ i ∧ i < xs.length := by
  unfold atI at h
  cases e : ixN xs.length i with
  | none => rw [e] at h; cases h
  | some j =>
    rw [e] at h
    obtain ⟨h1, h2, h3, h4⟩ := ixN_seq e
    exact ⟨j, h1, h, h2, h3, h4⟩
theorem atI_nat {α : Type} {xs : List α} {j : Nat} {v : α} (h : xs[j]? = some v) : atI xs (j : Int) = some v := by
  have hj : j < xs.length := (List.getElem?_eq_some_iff.mp h).1
  have e : ixN xs.length (j : Int) = some j := by
    unfold ixN
    rw [if_pos (by omega), if_pos (by omega)]; simp
  unfold atI; rw [e]; exact h
theorem atI_last {α : Type} (xs : List α) (v : α) : atI (xs ++ [v]) (-1) = some v := by
  have hl : (xs ++ [v]).length = xs.length + 1 := by simp
  have e : ixN (xs ++ [v]).length (-1) = some xs.length := by
    unfold ixN
    rw [hl, if_neg (by decide), if_pos (by omega)]
    congr 1
    omega
  unfold atI
  rw [e]
  show (xs ++ [v])[xs.length]? = some v
  simp

/-! ### what may be subscripted -/
/-- what stands as an index of a plain subscript -/
def PlainIx (b : Expr) : Prop := ∀ o i, subscripted b false o i = operate [o, i] (getItem o i)
/-- a subscript by values -/
def IxR (X : Cx) (r : R2) : Prop :=
  ∀ (value slice : Expr) (pins : List (Addr × Obj)) (s : Shared) (σ : St) (H : Hp) (x y : V) (v u : Value) (Q : VK), Inv X pins σ H s → RelV x v → RelV y u → r x y H Q →
    subscripted slice false v u = operate [v, u] (getItem v u) → wpAny (model X.prog X.w) X.A (subscriptTail value slice v u) (EP X pins σ Q) X.xe s
/-- a call of a builtin's method by values: the receiver, the arguments -/
def MtR (X : Cx) (id : String) (r : V → List V → Hp → VK → Prop) : Prop :=
  ∀ (pins : List (Addr × Obj)) (s : Shared) (σ : St) (H : Hp) (x : V) (xs : List V) (v : Value) (us : List Value) (Q : VK), Inv X pins σ H s → RelV x v → Vals xs us → r x xs H Q →
    wpAny (model X.prog X.w) X.A (call (.builtin id) (v :: us)) (EP X pins σ Q) X.xe s
section
variable {X : Cx} {a b : Expr} {ta tb : TE} {pos : Pos}
theorem IxR.or {r r' : R2} (h : IxR X r) (h' : IxR X r') : IxR X (fun x y H Q => r x y H Q ∨ r' x y H Q) := by
  intro value slice pins s σ H x y v u Q I rx ry q hs
  rcases q with q | q
  · exact h value slice pins s σ H x y v u Q I rx ry q hs
  · exact h' value slice pins s σ H x y v u Q I rx ry q hs
theorem MtR.or {id : String} {r r' : V → List V → Hp → VK → Prop} (h : MtR X id r) (h' : MtR X id r') : MtR X id (fun x xs H Q => r x xs H Q ∨ r' x xs H Q) := by
  intro pins s σ H x xs v us Q I rx rs q
  rcases q with q | q
  · exact h pins s σ H x xs v us Q I rx rs q
  · exact h' pins s σ H x xs v us Q I rx rs q
/-- a[b] -/
theorem pe_ix {r : R2} (hr : IxR X r) (ha : PE X a ta) (hb : PE X b tb) (hs : PlainIx b) : PE X (.Subscript a b pos) (tOp r ta tb) := by
  intro pins s σ H Q I h
  exact Subscript_ (binT ha hb I h fun v u s2 x y H2 I2 rx ry q => hr a b pins s2 σ H2 x y v u Q I2 rx ry q (hs _ _))

def rIxL (K : PySem.W.Frag) : R2 := fun x y H Q => ∃ p xs i v, x = .ref p ∧ y = .int i ∧ SqL K H p xs ∧ atI xs i = some v ∧ Q v H
def rIxT (K : PySem.W.Frag) : R2 := fun x y H Q => ∃ p xs i v, x = .ref p ∧ y = .int i ∧ SqT K H p xs ∧ atI xs i = some v ∧ Q v H
def rIxS : R2 := fun x y H Q => ∃ z i c, x = .str z ∧ y = .int i ∧ z.length ≤ sizeLine ∧ atI z.cps.toList i = some c ∧ Q (.str ⟨#[c]⟩) H
theorem ix_list : IxR X (rIxL X.K) := by
  intro value slice pins s σ H x y v u Q I rx ry h hs
  obtain ⟨p, xs, i, z, rfl, rfl, hq, he, q⟩ := h
  cases rx
  obtain ⟨t, rfl⟩ := ry
  obtain ⟨its, r, pl, hz⟩ := I.list hq
  obtain ⟨j, h1, h2, h3, h4, h5⟩ := atI_get he
  obtain ⟨w, ew, rw'⟩ := r.get h2
  have hl := r.length
  have hn := line63
  have fin : EP X pins σ Q w s := ⟨z, H, I, rw', q⟩
  by_cases h0 : 0 ≤ i
  · have hj : i.toNat = j := by
      rw [seqIndex_of h0 h5] at h1
      exact Option.some.inj h1
    exact item_listR pl.isList h0 (by omega) (by rw [hj]; simpa using ew) fin hs
  · have hj : (i + (its.toArray.size : Int)).toNat = j := by
      rw [seqIndex_neg (by omega) h4] at h1
      rw [List.size_toArray, ← hl]
      exact Option.some.inj h1
    exact subscriptTail_builtinR (x := w) pl.isList.typeIs slot_list_getitem.lookup
      (wpAny_getItem_list_neg (Q := fun r s' => r = w ∧ EP X pins σ Q r s') pl.isList (by omega) (by rw [List.size_toArray] <;> omega) (by omega) (by rw [hj]; simpa using ew) ⟨rfl, fin⟩) hs
theorem ix_tup : IxR X (rIxT X.K) := by
  intro value slice pins s σ H x y v u Q I rx ry h hs
  obtain ⟨p, xs, i, z, rfl, rfl, hq, he, q⟩ := h
  cases rx
  obtain ⟨t, rfl⟩ := ry
  obtain ⟨its, r, pl, hz⟩ := I.tuple hq
  obtain ⟨j, h1, h2, h3, h4, h5⟩ := atI_get he
  obtain ⟨w, ew, rw'⟩ := r.get h2
  have hl := r.length
  have hn := line63
  have fin : EP X pins σ Q w s := ⟨z, H, I, rw', q⟩
  exact subscriptTail_builtinR (x := w) pl.typeIs slot_tuple_getitem.lookup
    (getItem_tuple (j := j) (Q := fun r s' => r = w ∧ EP X pins σ Q r s') pl (by omega) (by omega) (by rw [List.size_toArray, ← hl]; exact h1) (by simpa using ew) ⟨rfl, fin⟩) hs
theorem ix_str : IxR X rIxS := by
  intro value slice pins s σ H x y v u Q I rx ry h hs
  obtain ⟨z, i, c, rfl, rfl, hz, he, q⟩ := h
  obtain ⟨t, rfl⟩ := rx
  obtain ⟨t', rfl⟩ := ry
  obtain ⟨j, h1, h2, h3, h4, h5⟩ := atI_get he
  have hl : z.cps.toList.length = z.length := by simp [Str.length]
  rw [hl] at h1 h4 h5
  have hn := line63
  exact tail_any (typeIs_str s z t) slot_str_getitem.lookup (getItem_str (c := c) (by
    have e1 : decide (i < -(2 ^ 63 : Int)) = false := decide_eq_false (by omega)
    have e2 : decide (i ≥ 2 ^ 63) = false := decide_eq_false (by omega)
    rw [e1, e2, Bool.or_false]) (by rw [h1]; simpa using h2) ⟨.str ⟨#[c]⟩, H, I.tok _, ⟨_, rfl⟩, q⟩) hs
/-- list, tuple or str -/
def rIx (K : PySem.W.Frag) : R2 := fun x y H Q => rIxL K x y H Q ∨ rIxT K x y H Q ∨ rIxS x y H Q
theorem ix_seq : IxR X (rIx X.K) := ix_list.or (ix_tup.or ix_str)

/-! ### xs[i] = v, any sign -/
/-- the list's object behind a store -/
theorem mapSeq_set (its : List Value) (n j : Nat) (u : Value) : Obj.mapSeq (·.setIfInBounds j u) { cls := .type "list", data := .seq its.toArray n } = { cls := .type "list", data := .seq (its.set j u).toArray n } := by
  simp [Obj.mapSeq]
theorem Inv.lst {pins : List (Addr × Obj)} {σ : St} {H : Hp} {s : Shared} {p : Addr} {xs : List V} (I : Inv X pins σ H s) (h : H p = some (.lst xs)) :
    ∃ (its : List Value) (n : Nat), Vals xs its ∧ s.heap.get? p = some { cls := .type "list", data := .seq its.toArray n } ∧ xs.length ≤ sizeLine := by
  obtain ⟨z, its, n, r, e⟩ := I.hok p _ h
  exact ⟨its, n, r, e, z⟩
/-- the list at p is written by an update of its object -/
theorem Inv.lstUpd {pins : List (Addr × Obj)} {σ : St} {H : Hp} {s : Shared} {p : Addr} {xs ys : List V} {its its' : List Value} {n n' : Nat} {f : Obj → Obj} (I : Inv X pins σ H s) (h : H p = some (.lst xs))
    (ho : s.heap.get? p = some { cls := .type "list", data := .seq its.toArray n }) (hf : f { cls := .type "list", data := .seq its.toArray n } = { cls := .type "list", data := .seq its'.toArray n' }) (r : Vals ys its') (hz : ys.length ≤ sizeLine) (t : Nat) :
    Inv X pins σ (upd H p (.lst ys)) { s with heap := s.heap.update p f, toks := t } := by
  have e : (s.heap.update p f).get? p = some { cls := .type "list", data := .seq its'.toArray n' } := by
    rw [Heap.get?_update_self f ho (by rw [hf] <;> rfl), hf]
  refine I.write (x := p) (e := p) (by rw [h]; trivial) (.inl rfl) (fun b u hb q => (Heap.get?_update_other _ _ (Ne.symm hb)).trans q) ⟨_, e⟩ ?_
  exact ⟨hz, its', n', r, e⟩
def rSetL : V → V → V → Hp → (Hp → Prop) → Prop := fun o i v H Q => ∃ p xs k j, o = .ref p ∧ i = .int k ∧ H p = some (.lst xs) ∧ ixN xs.length k = some j ∧ Q (upd H p (.lst (xs.set j v)))
theorem set_list : PSet X rSetL := by
  intro pins s σ H o i v ov iv u Q I ro ri rv h
  obtain ⟨p, xs, k, j, rfl, rfl, hp, hj, q⟩ := h
  cases ro
  obtain ⟨t, rfl⟩ := ri
  obtain ⟨its, n, r, ho, hz⟩ := I.lst hp
  obtain ⟨h1, h2, h3, h4⟩ := ixN_seq hj
  have hl := r.length
  have hn := line63
  have I' : Inv X pins σ (upd H p (.lst (xs.set j v))) { s with heap := s.heap.update p (Obj.mapSeq (·.setIfInBounds j u)) } :=
    I.lstUpd hp ho (mapSeq_set its n j u) (r.set rv j) (by rw [List.length_set]; exact hz) s.toks
  by_cases h0 : 0 ≤ k
  · have hk : k.toNat = j := by
      rw [seqIndex_of h0 h4] at h1
      exact Option.some.inj h1
    exact PySem.W.ki_setAt ho h0 (by omega) (by rw [List.size_toArray, ← hl]; exact h4) (by rw [hk]; exact ⟨_, I', q⟩)
  · have hk : (k + (its.toArray.size : Int)).toNat = j := by
      rw [seqIndex_neg (by omega) h3] at h1
      rw [List.size_toArray, ← hl]
      exact Option.some.inj h1
    exact PySem.W.ki_setBack ho (by omega) (by rw [List.size_toArray, ← hl]; exact h3) (by omega) (by rw [hk]; exact ⟨_, I', q⟩)

/-! ### slices -/
theorem slice_bounds (lo hi : Option Int) (n : Nat) : (sliceBounds lo hi none n).1 = ((HT.sIx n 0 lo : Nat) : Int) ∧ (sliceBounds lo hi none n).2.1 = ((HT.sIx n n hi : Nat) : Int) ∧ (sliceBounds lo hi none n).2.2 = 1 := by
  refine ⟨?_, ?_, rfl⟩
  · cases lo with
    | none => simp [sliceBounds, HT.sIx]
    | some i =>
      simp only [sliceBounds, HT.sIx, Option.getD_none, show (1 : Int) > 0 by decide, if_true]
      by_cases h : i < 0
      · simp only [h, if_true] <;> omega
      · simp only [h, if_false] <;> omega
  · cases hi with
    | none => simp [sliceBounds, HT.sIx]
    | some i =>
      simp only [sliceBounds, HT.sIx, Option.getD_none, show (1 : Int) > 0 by decide, if_true]
      by_cases h : i < 0
      · simp only [h, if_true] <;> omega
      · simp only [h, if_false] <;> omega
theorem slicePick_cut (its : List Value) (lo hi : Option Int) : slicePick its.toArray lo hi none = ((its.drop (HT.sIx its.length 0 lo)).take (HT.sIx its.length its.length hi - HT.sIx its.length 0 lo)).toArray := by
  obtain ⟨h1, h2, h3⟩ := slice_bounds lo hi its.toArray.size
  unfold slicePick
  rw [h1, h2, h3]
  simp only [sliceRange_one, pick_run, List.size_toArray] <;> rfl
/-- xs[lo:hi] of a list: a new list -/
def rSlL (K : PySem.W.Frag) : V → Option Int → Option Int → Hp → VK → Prop := fun x lo hi H Q => ∃ a xs, x = .ref a ∧ SqL K H a xs ∧ ∀ p, H p = none → Q (.ref p) (upd H p (.lst (cutV xs lo hi)))
theorem sl_list : SlR X (rSlL X.K) := by
  intro pins s σ H x v vl vu lo hi sl Q I rx hs pl pu h
  obtain ⟨a, xs, rfl, hx, q⟩ := h
  cases rx
  obtain ⟨its, r, ht, hz⟩ := I.list hx
  have hlen := r.length
  refine ⟨"list", _, slot_list_getitem.lookup, ht.isList.typeIs, ?_⟩
  refine wpAny_getItem_list_slice ht.isList hs pl pu .none (by simp) ?_ (by rw [List.size_toArray] <;> omega)
  rw [slicePick_cut, ← hlen]
  refine ⟨.ref s.heap.objs.size, _, I.laid (t' := s.toks) (o := .lst (cutV xs lo hi)) (fun b ob q => Heap.get?_push_of_some _ q) (Nat.le_refl _) ?_, rfl, q _ (I.hok.fresh (Nat.le_refl _))⟩
  exact ⟨Nat.le_trans (cutV_length xs lo hi) hz, _, 0, (r.drop (HT.sIx xs.length 0 lo)).take (HT.sIx xs.length xs.length hi - HT.sIx xs.length 0 lo), Heap.get?_push_size _ rfl⟩

/-! ### in, not in: flat items -/
def flatV : V → Bool
  | .non => true
  | .bl _ => true
  | .int _ => true
  | .str _ => true
  | _ => false
/-- == of flat values -/
def eqV : V → V → Bool
  | .non, .non => true
  | .bl a, .bl b => a == b
  | .bl a, .int b => (if a then 1 else 0) == b
  | .int a, .bl b => a == (if b then 1 else 0)
  | .int a, .int b => a == b
  | .str a, .str b => a == b
  | _, _ => false
theorem eqAt_V {A : Around} {s : Shared} {y x : V} {u v : Value} (ry : RelV y u) (rx : RelV x v) (fy : flatV y = true) (fx : flatV x = true) : SeqAt.EqAt A s u v (eqV y x) := by
  cases y with
  | non =>
    cases ry
    cases x with
    | non => cases rx; exact SeqAt.EqAt.same _
    | bl b => cases rx; exact SeqAt.EqAt.none_bool b
    | int b => obtain ⟨t, rfl⟩ := rx; exact SeqAt.EqAt.none_int b t
    | str b => obtain ⟨t, rfl⟩ := rx; exact SeqAt.EqAt.none_str b t
    | _ => exact absurd (show false = true from fx) Bool.false_ne_true
  | bl a =>
    cases ry
    cases x with
    | non => cases rx; exact SeqAt.EqAt.bool_none a
    | bl b => cases rx; exact SeqAt.EqAt.bool_bool a b
    | int b => obtain ⟨t, rfl⟩ := rx; exact SeqAt.EqAt.bool_int a b t
    | str b => obtain ⟨t, rfl⟩ := rx; exact SeqAt.EqAt.bool_str a b t
    | _ => exact absurd (show false = true from fx) Bool.false_ne_true
  | int a =>
    obtain ⟨t', rfl⟩ := ry
    cases x with
    | non => cases rx; exact SeqAt.EqAt.int_none a t'
    | bl b => cases rx; exact SeqAt.EqAt.int_bool a t' b
    | int b => obtain ⟨t, rfl⟩ := rx; exact SeqAt.EqAt.int_int a t' b t
    | str b => obtain ⟨t, rfl⟩ := rx; exact SeqAt.EqAt.int_str a t' b t
    | _ => exact absurd (show false = true from fx) Bool.false_ne_true
  | str a =>
    obtain ⟨t', rfl⟩ := ry
    cases x with
    | non => cases rx; exact SeqAt.EqAt.str_none a t'
    | bl b => cases rx; exact SeqAt.EqAt.str_bool a t' b
    | int b => obtain ⟨t, rfl⟩ := rx; exact SeqAt.EqAt.str_int a t' b t
    | str b => obtain ⟨t, rfl⟩ := rx; exact SeqAt.EqAt.str_str a t' b t
    | _ => exact absurd (show false = true from fx) Bool.false_ne_true
  | _ => exact absurd (show false = true from fy) Bool.false_ne_true
/-- the items' answers, read off the values (a value's own answer does not lean on its token) -/
def eqU (x : V) (u : Value) : Bool := match u with
  | .none => eqV .non x
  | .bool b => eqV (.bl b) x
  | .int i _ => eqV (.int i) x
  | .str z _ => eqV (.str z) x
  | _ => false
theorem eqU_of {x y : V} {u : Value} (r : RelV y u) (f : flatV y = true) : eqU x u = eqV y x := by
  cases y with
  | non => cases r; rfl
  | bl b => cases r; rfl
  | int i => obtain ⟨t, rfl⟩ := r; rfl
  | str z => obtain ⟨t, rfl⟩ := r; rfl
  | _ => exact absurd (show false = true from f) Bool.false_ne_true
theorem any_eqU {x : V} : ∀ {xs : List V} {us : List Value}, Vals xs us → xs.all flatV = true → us.any (eqU x) = xs.any fun y => eqV y x
  | _, _, .nil, _ => rfl
  | y :: xs, u :: us, .cons r t, f => by
    rw [List.all_cons, Bool.and_eq_true] at f
    rw [List.any_cons, List.any_cons, eqU_of r f.1, any_eqU t f.2]
theorem mem_eqAt {A : Around} {s : Shared} {x : V} {v : Value} (rx : RelV x v) (fx : flatV x = true) : ∀ {xs : List V} {us : List Value}, Vals xs us → xs.all flatV = true → ∀ u ∈ us, SeqAt.EqAt A s u v (eqU x u)
  | _, _, .nil, _ => fun u hu => by cases hu
  | y :: xs, u :: us, .cons r t, f => fun u' hu => by
    rw [List.all_cons, Bool.and_eq_true] at f
    rcases List.mem_cons.mp hu with rfl | hu
    · rw [eqU_of r f.1]; exact eqAt_V r rx f.1 fx
    · exact mem_eqAt rx fx t f.2 u' hu
def inV (x : V) (xs : List V) : Bool := xs.any fun y => eqV y x
/-- x in a list or tuple of flat items -/
def rIn (K : PySem.W.Frag) (neg : Bool) : R2 := fun x y H Q => ∃ p xs, y = .ref p ∧ (SqL K H p xs ∨ SqT K H p xs) ∧ flatV x = true ∧ xs.all flatV = true ∧ Q (.bl (if neg then !inV x xs else inV x xs)) H
theorem op_in_seq : OpR X (compareOp .In) (rIn X.K false) := by
  intro pins s σ H x y v u Q I rx ry h
  obtain ⟨p, xs, rfl, hq, fx, fs, q⟩ := h
  cases ry
  rcases hq with hq | hq
  · obtain ⟨its, r, pl, hz⟩ := I.list hq
    refine SeqAt.in_listAt (eqU x) pl.isList (fun w hw => mem_eqAt rx fx r fs w (by simpa using hw)) ⟨.bl _, H, I, rfl, ?_⟩
    rw [show its.toArray.any (eqU x) = its.any (eqU x) by simp, any_eqU r fs]
    exact q
  · obtain ⟨its, r, pl, hz⟩ := I.tuple hq
    refine SeqAt.in_tupleAt (eqU x) pl (fun w hw => mem_eqAt rx fx r fs w (by simpa using hw)) ⟨.bl _, H, I, rfl, ?_⟩
    rw [show its.toArray.any (eqU x) = its.any (eqU x) by simp, any_eqU r fs]
    exact q
theorem op_notIn_seq : OpR X (compareOp .NotIn) (rIn X.K true) := by
  intro pins s σ H x y v u Q I rx ry h
  obtain ⟨p, xs, rfl, hq, fx, fs, q⟩ := h
  cases ry
  rcases hq with hq | hq
  · obtain ⟨its, r, pl, hz⟩ := I.list hq
    refine SeqAt.notIn_listAt (eqU x) pl.isList (fun w hw => mem_eqAt rx fx r fs w (by simpa using hw)) ⟨.bl _, H, I, rfl, ?_⟩
    rw [show its.toArray.any (eqU x) = its.any (eqU x) by simp, any_eqU r fs]
    exact q
  · obtain ⟨its, r, pl, hz⟩ := I.tuple hq
    refine SeqAt.notIn_tupleAt (eqU x) pl (fun w hw => mem_eqAt rx fx r fs w (by simpa using hw)) ⟨.bl _, H, I, rfl, ?_⟩
    rw [show its.toArray.any (eqU x) = its.any (eqU x) by simp, any_eqU r fs]
    exact q
theorem op_notIn_str : OpR X (compareOp .NotIn) (fun x y H Q => ∃ i j, x = .str i ∧ y = .str j ∧ Q (.bl (!(!(Builtin.Str.occurrences j i 0 j.length 1).isEmpty))) H) := by
  intro pins s σ H x y v u Q I rx ry h
  obtain ⟨i, j, rfl, rfl, q⟩ := h
  obtain ⟨t, rfl⟩ := rx
  obtain ⟨t', rfl⟩ := ry
  exact notIn_str ⟨.bl _, H, I, rfl, q⟩

/-! ### len, list(x), tuple(x) of any list or tuple that is read -/
theorem call_len_seq : CallR X (.builtin "len") (fun xs H Q => ∃ p ys, xs = [.ref p] ∧ (SqL X.K H p ys ∨ SqT X.K H p ys) ∧ Q (.int ys.length) H) := by
  intro pins s σ H xs us Q I r h
  obtain ⟨p, ys, rfl, hq, q⟩ := h
  obtain ⟨u, rfl, rx⟩ := vals1 r
  cases rx
  have hn := line63
  rcases hq with hq | hq
  · obtain ⟨its, r', pl, hz⟩ := I.list hq
    have hlen := r'.length
    exact Calls.call_len_list pl.isList (by simp only [List.size_toArray] <;> omega) ⟨.int ys.length, H, I.tok _, ⟨s.toks + 1, by rw [List.size_toArray, hlen]⟩, q⟩
  · obtain ⟨its, r', pl, hz⟩ := I.tuple hq
    have hlen := r'.length
    exact len_tuple pl (by simp only [List.size_toArray] <;> omega) ⟨.int ys.length, H, I.tok _, ⟨s.toks + 1, by rw [List.size_toArray, hlen]⟩, q⟩
theorem call_len_str : CallR X (.builtin "len") (fun xs H Q => ∃ z, xs = [.str z] ∧ z.length ≤ sizeLine ∧ Q (.int z.length) H) := by
  intro pins s σ H xs us Q I r h
  obtain ⟨z, rfl, hz, q⟩ := h
  obtain ⟨u, rfl, t, rfl⟩ := vals1 r
  have hn := line63
  exact len_str (by omega) ⟨.int z.length, H, I.tok _, ⟨_, rfl⟩, q⟩
theorem CallR.or {f : Value} {r r' : List V → Hp → VK → Prop} (h : CallR X f r) (h' : CallR X f r') : CallR X f (fun xs H Q => r xs H Q ∨ r' xs H Q) := by
  intro pins s σ H xs us Q I rs q
  rcases q with q | q
  · exact h pins s σ H xs us Q I rs q
  · exact h' pins s σ H xs us Q I rs q
theorem call_list_of : CallR X (.type "list") (fun xs H Q => ∃ p ys, xs = [.ref p] ∧ (SqL X.K H p ys ∨ SqT X.K H p ys) ∧ ∀ l, H l = none → Q (.ref l) (upd H l (.lst ys))) := by
  intro pins s σ H xs us Q I r h
  obtain ⟨p, ys, rfl, hq, q⟩ := h
  obtain ⟨u, rfl, rx⟩ := vals1 r
  cases rx
  have fin : ∀ (its : List Value), Vals ys its → ys.length ≤ sizeLine → ∀ (h' : Heap) (c' : Nat), (∀ b o', s.heap.get? b = some o' → h'.get? b = some o') →
      h'.get? s.heap.objs.size = some { cls := .type "list", dict := none, data := .seq its.toArray c', slots := #[] } → EP X pins σ Q (.ref s.heap.objs.size) { s with heap := h' } := fun its r' hz h' c' kp e =>
    ⟨.ref s.heap.objs.size, _, I.laid (t' := s.toks) kp (Nat.le_refl _) (show ObjOk X.prog X.w _ h' _ (.lst ys) from ⟨hz, its, c', r', e⟩), rfl, q _ (I.hok.fresh (Nat.le_refl _))⟩
  rcases hq with hq | hq
  · obtain ⟨its, r', pl, hz⟩ := I.list hq
    have hlen := r'.length
    obtain ⟨o, ho, hc, n, hd⟩ := pl.isList
    exact call_list_seq p (.inl rfl) ho hc hd (fun h' c' kp e => fin its r' hz h' c' kp e) (by simp only [List.size_toArray] <;> omega)
  · obtain ⟨its, r', pl, hz⟩ := I.tuple hq
    have hlen := r'.length
    obtain ⟨o, ho, hc, n, hd⟩ := pl
    exact call_list_seq p (.inr rfl) ho hc hd (fun h' c' kp e => fin its r' hz h' c' kp e) (by simp only [List.size_toArray] <;> omega)
theorem call_tuple_of : CallR X (.type "tuple") (fun xs H Q => ∃ p ys, xs = [.ref p] ∧ ((SqL X.K H p ys ∧ ∀ l, H l = none → Q (.ref l) (upd H l (.tup ys))) ∨ (SqT X.K H p ys ∧ Q (.ref p) H))) := by
  intro pins s σ H xs us Q I r h
  obtain ⟨p, ys, rfl, h⟩ := h
  obtain ⟨u, rfl, rx⟩ := vals1 r
  cases rx
  rcases h with ⟨hq, q⟩ | ⟨hq, q⟩
  · obtain ⟨its, r', pl, hz⟩ := I.list hq
    have hlen := r'.length
    refine call_tuple_list pl.isList (fun h' kp => ?_) (by simp only [List.size_toArray] <;> omega)
    have I1 : Inv X pins σ H { s with heap := h' } := I.kept (t' := s.toks) kp
    have I2 : Inv X pins σ (upd H h'.objs.size (.tup ys)) { s with heap := h'.push { cls := .type "tuple", data := .seq its.toArray } } :=
      I1.laid (t' := s.toks) (fun b o e => Heap.get?_push_of_some _ e) (Nat.le_refl _) (show ObjOk X.prog X.w _ _ _ (.tup ys) from ⟨hz, its, r', IsTup.new _ _⟩)
    exact ⟨.ref h'.objs.size, _, I2, rfl, q _ (I1.hok.fresh (Nat.le_refl _))⟩
  · obtain ⟨its, r', pl, hz⟩ := I.tuple hq
    exact call_tuple_same pl ⟨.ref p, H, I, rfl, q⟩

/-! ### the call of a builtin's method: o.m(..) -/
/-- the value is of that builtin type -/
def tyV (K : PySem.W.Frag) (T : String) (x : V) (H : Hp) : Prop := match x with
  | .str _ => T = "str"
  | .int _ => T = "int"
  | .ref p => (T = "list" ∧ ∃ xs, SqL K H p xs) ∨ (T = "tuple" ∧ ∃ o, K.lookup p = some o ∧ o.cls = .type "tuple" ∧ o.dict = none) ∨
      (T = "dict" ∧ ((∃ kvs, H p = some (.dK kvs)) ∨ ∃ kvs, H p = some (.dT kvs))) ∨ (T = "set" ∧ ∃ S n, H p = some (.set S n))
  | _ => False
theorem tyV_is {pins : List (Addr × Obj)} {σ : St} {H : Hp} {s : Shared} {T : String} {x : V} {v : Value} (I : Inv X pins σ H s) (r : RelV x v) (ty : tyV X.K T x H) :
    s.TypeIs v T ∧ ∀ a, v = .ref a → ∃ ob, s.heap.get? a = some ob ∧ ob.dict = none := by
  cases x with
  | str z =>
    obtain ⟨t, rfl⟩ := r
    cases (show T = "str" from ty)
    exact ⟨typeIs_str s z t, fun _ e => nomatch e⟩
  | int i =>
    obtain ⟨t, rfl⟩ := r
    cases (show T = "int" from ty)
    exact ⟨typeIs_int s i t, fun _ e => nomatch e⟩
  | ref p =>
    cases r
    rcases ty with ⟨rfl, xs, hq⟩ | ⟨rfl, o, hk, hc, hd⟩ | ⟨rfl, hk⟩ | ⟨rfl, S, n, hk⟩
    · obtain ⟨its, _, pl, _⟩ := I.list hq
      refine ⟨pl.isList.typeIs, fun a e => ?_⟩
      cases e
      obtain ⟨o, n, e, c, hd, _⟩ := pl
      exact ⟨o, e, hd⟩
    · refine ⟨⟨o, I.kIn p o hk, hc⟩, fun a e => ?_⟩
      cases e
      exact ⟨o, I.kIn _ o hk, hd⟩
    · have z : ∃ o, s.heap.get? p = some o ∧ o.ExactDict := by
        rcases hk with ⟨kvs, hk⟩ | ⟨kvs, hk⟩
        · obtain ⟨_, _, _, _, o, _, _, e, ex, _⟩ := I.hok p _ hk
          exact ⟨o, e, ex⟩
        · obtain ⟨_, _, _, _, o, _, _, e, ex, _⟩ := I.hok p _ hk
          exact ⟨o, e, ex⟩
      obtain ⟨o, e, ex⟩ := z
      refine ⟨⟨o, e, ex.1⟩, fun a e2 => ?_⟩
      cases e2
      exact ⟨o, e, ex.2.1⟩
    · obtain ⟨o, _, _, _, e, ex, _⟩ := I.hok p _ hk
      refine ⟨⟨o, e, ex.1⟩, fun a e2 => ?_⟩
      cases e2
      exact ⟨o, e, ex.2.1⟩
  | _ => exact False.elim ty
def tBM0 (K : PySem.W.Frag) (T : String) (r : V → List V → Hp → VK → Prop) (to : TE) : TE := fun σ H Q => to σ H fun x H1 => tyV K T x H1 ∧ r x [] H1 Q
def tBM (K : PySem.W.Frag) (T : String) (r : V → List V → Hp → VK → Prop) (to : TE) (t : TA) : TE := fun σ H Q => to σ H fun x H1 => tyV K T x H1 ∧ t σ H1 fun xs H2 => r x xs H2 Q
variable {o e : Expr} {es : List Expr} {to : TE} {t : TA} {name : Str} {apos cpos : Pos} {T id : String} {r : V → List V → Hp → VK → Prop}
theorem pe_bm0 (pa : PlainAttrs T) (slot : Slot T name id) (hty : typeOf (.builtin id) = pure (.type "method_descriptor")) (hm : MtR X id r) (ho : PE X o to)
    (hbase : attributeBase o name X.env (eval o X.env) = eval o X.env := by rfl) (hline : (apos.endLine == cpos.line) = true := by rfl) : PE X (.Call (.Attribute o name apos) [] [] cpos) (tBM0 X.K T r to) := by
  intro pins s σ H Q I h
  refine wpAny_Call_method0_late hbase hline (thn (ho pins s σ H _ I h) fun v s1 ⟨x, H1, I1, r1, ty, q1⟩ => ?_)
  obtain ⟨h1, h2⟩ := tyV_is I1 r1 ty
  exact ⟨T, id, pa, slot, hty, h1, h2, Calls.callWith_builtin rfl (PySem.evalArgs_none (hm pins s1 σ H1 x [] v [] Q I1 r1 .nil q1))⟩
theorem pe_bm (pa : PlainAttrs T) (slot : Slot T name id) (hty : typeOf (.builtin id) = pure (.type "method_descriptor")) (hm : MtR X id r) (ho : PE X o to) (ha : PA X (e :: es) t)
    (hbase : attributeBase o name X.env (eval o X.env) = eval o X.env := by rfl)
    (hfew : ((backTo cpos (starEach (e :: es) X.env)).all (fun x => !x.1) && (backToKw cpos (keywordEach [] X.env)).all (fun x => x.1.isSome)
      && decide ((e :: es).length + ([] : List Keyword).length + (if ([] : List Keyword).isEmpty then 0 else 1) < 30)) = true := by rfl)
    (hline : (apos.endLine == cpos.line) = true := by rfl) (hs : starEach (e :: es) X.env = (false, eval e X.env) :: starEach es X.env := by rfl) (hplain : (backTo cpos (starEach es X.env)).any (·.1) = false := by rfl) :
    PE X (.Call (.Attribute o name apos) (e :: es) [] cpos) (tBM X.K T r to t) := by
  intro pins s σ H Q I h
  refine wpAny_Call_method_late hbase hfew hline rfl (thn (ho pins s σ H _ I h) fun v s1 ⟨x, H1, I1, r1, ty, q1⟩ => ?_)
  obtain ⟨h1, h2⟩ := tyV_is I1 r1 ty
  refine ⟨T, id, pa, slot, hty, h1, h2, ?_⟩
  have hA := ha cpos pins s1 σ H1 _ I1 q1
  rw [hs] at hA ⊢
  refine Calls.callWith_builtin (by show (false || (backTo cpos (starEach es X.env)).any (·.1)) = false; rw [hplain] <;> rfl) (Calls.evalArgs_plain ?_)
  exact thn hA fun us s2 ⟨vs, H2, I2, r2, q2⟩ => hm pins s2 σ H2 x vs v us Q I2 r1 r2 q2
/- xs.append(e), list.index on a module's tuple .. are MtR facts of 06m -/
end
end L2

namespace L2
open PySem PySem.Spec PyProof.Rows

def MtM (X : Cx) (id : String) (r : V → List V → Hp → VK → Prop) : Prop :=
  ∀ (pins : List (Addr × Obj)) (s : Shared) (σ : St) (H : Hp) (x : V) (xs : List V) (v : Value) (us : List Value) (Q : VK), Inv X pins σ H s → RelV x v → Vals xs us → r x xs H Q →
    wpAny (model X.prog X.w) X.A (call (.builtin id) (v :: us)) (EP X pins σ Q) X.xe s

/-! ### lists of values -/
theorem Vals.one : ∀ {x : V} {us : List Value}, Vals [x] us → ∃ u, us = [u] ∧ RelV x u
  | _, _, .cons r .nil => ⟨_, rfl, r⟩
theorem Vals.two : ∀ {x y : V} {us : List Value}, Vals [x, y] us → ∃ u v, us = [u, v] ∧ RelV x u ∧ RelV y v
  | _, _, _, .cons r (.cons q .nil) => ⟨_, _, rfl, r, q⟩
theorem Vals.zero : ∀ {us : List Value}, Vals [] us → us = []
  | _, .nil => rfl
theorem Vals.dropLast {xs : List V} {us : List Value} (h : Vals xs us) : Vals xs.dropLast us.dropLast := by
  induction h with
  | nil => exact .nil
  | cons r t ih =>
    cases t with
    | nil => exact .nil
    | cons q t' => exact .cons r ih
theorem Vals.eraseIdx : ∀ {xs : List V} {us : List Value} (i : Nat), Vals xs us → Vals (xs.eraseIdx i) (us.eraseIdx i)
  | _, _, _, .nil => .nil
  | _, _, 0, .cons _ t => t
  | _, _, i + 1, .cons r t => .cons r (Vals.eraseIdx i t)
theorem Vals.reverse {xs : List V} {us : List Value} (h : Vals xs us) : Vals xs.reverse us.reverse := by
  induction h with
  | nil => exact .nil
  | cons r t ih => rw [List.reverse_cons, List.reverse_cons]; exact Vals.append ih (.cons r .nil)
theorem Vals.rep {xs : List V} {us : List Value} (h : Vals xs us) : ∀ k : Nat, Vals (List.replicate k xs).flatten (List.replicate k us).flatten
  | 0 => .nil
  | k + 1 => by
    rw [List.replicate_succ, List.replicate_succ, List.flatten_cons, List.flatten_cons]
    exact Vals.append h (Vals.rep h k)
theorem erase_last {α : Type} (l : List α) : l.eraseIdx (l.length - 1) = l.dropLast := by
  induction l with
  | nil => rfl
  | cons a r ih =>
    cases r with
    | nil => rfl
    | cons b r =>
      have e : (a :: b :: r).length - 1 = ((b :: r).length - 1) + 1 := by
        have h1 : (a :: b :: r).length = r.length + 2 := rfl
        have h2 : (b :: r).length = r.length + 1 := rfl
        omega
      rw [e, List.eraseIdx_cons_succ, ih]
      all_goals rfl
theorem len_erase {α : Type} : ∀ (l : List α) (i : Nat), (l.eraseIdx i).length ≤ l.length
  | [], _ => Nat.le_refl _
  | _ :: _, 0 => Nat.le_succ _
  | _ :: r, i + 1 => Nat.succ_le_succ (len_erase r i)
theorem foldl_rep (its : List Value) : ∀ (k : Nat) (acc : List Value),
    List.foldl (fun x1 x2 => x1 ++ x2) acc.toArray (List.replicate k its.toArray) = (acc ++ (List.replicate k its).flatten).toArray
  | 0, acc => by simp
  | k + 1, acc => by
    have e : acc.toArray ++ its.toArray = (acc ++ its).toArray := by simp
    have e2 : (acc ++ its) ++ (List.replicate k its).flatten = acc ++ (List.replicate (k + 1) its).flatten := by
      rw [List.replicate_succ, List.flatten_cons, List.append_assoc]
    rw [← e2, ← foldl_rep its k (acc ++ its), ← e, List.replicate_succ, List.foldl_cons]

section
variable {X : Cx} {pins : List (Addr × Obj)} {σ : St} {H : Hp} {s : Shared} {l b : Addr} {xs ys zs : List V}

/-! ### the two steps: a tracked list is rewritten, a new list is laid -/
theorem Inv.lset {its its' : List Value} {n : Nat} {f : Array Value → Array Value} {t' : Nat} (I : Inv X pins σ H s) (hH : H l = some (.lst xs))
    (e : s.heap.get? l = some { cls := .type "list", data := .seq its.toArray n }) (hf : f its.toArray = its'.toArray) (hv : Vals ys its') (hz : ys.length ≤ sizeLine) :
    Inv X pins σ (upd H l (.lst ys)) { s with heap := s.heap.update l (Obj.mapSeq f), toks := t' } := by
  have q := PySem.IsL.update e f
  rw [hf] at q
  refine I.write (x := l) (e := l) (by rw [hH]; exact trivial) (.inl rfl) (fun b' u hb hu => (Heap.get?_update_other s.heap (Obj.mapSeq f) (Ne.symm hb)).trans hu) ⟨_, q⟩ ?_
  exact ⟨hz, its', _, hv, q⟩
theorem Inv.lnew {its : List Value} {t' : Nat} (I : Inv X pins σ H s) (hv : Vals ys its) (hz : ys.length ≤ sizeLine) :
    Inv X pins σ (upd H s.heap.objs.size (.lst ys)) { s with heap := s.heap.push { cls := .type "list", data := .seq its.toArray }, toks := t' } :=
  I.laid (fun _ _ q => Heap.get?_push_of_some _ q) (Nat.le_refl _) ⟨hz, its, 0, hv, Heap.get?_push_size _ rfl⟩
theorem Inv.fresh (I : Inv X pins σ H s) : H s.heap.objs.size = none := I.hok.fresh (Nat.le_refl _)
theorem Inv.lstM (I : Inv X pins σ H s) (hH : H l = some (.lst xs)) : xs.length ≤ sizeLine ∧ ∃ (its : List Value) (n : Nat), Vals xs its ∧ xs.length = its.length ∧ s.heap.get? l = some { cls := .type "list", data := .seq its.toArray n } := by
  obtain ⟨z, its, n, r, e⟩ := I.hok l _ hH
  exact ⟨z, its, n, r, r.length, e⟩

theorem notLongL {n : Nat} (h : n ≤ sizeLine) : Builtin.List.listTooLong n = false := by
  unfold Builtin.List.listTooLong
  exact decide_eq_false (by omega)
end

section
variable {X : Cx}

/-! ### methods -/
def rAppend : V → List V → Hp → VK → Prop := fun x vs H Q => ∃ l xs y, x = .ref l ∧ vs = [y] ∧ H l = some (.lst xs) ∧ xs.length < sizeLine ∧ Q .non (upd H l (.lst (xs ++ [y])))
theorem mt_append : MtM X "list.append" rAppend := by
  intro pins s σ H x vs v us Q I rx rv h
  obtain ⟨l, xs, y, rfl, rfl, hH, hz, q⟩ := h
  cases rx
  obtain ⟨u, rfl, ru⟩ := rv.one
  obtain ⟨z, its, n, r, hl, e⟩ := I.lstM hH
  refine call_meets F.slot_list_append ⟨_, e, rfl⟩ F.entry_list_append (F.args_list_append_2 _ _) (PySem.list_append l its.toArray n u (by rw [List.size_toArray]; omega)) ⟨e, ?_⟩
  refine ⟨.non, _, I.lset (its' := its ++ [u]) hH e (by simp) (r.append (.cons ru .nil)) ?_, rfl, q⟩
  rw [List.length_append, List.length_singleton]
  omega

def rExtend : V → List V → Hp → VK → Prop := fun x vs H Q => ∃ l b xs zs, x = .ref l ∧ vs = [.ref b] ∧ H l = some (.lst xs) ∧ H b = some (.lst zs) ∧ xs.length + zs.length ≤ sizeLine ∧ Q .non (upd H l (.lst (xs ++ zs)))
theorem mt_extend : MtM X "list.extend" rExtend := by
  intro pins s σ H x vs v us Q I rx rv h
  obtain ⟨l, b, xs, zs, rfl, rfl, hH, hB, hz, q⟩ := h
  cases rx
  obtain ⟨u, rfl, ru⟩ := rv.one
  cases ru
  obtain ⟨z, its, n, r, hl, e⟩ := I.lstM hH
  obtain ⟨z2, its2, n2, r2, hl2, e2⟩ := I.lstM hB
  have hsz : its.toArray.size + its2.toArray.size ≤ sizeLine := by rw [List.size_toArray, List.size_toArray]; omega
  have hlong : ¬ (!its.toArray.isEmpty && Builtin.List.listTooLong (its.toArray.size + its2.toArray.size)) = true := by
    rw [notLongL hsz, Bool.and_false]
    exact Bool.false_ne_true
  refine call_meets F.slot_list_extend ⟨_, e, rfl⟩ F.entry_list_extend (F.args_list_extend_2 _ _)
    (AutoSeq1.list_extend_list_list_0 l its.toArray n b its2.toArray n2 hlong (by rw [List.size_toArray]; omega) (by omega)) ⟨e, e2, ?_⟩
  refine ⟨.non, _, I.lset (its' := its ++ its2) hH e (by simp) (r.append r2) ?_, rfl, q⟩
  rw [List.length_append]
  omega

def rPop : V → List V → Hp → VK → Prop := fun x vs H Q => ∃ l xs y, x = .ref l ∧ vs = [] ∧ H l = some (.lst xs) ∧ xs[xs.length - 1]? = some y ∧ Q y (upd H l (.lst xs.dropLast))
theorem mt_pop : MtM X "list.pop" rPop := by
  intro pins s σ H x vs v us Q I rx rv h
  obtain ⟨l, xs, y, rfl, rfl, hH, hy, q⟩ := h
  cases rx
  have hus := rv.zero
  subst hus
  obtain ⟨z, its, n, r, hl, e⟩ := I.lstM hH
  obtain ⟨u, hu, ru⟩ := r.get hy
  have hy' : its.toArray[its.toArray.size - 1]? = some u := by
    show its.toArray[its.length - 1]? = some u
    rw [← Array.getElem?_toList, ← hl]
    exact hu
  refine call_meets F.slot_list_pop ⟨_, e, rfl⟩ F.entry_list_pop (F.args_list_pop_1 _) (MeetsSeq.list_pop_last l its.toArray n u hy' (by rw [List.size_toArray]; omega)) ⟨e, ?_⟩
  refine ⟨y, _, I.lset (its' := its.dropLast) hH e ?_ r.dropLast ?_, ru, q⟩
  · show its.toArray.eraseIdxIfInBounds (its.toArray.size - 1) = its.dropLast.toArray
    rw [List.size_toArray, List.eraseIdxIfInBounds_toArray, erase_last]
  · rw [List.length_dropLast]
    omega

def rPopAt : V → List V → Hp → VK → Prop := fun x vs H Q => ∃ l xs i k y, x = .ref l ∧ vs = [.int i] ∧ H l = some (.lst xs) ∧ -(2 ^ 63) ≤ i ∧ i < 2 ^ 63 ∧ seqIndex? i xs.length = some k ∧ xs[k]? = some y ∧ Q y (upd H l (.lst (xs.eraseIdx k)))
theorem mt_popAt : MtM X "list.pop" rPopAt := by
  intro pins s σ H x vs v us Q I rx rv h
  obtain ⟨l, xs, i, k, y, rfl, rfl, hH, h1, h2, hk, hy, q⟩ := h
  cases rx
  obtain ⟨u, rfl, ru⟩ := rv.one
  obtain ⟨t, rfl⟩ := ru
  obtain ⟨z, its, n, r, hl, e⟩ := I.lstM hH
  obtain ⟨w, hw, rw'⟩ := r.get hy
  refine call_meets F.slot_list_pop ⟨_, e, rfl⟩ F.entry_list_pop (F.args_list_pop_2 _ _)
    (MeetsSeq.list_pop_at l its.toArray n i t k w (fitsIndex_both h1 h2) (by rw [List.size_toArray, ← hl]; exact hk) (by rw [← Array.getElem?_toList]; exact hw) (by rw [List.size_toArray]; omega)) ⟨e, ?_⟩
  refine ⟨y, _, I.lset (its' := its.eraseIdx k) hH e ?_ (r.eraseIdx k) ?_, rw', q⟩
  · show its.toArray.eraseIdxIfInBounds k = (its.eraseIdx k).toArray
    rw [List.eraseIdxIfInBounds_toArray]
  · have := len_erase xs k
    omega

def rReverse : V → List V → Hp → VK → Prop := fun x vs H Q => ∃ l xs, x = .ref l ∧ vs = [] ∧ H l = some (.lst xs) ∧ Q .non (upd H l (.lst xs.reverse))
theorem mt_reverse : MtM X "list.reverse" rReverse := by
  intro pins s σ H x vs v us Q I rx rv h
  obtain ⟨l, xs, rfl, rfl, hH, q⟩ := h
  cases rx
  have hus := rv.zero
  subst hus
  obtain ⟨z, its, n, r, hl, e⟩ := I.lstM hH
  refine call_meets F.slot_list_reverse ⟨_, e, rfl⟩ F.entry_list_reverse (F.args_list_reverse_1 _) (AutoSeq1.list_reverse_list_0 l its.toArray n (by rw [List.size_toArray]; omega)) ⟨e, ?_⟩
  refine ⟨.non, _, I.lset (its' := its.reverse) hH e (by simp) r.reverse ?_, rfl, q⟩
  rw [List.length_reverse]
  omega

def rClear : V → List V → Hp → VK → Prop := fun x vs H Q => ∃ l xs, x = .ref l ∧ vs = [] ∧ H l = some (.lst xs) ∧ Q .non (upd H l (.lst []))
theorem mt_clear : MtM X "list.clear" rClear := by
  intro pins s σ H x vs v us Q I rx rv h
  obtain ⟨l, xs, rfl, rfl, hH, q⟩ := h
  cases rx
  have hus := rv.zero
  subst hus
  obtain ⟨z, its, n, r, hl, e⟩ := I.lstM hH
  refine call_meets F.slot_list_clear ⟨_, e, rfl⟩ F.entry_list_clear (F.args_list_clear_1 _) (AutoSeq1.list_clear_list_0 l its.toArray n (by rw [List.size_toArray]; omega)) ⟨e, ?_⟩
  exact ⟨.non, _, I.lset (its' := []) (ys := []) hH e rfl .nil (Nat.zero_le _), rfl, q⟩

/-! ### list + list, list += list, list * int -/
def rCat : R2 := fun x y H Q => ∃ l b xs zs, x = .ref l ∧ y = .ref b ∧ H l = some (.lst xs) ∧ H b = some (.lst zs) ∧ xs.length + zs.length ≤ sizeLine ∧ ∀ p, H p = none → Q (.ref p) (upd H p (.lst (xs ++ zs)))
theorem op_cat : OpR X (binaryOp .Add) rCat := by
  intro pins s σ H x y v u Q I rx ry h
  obtain ⟨l, b, xs, zs, rfl, rfl, hH, hB, hz, q⟩ := h
  cases rx
  cases ry
  obtain ⟨z, its, n, r, hl, e⟩ := I.lstM hH
  obtain ⟨z2, its2, n2, r2, hl2, e2⟩ := I.lstM hB
  refine PySem.P.add_list e e2 ?_ (by rw [List.size_toArray, List.size_toArray]; omega)
  have ea : its.toArray ++ its2.toArray = (its ++ its2).toArray := by simp
  rw [ea]
  exact ⟨.ref _, _, I.lnew (t' := s.toks) (r.append r2) (by rw [List.length_append]; omega), rfl, q _ I.fresh⟩
/-- a list times an int (a negative one is nothing) -/
def rRep : R2 := fun x y H Q => ∃ l k xs, x = .ref l ∧ y = .int k ∧ H l = some (.lst xs) ∧ -(2 ^ 63) ≤ k ∧ k < 2 ^ 63 ∧ xs.length * k.toNat ≤ sizeLine ∧
  ∀ p, H p = none → Q (.ref p) (upd H p (.lst (List.replicate k.toNat xs).flatten))
theorem len_rep {α : Type} (xs : List α) (k : Nat) : (List.replicate k xs).flatten.length = k * xs.length := by
  induction k with
  | zero => simp
  | succ k ih => rw [List.replicate_succ, List.flatten_cons, List.length_append, ih, Nat.succ_mul, Nat.add_comm]
theorem op_rep : OpR X (binaryOp .Mult) rRep := by
  intro pins s σ H x y v u Q I rx ry h
  obtain ⟨l, k, xs, rfl, rfl, hH, h1, h2, hz, q⟩ := h
  cases rx
  obtain ⟨t, rfl⟩ := ry
  obtain ⟨z, its, n, r, hl, e⟩ := I.lstM hH
  have hlen : its.toArray.size * k.toNat ≤ sizeLine := by rw [List.size_toArray, ← hl]; exact hz
  have hcap : ¬ its.toArray.size * k.toNat > (2 ^ 63 - 1) / 8 := by
    have : (sizeLine : Nat) ≤ (2 ^ 63 - 1) / 8 := by decide
    omega
  have hfit : ¬ (!Builtin.List.listFitsIndex k) = true := by
    rw [fitsIndex_both h1 h2]
    exact Bool.false_ne_true
  have hlong : ¬ Builtin.List.listTooLong (its.toArray.size * k.toNat) = true := by
    rw [notLongL hlen]
    exact Bool.false_ne_true
  have hnew : List.foldl (fun x1 x2 => x1 ++ x2) #[] (List.replicate (if its.toArray.isEmpty = true then 0 else k.toNat) its.toArray) = (List.replicate k.toNat its).flatten.toArray := by
    have f0 : ∀ m : Nat, List.foldl (fun x1 x2 => x1 ++ x2) #[] (List.replicate m its.toArray) = (List.replicate m its).flatten.toArray := fun m => by
      have := foldl_rep its m []
      rw [List.nil_append] at this
      exact this
    rw [f0]
    cases its with
    | nil => simp
    | cons a r' => rw [if_neg (by simp)]
  refine wpAny_binaryOp_repeat_ref (T := "list") (U := "int") (by decide) ⟨_, e, rfl⟩ (fun s' => typeIs_int s' k t) noFill_list_mul F.fills_int_mul F.slot_int_rmul repeat_list F.slot_int_index.lookup
    (call_meets F.slot_int_rmul (typeIs_int s k t) F.entry_int_rmul (F.args_int_rmul_2 _ _) (int___rmul___int_list k t l its.toArray n)
      ⟨e, rfl, ⟨_, e, rfl⟩, call_meets F.slot_list_mul ⟨_, e, rfl⟩ F.entry_list_mul (F.args_list_mul_2 _ _) (AutoListH.list___mul___list_int_3 l its.toArray n k t hfit hcap hlong) ⟨e, ?_⟩⟩)
  rw [hnew]
  exact ⟨.ref _, _, I.lnew (t' := s.toks) (r.rep k.toNat) (by rw [len_rep, Nat.mul_comm]; exact hz), rfl, q _ I.fresh⟩

/-! ### del xs[i] -/
theorem del_list {pins : List (Addr × Obj)} {s : Shared} {σ : St} {H : Hp} {l : Addr} {xs : List V} {i : Int} {t : Tok} {k : Nat} {Q : Unit → Shared → Prop} (I : Inv X pins σ H s) (hH : H l = some (.lst xs))
    (h1 : -(2 ^ 63) ≤ i) (h2 : i < 2 ^ 63) (hk : seqIndex? i xs.length = some k) (h : ∀ s', Inv X pins σ (upd H l (.lst (xs.eraseIdx k))) s' → Q () s') :
    wpAny (model X.prog X.w) X.A (delItem (.ref l) (.int i t)) Q X.xe s := by
  obtain ⟨z, its, n, r, hl, e⟩ := I.lstM hH
  refine PySem.P.delItem_list (k := k) e (fitsIndex_both h1 h2) (by rw [List.size_toArray, ← hl]; exact hk) (h _ ?_) (by rw [List.size_toArray]; omega)
  refine I.lset (its' := its.eraseIdx k) (t' := s.toks) hH e ?_ (r.eraseIdx k) ?_
  · show its.toArray.eraseIdxIfInBounds k = (its.eraseIdx k).toArray
    rw [List.eraseIdxIfInBounds_toArray]
  · have := len_erase xs k
    omega
end

/-! ### xs[a:b] = ys -/
section
variable {prog : Program} {w : World} {A : Around} {E : Value → Shared → Prop} {s : Shared}
theorem splice_eq (its its2 : List Value) (a c : Nat) : its.toArray.extract 0 a ++ its2.toArray ++ its.toArray.extract c its.toArray.size = (its.take a ++ its2 ++ its.drop c).toArray := by
  apply Array.toList_inj.mp
  first
    | (simp
       exact List.take_of_length_le (by simp))
    | simp [List.take_of_length_le]
    | simp
theorem bounds_run {a c n : Nat} (hac : a ≤ c) (hc : c ≤ n) : sliceBounds (some (a : Int)) (some (c : Int)) none n = ((a : Int), (c : Int), 1) := by
  simp only [sliceBounds, Option.getD_none]
  have h1 : ¬ ((a : Int) < 0) := by omega
  have h2 : ¬ ((c : Int) < 0) := by omega
  simp only [h1, h2, if_false, show (1 : Int) > 0 by decide, if_true]
  congr 1
  · omega
  · congr 1; omega
set_option maxRecDepth 100000 in
/-- list.__setitem__ with a slice of step one and another list -/
theorem setItem_slice {l b sl : Addr} {items new : Array Value} {n n2 : Nat} {vl vu : Value} {a c : Nat} {Q : Unit → Shared → Prop}
    (e : s.heap.get? l = some { cls := .type "list", data := .seq items n }) (e2 : s.heap.get? b = some { cls := .type "list", data := .seq new n2 }) (hne : l ≠ b)
    (hs : s.heap.IsSliceOf sl vl vu .none) (pl : IsPart vl (some (a : Int))) (pu : IsPart vu (some (c : Int))) (hac : a ≤ c) (hc : c ≤ items.size)
    (hsz : items.size + new.size ≤ sizeLine) (h : Q () { s with heap := s.heap.update l (Obj.mapSeq fun xs => xs.extract 0 a ++ new ++ xs.extract c xs.size) }) :
    wpAny (model prog w) A (setItem (.ref l) (.ref sl) (.ref b)) Q E s := by
  have hl : s.heap.IsList l items := PySem.IsL.isList e
  have hb : s.heap.IsList b new := PySem.IsL.isList e2
  obtain ⟨os, hos, hcs, hds⟩ := id hs
  have hTs : s.TypeIs (.ref sl) "slice" := ⟨os, hos, hcs⟩
  have hstep : ¬ ((rawPart none == rawInt 0) = true) := Bool.false_ne_true
  have hsame : Builtin.List.listSameRef (.ref l) (.ref b) = false := by
    unfold Builtin.List.listSameRef
    exact beq_eq_false_iff_ne.mpr hne
  have hmax : (max (a : Int) (c : Int)).toNat = c := by omega
  have hz' : ((fun xs : Array Value => xs.extract 0 a ++ new ++ xs.extract c xs.size) items).size ≤ sizeLine + 1 := by
    simp only [Array.size_append, Array.size_extract]
    omega
  unfold setItem
  try with_reducible refine wpAny_holding ?_
  first | refine wpAny_bind (wpAny_pure ?_) | skip
  refine wpAny_bind (wpAny_sequenceKey hl.typeIs (by decide) ?_)
  refine wpAny_bind (wpAny_callSpecial?_slot (name := Str.ofString "__setitem__") hl.typeIs slot_list_setitem
    (wpAny_call_entry slot_list_setitem hl.typeIs entry_list_setitem ?_ (args_list_setitem _ _ _)))
  show wpAny _ _ (Builtin.List.listSubscript? (.ref sl) >>= _) _ _ s
  refine wpAny_bind ?_
  unfold Builtin.List.listSubscript?
  refine wpAny_bind (wpAny_specialOf hTs slice_no_index ?_)
  simp only [Option.isNone_none, if_true]
  refine wpAny_pure ?_
  show wpAny _ _ (typeOf (.ref sl) >>= _) _ _ s
  refine wpAny_bind (wpAny_typeOf hTs ?_)
  first
    | rw [if_neg (by decide)]
    | refine PySem.W.KFB.if_not (by decide) ?_
  rw [listSliceParts_eq]
  refine wpAny_bind (wpAny_bind (wpAny_field hos hds (x := .none) rfl (wpAny_bind (wpAny_listPart .none ?_))))
  rw [if_neg hstep]
  refine wpAny_bind (wpAny_field hos hds (x := vl) rfl (wpAny_bind (wpAny_listPart pl ?_)))
  refine wpAny_bind (wpAny_field hos hds (x := vu) rfl (wpAny_bind (wpAny_listPart pu (wpAny_pure ?_))))
  first
    | simp only [hsame, Bool.false_eq_true, if_false]
    | refine PySem.W.KFB.if_not hsame ?_
    | (dsimp only
       rw [if_neg (by rw [hsame]; exact Bool.false_ne_true)])
  refine wpAny_bind (m := Builtin.List.listAllItems (.ref b) "must assign iterable to extended slice") ?_
  unfold Builtin.List.listAllItems
  refine wpAny_bind (wpAny_typeOf hb.typeIs ?_)
  first
    | refine PySem.W.KFB.if_so (by decide) ?_
    | rw [if_pos (by decide)]
    | simp only [beq_self_eq_true, Bool.true_or, if_true]
  unfold Builtin.List.listItems
  refine wpAny_bind (wpAny_seqItems e2 rfl (wpAny_pure ?_))
  refine wpAny_bind (wpAny_bind (wpAny_seqItems e rfl (wpAny_pure ?_)))
  refine wpAny_bind (wpAny_of_eq ((sliceIndices_raw (some (a : Int)) (some (c : Int)) none items.size (by simp)).trans (congrArg (pure : Int × Int × Int → Sem (Int × Int × Int)) (bounds_run hac hc))) ?_)
  show wpAny _ _ (if ((1 : Int) == 1) = true then _ else _) _ _ s
  rw [if_pos (by decide)]
  refine wpAny_bind (wpAny_rule ?_)
  first
    | simp only [notLongL hsz, Bool.false_eq_true, if_false]
    | refine PySem.W.KFB.if_not (notLongL hsz) ?_
  first | refine wpAny_bind (wpAny_pure ?_) | skip
  show wpAny _ _ (updateSeq l (fun xs => xs.extract 0 ((a : Int)).toNat ++ new ++ xs.extract (max (a : Int) (c : Int)).toNat xs.size) >>= _) _ _ s
  rw [hmax, Int.toNat_natCast]
  refine wpAny_bind (wpAny_updateSeq (hz := Nat.le_trans (Nat.le_add_right _ _) hsz) (_hz' := hz') e rfl ?_)
  refine wpAny_bind (wpAny_letGo ?_)
  first
    | exact wpAny_bind (wpAny_pure (wpAny_pure ⟨.none, rfl, wpAny_pure h⟩))
    | exact wpAny_pure ⟨.none, rfl, wpAny_pure h⟩
end

section
variable {X : Cx}
/-- xs[a:c] = ys of another list, at the value level: sl is the slice object that was just made -/
theorem set_slice {pins : List (Addr × Obj)} {s : Shared} {σ : St} {H : Hp} {l b sl : Addr} {xs ys : List V} {a c : Int} {vl vu : Value} {Q : Unit → Shared → Prop} (I : Inv X pins σ H s)
    (hH : H l = some (.lst xs)) (hB : H b = some (.lst ys)) (hne : l ≠ b) (hs : s.heap.IsSliceOf sl vl vu .none) (ra : RelV (.int a) vl) (rc : RelV (.int c) vu) (h0 : 0 ≤ a) (hac : a ≤ c) (hc : c ≤ xs.length)
    (hz : xs.length + ys.length ≤ sizeLine) (h : ∀ s', Inv X pins σ (upd H l (.lst (xs.take a.toNat ++ ys ++ xs.drop c.toNat))) s' → Q () s') :
    wpAny (model X.prog X.w) X.A (setItem (.ref l) (.ref sl) (.ref b)) Q X.xe s := by
  obtain ⟨ta, rfl⟩ := ra
  obtain ⟨tc, rfl⟩ := rc
  obtain ⟨z, its, n, r, hl, e⟩ := I.lstM hH
  obtain ⟨z2, its2, n2, r2, hl2, e2⟩ := I.lstM hB
  obtain ⟨a', rfl⟩ := Int.eq_ofNat_of_zero_le h0
  obtain ⟨c', rfl⟩ := Int.eq_ofNat_of_zero_le (Int.le_trans h0 hac)
  simp only [Int.toNat_natCast] at h
  refine setItem_slice (a := a') (c := c') e e2 hne hs (.int _ _) (.int _ _) (by omega) (by rw [List.size_toArray]; omega) (by rw [List.size_toArray, List.size_toArray]; omega) (h _ ?_)
  refine I.lset (its' := its.take a' ++ its2 ++ its.drop c') (t' := s.toks) hH e ?_ (Vals.append (Vals.append (r.take _) r2) (r.drop _)) ?_
  · exact splice_eq its its2 a' c'
  · rw [List.length_append, List.length_append, List.length_take, List.length_drop]
    omega
end
end L2

namespace L2
open PySem PySem.Spec PyProof.Rows

/-! ### lists of pairs as tables -/
section
variable {κ : Type} [DecidableEq κ]
def valV (kvs : List (κ × V)) (k : κ) : Option V := (kvs.find? fun kv => decide (kv.1 = k)).map (·.2)
/-- in its place, or at the end -/
def putK (kvs : List (κ × V)) (k : κ) (v : V) : List (κ × V) :=
  if (kvs.any fun kv => decide (kv.1 = k)) = true then kvs.map (fun kv => if kv.1 = k then (kv.1, v) else kv) else kvs ++ [(k, v)]
def dropK (kvs : List (κ × V)) (k : κ) : List (κ × V) := kvs.filter fun kv => decide (kv.1 ≠ k)

theorem valV_nil {k : κ} : valV ([] : List (κ × V)) k = none := rfl
theorem valV_pos {p : κ × V} {r : List (κ × V)} {k : κ} (e : p.1 = k) : valV (p :: r) k = some p.2 := by simp [valV, List.find?_cons, e]
theorem valV_neg {p : κ × V} {r : List (κ × V)} {k : κ} (e : ¬ p.1 = k) : valV (p :: r) k = valV r k := by simp [valV, List.find?_cons, e]
theorem valV_any (k : κ) : ∀ kvs : List (κ × V), (kvs.any fun kv => decide (kv.1 = k)) = (valV kvs k).isSome
  | [] => rfl
  | p :: r => by
    rw [List.any_cons]
    by_cases e : p.1 = k
    · simp only [valV_pos e, decide_eq_true e, Bool.true_or, Option.isSome_some]
    · rw [valV_neg e, decide_eq_false e, Bool.false_or]; exact valV_any k r
theorem valV_map (k j : κ) (y : V) : ∀ kvs : List (κ × V), valV (kvs.map fun kv => if kv.1 = k then (kv.1, y) else kv) j = (valV kvs j).map fun x => if j = k then y else x
  | [] => rfl
  | p :: r => by
    have ih := valV_map k j y r
    rw [List.map_cons]
    by_cases h : p.1 = k
    · rw [if_pos h]
      by_cases e : p.1 = j
      · rw [valV_pos (p := (p.1, y)) e, valV_pos e, Option.map_some, if_pos (e.symm.trans h)]
      · rw [valV_neg (p := (p.1, y)) e, valV_neg e, ih]
    · rw [if_neg h]
      by_cases e : p.1 = j
      · rw [valV_pos (p := p) e, valV_pos e, Option.map_some, if_neg (fun z => h (e.trans z))]
      · rw [valV_neg (p := p) e, valV_neg e, ih]
theorem valV_snoc (k j : κ) (y : V) : ∀ kvs : List (κ × V), valV kvs k = none → valV (kvs ++ [(k, y)]) j = if j = k then some y else valV kvs j
  | [], _ => by
    by_cases e : k = j
    · rw [if_pos e.symm]; exact valV_pos (p := (k, y)) e
    · rw [if_neg (fun z => e z.symm)]; exact valV_neg (p := (k, y)) e
  | p :: r, hn => by
    rw [List.cons_append]
    have hk : ¬ p.1 = k := fun z => by rw [valV_pos z] at hn; cases hn
    rw [valV_neg hk] at hn
    have ih := valV_snoc k j y r hn
    by_cases e : p.1 = j
    · rw [valV_pos e, valV_pos e, if_neg (fun z => hk (e.trans z))]
    · rw [valV_neg e, valV_neg e, ih]
theorem valV_put (kvs : List (κ × V)) (k j : κ) (y : V) : valV (putK kvs k y) j = if j = k then some y else valV kvs j := by
  unfold putK
  by_cases a : (kvs.any fun kv => decide (kv.1 = k)) = true
  · rw [if_pos a, valV_map]
    rw [valV_any] at a
    by_cases e : j = k
    · obtain ⟨x, hx⟩ := Option.isSome_iff_exists.mp a
      rw [if_pos e, e, hx, Option.map_some, if_pos rfl]
    · rw [if_neg e]
      cases valV kvs j with
      | none => rfl
      | some x => rw [Option.map_some, if_neg e]
  · rw [if_neg a]
    refine valV_snoc k j y kvs ?_
    rw [valV_any] at a
    cases q : valV kvs k with
    | none => rfl
    | some x => rw [q] at a; exact (a rfl).elim
theorem length_putK (kvs : List (κ × V)) (k : κ) (v : V) : (putK kvs k v).length ≤ kvs.length + 1 := by
  unfold putK
  split
  · rw [List.length_map]; omega
  · rw [List.length_append, List.length_cons, List.length_nil]; omega
theorem putK_new {kvs : List (κ × V)} {k : κ} (v : V) (h : valV kvs k = none) : putK kvs k v = kvs ++ [(k, v)] := by
  unfold putK
  rw [valV_any, h]
  exact if_neg (by decide)

theorem RelO.isSome_eq {o : Option V} {u : Option Value} (r : RelO o u) : o.isSome = u.isSome := by
  cases o with
  | none => cases u with
    | none => rfl
    | some _ => exact (show False from r).elim
  | some _ => cases u with
    | none => exact (show False from r).elim
    | some _ => rfl
theorem RelO.getD {o : Option V} {u : Option Value} {d : V} {d' : Value} (r : RelO o u) (rd : RelV d d') : RelV (o.getD d) (u.getD d') := by
  cases o with
  | none => cases u with
    | none => exact rd
    | some _ => exact (show False from r).elim
  | some _ => cases u with
    | none => exact (show False from r).elim
    | some _ => exact r

/-- raw tables of the same keys -/
theorem KV.val {kvs : List (κ × V)} {vs : List (κ × Value)} (r : KV kvs vs) (k : κ) : RelO (valV kvs k) (valueAt vs k) := by
  unfold KV at r
  induction r with
  | nil => exact True.intro
  | @cons p q ps qs h t ih =>
    obtain ⟨h1, h2⟩ := h
    by_cases e : p.1 = k
    · have e' : q.1 = k := h1.symm.trans e
      have b : valueAt (q :: qs) k = some q.2 := by simp [valueAt, List.find?_cons, e']
      rw [valV_pos e, b]; exact h2
    · have e' : ¬ q.1 = k := fun z => e (h1.trans z)
      have b : valueAt (q :: qs) k = valueAt qs k := by simp [valueAt, List.find?_cons, e']
      rw [valV_neg e, b]; exact ih
theorem KV.any {kvs : List (κ × V)} {vs : List (κ × Value)} (r : KV kvs vs) (k : κ) : (kvs.any fun kv => decide (kv.1 = k)) = vs.any fun kv => decide (kv.1 = k) := by
  unfold KV at r
  induction r with
  | nil => rfl
  | cons h t ih => rw [List.any_cons, List.any_cons, ih, h.1]
theorem KV.repl {kvs : List (κ × V)} {vs : List (κ × Value)} (r : KV kvs vs) (k : κ) {y : V} {u : Value} (ry : RelV y u) :
    KV (kvs.map fun kv => if kv.1 = k then (kv.1, y) else kv) (vs.map fun kv => if kv.1 = k then (kv.1, u) else kv) := by
  unfold KV at r ⊢
  induction r with
  | nil => exact .nil
  | @cons p q ps qs h t ih =>
    rw [List.map_cons, List.map_cons]
    refine .cons ?_ ih
    obtain ⟨h1, h2⟩ := h
    by_cases e : p.1 = k
    · rw [if_pos e, if_pos (h1.symm.trans e)]; exact ⟨h1, ry⟩
    · rw [if_neg e, if_neg (fun z => e (h1.trans z))]; exact ⟨h1, h2⟩
theorem KV.put {kvs : List (κ × V)} {vs : List (κ × Value)} (r : KV kvs vs) (k : κ) {y : V} {u : Value} (ry : RelV y u) : KV (putK kvs k y) (stored vs k u) := by
  unfold putK stored
  rw [r.any k]
  by_cases e : (vs.any fun kv => decide (kv.1 = k)) = true
  · rw [if_pos e, if_pos e]; exact r.repl k ry
  · rw [if_neg e, if_neg e]; exact Paired.snoc r ⟨rfl, ry⟩
theorem KV.drop {kvs : List (κ × V)} {vs : List (κ × Value)} (r : KV kvs vs) (k : κ) : KV (dropK kvs k) (without vs k) := by
  unfold KV at r ⊢
  unfold dropK without
  induction r with
  | nil => exact .nil
  | @cons p q ps qs h t ih =>
    obtain ⟨h1, h2⟩ := h
    rw [List.filter_cons, List.filter_cons]
    by_cases e : p.1 = k
    · have a : ¬ decide (p.1 ≠ k) = true := by simp [e]
      have b : ¬ decide (q.1 ≠ k) = true := by simp [h1.symm.trans e]
      rw [if_neg a, if_neg b]; exact ih
    · have e' : ¬ q.1 = k := fun z => e (h1.trans z)
      have a : decide (p.1 ≠ k) = true := by simp [e]
      have b : decide (q.1 ≠ k) = true := by simp [e']
      rw [if_pos a, if_pos b]; exact .cons ⟨h1, h2⟩ ih
theorem KV.keys {kvs : List (κ × V)} {vs : List (κ × Value)} (r : KV kvs vs) : kvs.map (·.1) = vs.map (·.1) := by
  unfold KV at r
  induction r with
  | nil => rfl
  | cons h t ih => rw [List.map_cons, List.map_cons, ih, h.1]
theorem KV.length {kvs : List (κ × V)} {vs : List (κ × Value)} (r : KV kvs vs) : kvs.length = vs.length := Paired.length r
theorem dropK_le (kvs : List (κ × V)) (k : κ) : (dropK kvs k).length ≤ kvs.length := List.length_filter_le _ _
end


/-! ### a tracked dict, its keys ints and texts or tuples of these -/
theorem kV_is {P : Program} {w : World} {k : Key} {u : Value} (r : RelV (kV k) u) : (mixKind P w).is k u = true := by
  cases k with
  | inl i => obtain ⟨t, e⟩ := (show ∃ t, u = Value.int i t from r); subst e; exact mixKind_int P w i t
  | inr x => obtain ⟨t, e⟩ := (show ∃ t, u = Value.str x t from r); subst e; exact mixKind_str P w x t
theorem kV_inj {a b : Key} (e : kV a = kV b) : a = b := by
  cases a with
  | inl i => cases b with
    | inl j => have e' : V.int i = V.int j := e; injection e' with e'; rw [e']
    | inr y => exact nomatch (show V.int i = V.str y from e)
  | inr x => cases b with
    | inl j => exact nomatch (show V.str x = V.int j from e)
    | inr y => have e' : V.str x = V.str y := e; injection e' with e'; rw [e']
theorem kVs_inj : ∀ {a b : List Key}, a.map kV = b.map kV → a = b
  | [], [], _ => rfl
  | [], _ :: _, e => by simp at e
  | _ :: _, [], e => by simp at e
  | x :: xs, y :: ys, e => by
    rw [List.map_cons, List.map_cons] at e
    injection e with e1 e2
    rw [kV_inj e1, kVs_inj e2]
theorem items_are {P : Program} {w : World} : ∀ {ks : List Key} {us : List Value}, Vals (ks.map kV) us → ItemsAre (mixKind P w) ks us
  | [], _, r => by rw [List.map_nil] at r; cases r; exact .nil
  | k :: ks, _, r => by
    rw [List.map_cons] at r
    cases r with
    | cons h t => exact .cons (kV_is h) (items_are t)

/-- raw entries of a dict with tuple keys -/
abbrev KT (H : Hp) : List (List Key × V) → List (List Key × Addr × Value) → Prop := Paired fun p q => p.1 = q.1 ∧ H q.2.1 = some (.tup (p.1.map kV)) ∧ RelV p.2 q.2.2
theorem KT.val {H : Hp} {kvs : List (List Key × V)} {xs : List (List Key × Addr × Value)} (r : KT H kvs xs) (k : List Key) : RelO (valV kvs k) ((atKey xs k).map (·.2)) := by
  induction r with
  | nil => exact True.intro
  | @cons p q ps qs h t ih =>
    obtain ⟨h1, _, h2⟩ := h
    by_cases e : p.1 = k
    · have e' : q.1 = k := h1.symm.trans e
      have b : atKey (q :: qs) k = some q.2 := by simp [atKey, List.find?_cons, e']
      rw [valV_pos e, b]; exact h2
    · have e' : ¬ q.1 = k := fun z => e (h1.trans z)
      have b : atKey (q :: qs) k = atKey qs k := by simp [atKey, List.find?_cons, e']
      rw [valV_neg e, b]; exact ih
theorem KT.repl {H : Hp} {kvs : List (List Key × V)} {xs : List (List Key × Addr × Value)} (r : KT H kvs xs) (k : List Key) {y : V} {u : Value} (ry : RelV y u) :
    KT H (kvs.map fun kv => if kv.1 = k then (kv.1, y) else kv) (xs.map (putAt k u)) := by
  induction r with
  | nil => exact .nil
  | @cons p q ps qs h t ih =>
    rw [List.map_cons, List.map_cons]
    refine .cons ?_ ih
    obtain ⟨h1, h2, h3⟩ := h
    unfold putAt
    by_cases e : p.1 = k
    · rw [if_pos e, if_pos (h1.symm.trans e)]; exact ⟨h1, h2, ry⟩
    · rw [if_neg e, if_neg (fun z => e (h1.trans z))]; exact ⟨h1, h2, h3⟩
theorem KT.put {H : Hp} {kvs : List (List Key × V)} {xs : List (List Key × Addr × Value)} (r : KT H kvs xs) (k : List Key) {b : Addr} {y : V} {u : Value} (hb : H b = some (.tup (k.map kV))) (ry : RelV y u) :
    KT H (putK kvs k y) (storedH xs k b u) := by
  have e : (kvs.any fun kv => decide (kv.1 = k)) = (atKey xs k).isSome := by
    rw [valV_any, (r.val k).isSome_eq, Option.isSome_map]
  unfold putK storedH
  rw [e]
  by_cases q : (atKey xs k).isSome = true
  · rw [if_pos q, if_pos q]; exact r.repl k ry
  · rw [if_neg q, if_neg q]; exact Paired.snoc r ⟨rfl, hb, ry⟩
theorem KT.keeps {H H' : Hp} {kvs : List (List Key × V)} {xs : List (List Key × Addr × Value)} (r : KT H kvs xs) (ht : ∀ b ys, H b = some (.tup ys) → H' b = some (.tup ys)) : KT H' kvs xs :=
  Paired.mapP r fun _ _ z => ⟨z.1, ht _ _ z.2.1, z.2.2⟩

section
variable {P : Program} {w : World} {H : Hp} {h : Heap} {a : Addr}
theorem rd_of {u : HO} (ok : HOk P w H h) (e : Rd H a u) : ObjOk P w H h a u := e.ok ok
theorem dk_rd {kvs : List (Key × V)} (ok : HOk P w H h) (e : Rd H a (.dK kvs)) : kvs.length ≤ sizeLine ∧ (a == sysModules) = false ∧ ∃ vs, KV kvs vs ∧ h.DictOf (mixKind P w) a vs :=
  show ObjOk P w H h a (.dK kvs) from rd_of ok e
theorem dk_of {kvs : List (Key × V)} (ok : HOk P w H h) (e : H a = some (.dK kvs)) : kvs.length ≤ sizeLine ∧ (a == sysModules) = false ∧ ∃ vs, KV kvs vs ∧ h.DictOf (mixKind P w) a vs := dk_rd ok (.inl e)
/-- a tracked tuple of ints and texts is a key -/
theorem key_of {ks : List Key} (ok : HOk P w H h) (e : H a = some (.tup (ks.map kV))) : (tupleKind (mixKind P w)).is h ks a := by
  obtain ⟨_, its, r, o, h1, h2, n, h3⟩ := (show ObjOk P w H h a (.tup (ks.map kV)) from ok a _ e)
  exact ⟨o, its.toArray, n, h1, h2, h3, by simpa using items_are r⟩
theorem dt_rd {kvs : List (List Key × V)} (ok : HOk P w H h) (e : Rd H a (.dT kvs)) : kvs.length ≤ sizeLine ∧ (a == sysModules) = false ∧
    ∃ xs, KT H kvs xs ∧ h.DictOfH (tupleKind (mixKind P w)) a xs := by
  obtain ⟨z, y, xs, r, o, es, ep, h1, h2, h3, h4, h5⟩ := (show ObjOk P w H h a (.dT kvs) from rd_of ok e)
  refine ⟨z, y, xs, r, o, es, ep, h1, h2, h3, h4, fun x hx => ?_, h5⟩
  have all : ∀ {l : List (List Key × V)} {m : List (List Key × Addr × Value)}, KT H l m → ∀ x ∈ m, (tupleKind (mixKind P w)).is h x.1 x.2.1 := by
    intro l m q
    induction q with
    | nil => intro x hx; exact nomatch hx
    | @cons p q ps qs hq t ih =>
      intro x hx
      rcases List.mem_cons.mp hx with e | hx
      · subst e
        exact key_of ok (by rw [← hq.1]; exact hq.2.1)
      · exact ih x hx
  exact all r x hx
theorem dt_of {kvs : List (List Key × V)} (ok : HOk P w H h) (e : H a = some (.dT kvs)) : kvs.length ≤ sizeLine ∧ (a == sysModules) = false ∧
    ∃ xs, KT H kvs xs ∧ h.DictOfH (tupleKind (mixKind P w)) a xs := dt_rd ok (.inl e)
end

/-- what the dict at a holds at the key y -/
def DGet (H : Hp) (a : Addr) (y : V) (r : Option V) : Prop :=
  (∃ kvs k, Rd H a (.dK kvs) ∧ y = kV k ∧ r = valV kvs k) ∨ ∃ kvs k b, Rd H a (.dT kvs) ∧ y = .ref b ∧ H b = some (.tup (k.map kV)) ∧ r = valV kvs k
/-- the heap behind a[y] = v -/
def DPut (H : Hp) (a : Addr) (y v : V) (H' : Hp) : Prop :=
  (∃ kvs k, H a = some (.dK kvs) ∧ y = kV k ∧ kvs.length < sizeLine ∧ H' = upd H a (.dK (putK kvs k v))) ∨
  ∃ kvs k b, H a = some (.dT kvs) ∧ y = .ref b ∧ H b = some (.tup (k.map kV)) ∧ kvs.length < sizeLine ∧ H' = upd H a (.dT (putK kvs k v))
theorem DGet.k {H : Hp} {a : Addr} {kvs : List (Key × V)} {k : Key} (e : H a = some (.dK kvs)) : DGet H a (kV k) (valV kvs k) := .inl ⟨kvs, k, .inl e, rfl, rfl⟩
theorem DGet.t {H : Hp} {a b : Addr} {kvs : List (List Key × V)} {k : List Key} (e : H a = some (.dT kvs)) (eb : H b = some (.tup (k.map kV))) : DGet H a (.ref b) (valV kvs k) := .inr ⟨kvs, k, b, .inl e, rfl, eb, rfl⟩
theorem DPut.k {H : Hp} {a : Addr} {kvs : List (Key × V)} {k : Key} {v : V} (e : H a = some (.dK kvs)) (hl : kvs.length < sizeLine) : DPut H a (kV k) v (upd H a (.dK (putK kvs k v))) := .inl ⟨kvs, k, e, rfl, hl, rfl⟩
theorem DPut.t {H : Hp} {a b : Addr} {kvs : List (List Key × V)} {k : List Key} {v : V} (e : H a = some (.dT kvs)) (eb : H b = some (.tup (k.map kV))) (hl : kvs.length < sizeLine) :
    DPut H a (.ref b) v (upd H a (.dT (putK kvs k v))) := .inr ⟨kvs, k, b, e, rfl, eb, hl, rfl⟩


section
variable {X : Cx} {pins : List (Addr × Obj)} {σ : St} {H : Hp} {s : Shared} {a : Addr} {y v : V} {u r : Value} {o : Option V} {A : Around} {E : Value → Shared → Prop}

theorem Inv.big (I : Inv X pins σ H s) : sysModules < s.heap.objs.size := by
  have h : mainGlobals < s.heap.objs.size := (I.mod.glob.keeps I.bk).lt
  exact Nat.lt_trans (by decide) h

/-- d[y], there -/
theorem d_getItem {Q : Value → Shared → Prop} (hu : A.units + 1 < cLine) (I : Inv X pins σ H s) (g : DGet H a y (some v)) (ry : RelV y u) (h : ∀ w' s', Inv X pins σ H s' → RelV v w' → Q w' s') :
    wpAny (model X.prog X.w) A (getItem (.ref a) u) Q E s := by
  rcases g with ⟨kvs, k, e, ey, l⟩ | ⟨kvs, k, b, e, ey, eb, l⟩
  · subst ey
    obtain ⟨z, hd, vs, rel, dd⟩ := dk_rd I.hok e
    obtain ⟨w', hw, rw'⟩ := RelO.some_of (v := v) (o := valueAt vs k) (by rw [l]; exact rel.val k)
    exact wpAny_getItem_of (kV_is ry) dd.mapOf hw (h w' _ (I.tok _) rw')
  · subst ey
    cases (show u = Value.ref b from ry)
    obtain ⟨z, hd, xs, rel, dd⟩ := dt_rd I.hok e
    obtain ⟨w', hw, rw'⟩ := RelO.some_of (v := v) (o := (atKey xs k).map (·.2)) (by rw [l]; exact rel.val k)
    obtain ⟨p, hp, hp2⟩ := Option.map_eq_some_iff.mp hw
    refine wpAny_getItem_heap (tupleKind_room_in1 hu) (key_of I.hok eb) dd hp ?_
    rw [hp2]
    exact h w' _ (I.tok _) rw'
/-- y in d -/
theorem d_in {Q : Value → Shared → Prop} (hu : A.units + 1 < cLine) (I : Inv X pins σ H s) (g : DGet H a y o) (ry : RelV y u) (h : ∀ s', Inv X pins σ H s' → Q (.bool o.isSome) s') :
    wpAny (model X.prog X.w) A (compareOp .In u (.ref a)) Q E s := by
  rcases g with ⟨kvs, k, e, ey, l⟩ | ⟨kvs, k, b, e, ey, eb, l⟩
  · subst ey
    obtain ⟨z, hd, vs, rel, dd⟩ := dk_rd I.hok e
    refine wpAny_in_of (kV_is ry) hd dd.mapOf ?_
    rw [← (rel.val k).isSome_eq, ← l]
    exact h _ (I.tok _)
  · subst ey
    cases (show u = Value.ref b from ry)
    obtain ⟨z, hd, xs, rel, dd⟩ := dt_rd I.hok e
    refine wpAny_in_heap (tupleKind_room_in1 hu) (key_of I.hok eb) hd dd ?_
    have q := (rel.val k).isSome_eq
    rw [Option.isSome_map] at q
    rw [← q, ← l]
    exact h _ (I.tok _)
theorem d_notIn {Q : Value → Shared → Prop} (hu : A.units + 1 < cLine) (I : Inv X pins σ H s) (g : DGet H a y o) (ry : RelV y u) (h : ∀ s', Inv X pins σ H s' → Q (.bool (!o.isSome)) s') :
    wpAny (model X.prog X.w) A (compareOp .NotIn u (.ref a)) Q E s := by
  rcases g with ⟨kvs, k, e, ey, l⟩ | ⟨kvs, k, b, e, ey, eb, l⟩
  · subst ey
    obtain ⟨z, hd, vs, rel, dd⟩ := dk_rd I.hok e
    refine wpAny_notIn_of (kV_is ry) hd dd.mapOf ?_
    rw [← (rel.val k).isSome_eq, ← l]
    exact h _ (I.tok _)
  · subst ey
    cases (show u = Value.ref b from ry)
    obtain ⟨z, hd, xs, rel, dd⟩ := dt_rd I.hok e
    refine wpAny_notIn_heap (tupleKind_room_in1 hu) (key_of I.hok eb) hd dd ?_
    have q := (rel.val k).isSome_eq
    rw [Option.isSome_map] at q
    rw [← q, ← l]
    exact h _ (I.tok _)
/-- a dict's object is replaced -/
theorem d_write {h' : Heap} {t' : Nat} {ob : HO} (I : Inv X pins σ H s) (mu : Mut (H a)) (hs : Heap.SameBut a s.heap h') (he : ∃ q, h'.get? a = some q) (new : ObjOk X.prog X.w (upd H a ob) h' a ob) :
    Inv X pins σ (upd H a ob) { s with heap := h', toks := t' } :=
  I.write (x := a) (e := a) mu (.inl rfl) (fun b q hb z => (hs.2 b hb).trans z) he new
theorem dk_new {P : Program} {w : World} {H' : Hp} {h' : Heap} {kvs : List (Key × V)} {vs : List (Key × Value)} (z : kvs.length ≤ sizeLine) (hd : (a == sysModules) = false) (rel : KV kvs vs) (dd : h'.DictOf (mixKind P w) a vs) :
    ObjOk P w H' h' a (.dK kvs) := ⟨z, hd, vs, rel, dd⟩
/-- d[y] = v -/
theorem d_setItem {H' : Hp} {Q : Unit → Shared → Prop} (hu : A.units + 1 < cLine) (I : Inv X pins σ H s) (g : DPut H a y v H') (ry : RelV y u) (rv : RelV v r) (h : ∀ s', Inv X pins σ H' s' → Q () s') :
    wpAny (model X.prog X.w) A (setItem (.ref a) u r) Q E s := by
  rcases g with ⟨kvs, k, e, ey, l, eH⟩ | ⟨kvs, k, b, e, ey, eb, l, eH⟩
  · subst ey eH
    obtain ⟨z, hd, vs, rel, dd⟩ := dk_of I.hok e
    have hz : vs.length ≤ sizeLine := by rw [← rel.length]; exact z
    have hl : (putK kvs k v).length ≤ sizeLine := by have := length_putK kvs k v; omega
    refine wpAny_setItem_pairs (hsz := hz) (kV_is ry) dd fun h' dd' hs => h _ ?_
    have he : ∃ q, h'.get? a = some q := let ⟨q, _, _, hq, _⟩ := dd'; ⟨q, hq⟩
    exact d_write I (by rw [e]; exact True.intro) hs he (dk_new hl hd (rel.put k rv) dd')
  · subst ey eH
    cases (show u = Value.ref b from ry)
    obtain ⟨z, hd, xs, rel, dd⟩ := dt_of I.hok e
    have hz : xs.length ≤ sizeLine := by rw [← Paired.length rel]; exact z
    have hl : (putK kvs k v).length ≤ sizeLine := by have := length_putK kvs k v; omega
    refine wpAny_setItem_heap (hsz := hz) (tupleKind_room_in1 hu) (key_of I.hok eb) dd fun h' dd' hs => h _ ?_
    obtain ⟨q, es, ep, hq, h2, h3, h4, _, h5⟩ := dd'
    refine d_write I (by rw [e]; exact True.intro) hs ⟨q, hq⟩ ⟨hl, hd, _, (rel.put k eb rv).keeps fun c ys ec => ?_, q, es, ep, hq, h2, h3, h4, h5⟩
    rw [upd_ne (ne_of ec e (fun z => nomatch z))]
    exact ec
end

section
variable {X : Cx} {pins : List (Addr × Obj)} {σ : St} {H : Hp} {s : Shared} {a : Addr} {kvs : List (Key × V)} {k : Key} {u : Value} {A : Around} {E : Value → Shared → Prop}
/-- del d[k] -/
theorem d_delItem {Q : Unit → Shared → Prop} (I : Inv X pins σ H s) (e : H a = some (.dK kvs)) (ry : RelV (kV k) u) (l : (valV kvs k).isSome = true) (h : ∀ s', Inv X pins σ (upd H a (.dK (dropK kvs k))) s' → Q () s') :
    wpAny (model X.prog X.w) A (delItem (.ref a) u) Q E s := by
  obtain ⟨z, hd, vs, rel, dd⟩ := dk_of I.hok e
  refine wpAny_delItem_slot dd.typeIs (by decide) PySem.F.slot_dict_delitem
    (call_meetsIn PySem.F.slot_dict_delitem dd.typeIs PySem.F.entry_dict_delitem (PySem.F.args_dict_delitem_2 _ _) (meets_dict_delitem_pairs (mixKind X.prog X.w) a (kV_is ry)) ⟨vs, dd, by rw [← rel.length]; exact z, by rw [← (rel.val k).isSome_eq]; exact l, fun h' dd' hs => h _ ?_⟩)
  have he : ∃ q, h'.get? a = some q := let ⟨q, _, _, hq, _⟩ := dd'; ⟨q, hq⟩
  exact d_write I (by rw [e]; exact True.intro) hs he (dk_new (Nat.le_trans (dropK_le kvs k) z) hd (rel.drop k) dd')
/-- d.pop(k[, x]), there -/
theorem d_pop {v : V} {more : List Value} {Q : Value → Shared → Prop} (I : Inv X pins σ H s) (e : H a = some (.dK kvs)) (ry : RelV (kV k) u) (l : valV kvs k = some v) (hm : more = [] ∨ ∃ x, more = [x])
    (h : ∀ w' s', Inv X pins σ (upd H a (.dK (dropK kvs k))) s' → RelV v w' → Q w' s') : wpAny (model X.prog X.w) A (call (.builtin "dict.pop") (.ref a :: u :: more)) Q E s := by
  obtain ⟨z, hd, vs, rel, dd⟩ := dk_of I.hok e
  obtain ⟨w', hw, rw'⟩ := RelO.some_of (v := v) (o := valueAt vs k) (by rw [← l]; exact rel.val k)
  have hp : (keyPart u).isSome = true := by
    cases k with
    | inl i => obtain ⟨t, q⟩ := (show ∃ t, u = Value.int i t from ry); subst q; rfl
    | inr x => obtain ⟨t, q⟩ := (show ∃ t, u = Value.str x t from ry); subst q; rfl
  have ha : argsOk "dict.pop" ⟨.ref a :: u :: more, []⟩ := by
    rcases hm with q | ⟨x, q⟩
    · subst q; exact PySem.F.args_dict_pop_2 _ _
    · subst q; exact PySem.F.args_dict_pop_3 _ _ _
  refine call_meetsIn PySem.F.slot_dict_pop dd.typeIs PySem.F.entry_dict_pop ha (meets_dict_pop_there (mixKind X.prog X.w) a (kV_is ry) more hm hp)
    ⟨vs, w', dd, by rw [← rel.length]; exact z, hw, fun h' dd' hs => h w' _ ?_ rw'⟩
  have he : ∃ q, h'.get? a = some q := let ⟨q, _, _, hq, _⟩ := dd'; ⟨q, hq⟩
  exact d_write I (by rw [e]; exact True.intro) hs he (dk_new (Nat.le_trans (dropK_le kvs k) z) hd (rel.drop k) dd')
/-- d.pop(k, x), not there -/
theorem d_popD {r : Value} {Q : Value → Shared → Prop} (I : Inv X pins σ H s) (e : H a = some (.dK kvs)) (ry : RelV (kV k) u) (l : valV kvs k = none) (h : ∀ s', Inv X pins σ H s' → Q r s') :
    wpAny (model X.prog X.w) A (call (.builtin "dict.pop") [.ref a, u, r]) Q E s := by
  obtain ⟨z, hd, vs, rel, dd⟩ := dk_of I.hok e
  have hn : valueAt vs k = none := RelO.none_of (by rw [← l]; exact rel.val k)
  have hp : (keyPart u).isSome = true := by
    cases k with
    | inl i => obtain ⟨t, q⟩ := (show ∃ t, u = Value.int i t from ry); subst q; rfl
    | inr x => obtain ⟨t, q⟩ := (show ∃ t, u = Value.str x t from ry); subst q; rfl
  exact call_meetsIn PySem.F.slot_dict_pop dd.typeIs PySem.F.entry_dict_pop (PySem.F.args_dict_pop_3 _ _ _) (meets_dict_pop_default (mixKind X.prog X.w) a (kV_is ry) hd hp r) ⟨vs, dd, hn, h _ (I.tok _)⟩
/-- d.clear() -/
theorem d_clear {Q : Value → Shared → Prop} (I : Inv X pins σ H s) (e : H a = some (.dK kvs)) (h : ∀ s', Inv X pins σ (upd H a (.dK [])) s' → Q .none s') : wpAny (model X.prog X.w) A (call (.builtin "dict.clear") [.ref a]) Q E s := by
  obtain ⟨z, hd, vs, rel, dd⟩ := dk_of I.hok e
  refine call_meetsIn PySem.F.slot_dict_clear dd.typeIs PySem.F.entry_dict_clear (PySem.F.args_dict_clear_1 _) (meets_dict_clear (mixKind X.prog X.w) a) ⟨vs, dd, by rw [← rel.length]; exact z, fun h' dd' hs => h _ ?_⟩
  have he : ∃ q, h'.get? a = some q := let ⟨q, _, _, hq, _⟩ := dd'; ⟨q, hq⟩
  exact d_write (t' := s.toks) I (by rw [e]; exact True.intro) hs he (dk_new (Nat.zero_le _) hd .nil dd')
/-- len(d) -/
theorem d_len {Q : Value → Shared → Prop} (I : Inv X pins σ H s) (e : Rd H a (.dK kvs)) (h : ∀ t s', Inv X pins σ H s' → Q (.int kvs.length t) s') : wpAny (model X.prog X.w) A (call (.builtin "len") [.ref a]) Q E s := by
  obtain ⟨z, hd, vs, rel, dd⟩ := dk_rd I.hok e
  refine call_len_dict hd dd (by rw [← rel.length]; rw [sizeLine_eq] at z; omega) ?_
  rw [← rel.length]
  exact h _ _ (I.tok _)
/-- if d -/
theorem d_truth {Q : Bool → Shared → Prop} (I : Inv X pins σ H s) (e : Rd H a (.dK kvs)) (h : ∀ s', Inv X pins σ H s' → Q (!kvs.isEmpty) s') : wpAny (model X.prog X.w) A (truthy (.ref a)) Q E s := by
  obtain ⟨z, hd, vs, rel, dd⟩ := dk_rd I.hok e
  refine wpAny_truthy_dict hd dd (by rw [← rel.length]; rw [sizeLine_eq] at z; omega) ?_
  have q : kvs.isEmpty = vs.isEmpty := by cases rel <;> rfl
  rw [← q]
  exact h _ (I.tok _)
end


/-! ### readings and rules -/
/-- the element of a subscription, not a slice -/
def NoSl (i : Expr) : Prop := ∀ ov iv, subscripted i false ov iv = operate [ov, iv] (getItem ov iv)
theorem subD_of {prog : Program} {w : World} {A : Around} {E : Value → Shared → Prop} {s : Shared} {env : Env} {value slice : Expr} {pos : Pos} {T id : String} {Q : Value → Shared → Prop}
    (hl : typeLookup (.type T) "__getitem__" = pure (some (.builtin id))) (hs : NoSl slice)
    (h : wpAny (model prog w) A (eval value env) (fun o s₁ => wpAny (model prog w) A (eval slice env) (fun i s₂ => s₂.TypeIs o T ∧ wpAny (model prog w) A (getItem o i) Q E s₂) E s₁) E s) :
    wpAny (model prog w) A (eval (.Subscript value slice pos) env) Q E s := by
  refine Subscript_ (wpAny_mono h (fun o s₁ h₁ => wpAny_mono h₁ (fun i s₂ h₂ => ?_) fun _ _ x => x) fun _ _ x => x)
  obtain ⟨hT, h₂⟩ := h₂
  unfold subscriptTail
  refine wpAny_bind ?_
  rw [getitemInPython_of_ne hT.not_modules]
  refine wpAny_bind (wpAny_specialOf hT hl ?_)
  have fin : wpAny (model prog w) A (subscripted slice false o i) (fun r s₃ => wpAny (model prog w) A (letTemporaryGo value o r >>= fun _ => pure r) Q E s₃) E s₂ := by
    rw [hs o i]
    exact wpAny_operating (wpAny_mono h₂ (fun r s₃ h₃ => wpAny_bind (wpAny_letTemporaryGo (wpAny_pure h₃))) fun _ _ x => x)
  first
    | exact wpAny_pure (wpAny_bind fin)
    | exact wpAny_bind (wpAny_pure (wpAny_bind fin))
    | exact wpAny_bind fin

theorem dict_typeIs {X : Cx} {pins : List (Addr × Obj)} {σ : St} {H : Hp} {s : Shared} {a : Addr} {y : V} {o : Option V} (I : Inv X pins σ H s) (g : DGet H a y o) : s.TypeIs (.ref a) "dict" := by
  rcases g with ⟨kvs, k, e, _, _⟩ | ⟨kvs, k, b, e, _, _, _⟩
  · obtain ⟨_, _, vs, _, dd⟩ := dk_rd I.hok e
    exact dd.typeIs
  · obtain ⟨_, _, xs, _, dd⟩ := dt_rd I.hok e
    exact dd.typeIs
theorem dict_noDict {X : Cx} {pins : List (Addr × Obj)} {σ : St} {H : Hp} {s : Shared} {a : Addr} {y : V} {o : Option V} (I : Inv X pins σ H s) (g : DGet H a y o) :
    ∀ b, Value.ref a = .ref b → ∃ ob, s.heap.get? b = some ob ∧ ob.dict = none := fun b q => by
  cases q
  rcases g with ⟨kvs, k, e, _, _⟩ | ⟨kvs, k, b, e, _, _, _⟩
  · obtain ⟨_, _, vs, _, ob, _, _, h1, h2, _⟩ := dk_rd I.hok e
    exact ⟨ob, h1, h2.2.1⟩
  · obtain ⟨_, _, xs, _, ob, _, _, h1, h2, _⟩ := dt_rd I.hok e
    exact ⟨ob, h1, h2.2.1⟩

/-- d[y] -/
def tDGet (td ty : TE) : TE := fun σ H Q => td σ H fun x H1 => ty σ H1 fun y H2 => ∃ a v, x = .ref a ∧ DGet H2 a y (some v) ∧ Q v H2
/-- y in d, y not in d -/
def tDIn (ty td : TE) : TE := fun σ H Q => ty σ H fun y H1 => td σ H1 fun x H2 => ∃ a o, x = .ref a ∧ DGet H2 a y o ∧ Q (.bl o.isSome) H2
def tDNotIn (ty td : TE) : TE := fun σ H Q => ty σ H fun y H1 => td σ H1 fun x H2 => ∃ a o, x = .ref a ∧ DGet H2 a y o ∧ Q (.bl (!o.isSome)) H2
/-- d[y] = v -/
def sDPut (td ty tv : TE) : TS := fun D σ H => tv σ H fun v H1 => td σ H1 fun x H2 => ty σ H2 fun y H3 => ∃ a H4, x = .ref a ∧ DPut H3 a y v H4 ∧ D.nx σ H4
/-- d[y] op= v -/
def sDAug (td ty tv : TE) (rd : V → V → Hp → VK → Prop) : TS := fun D σ H => td σ H fun x H1 => ty σ H1 fun y H2 => ∃ a v, x = .ref a ∧ DGet H2 a y (some v) ∧
  tv σ H2 fun y2 H3 => rd v y2 H3 fun z H4 => ∃ H5, DPut H4 a y z H5 ∧ D.nx σ H5
/-- del d[y] -/
def sDDel (td ty : TE) : TS := fun D σ H => td σ H fun x H1 => ty σ H1 fun y H2 => ∃ a kvs k, x = .ref a ∧ H2 a = some (.dK kvs) ∧ y = kV k ∧ (valV kvs k).isSome = true ∧ D.nx σ (upd H2 a (.dK (dropK kvs k)))

section
variable {X : Cx} {o i e value : Expr} {pos pos' tpos : Pos} {td ty tv : TE}
theorem pe_dget (hu : X.A.units + 1 < cLine) (ho : PE X o td) (hi : PE X i ty) (hs : NoSl i) : PE X (.Subscript o i pos) (tDGet td ty) := by
  intro pins s σ H Q I h
  refine subD_of PySem.F.slot_dict_getitem.lookup hs (thn (ho pins s σ H _ I h) fun u s1 ⟨x, H1, I1, rx, q1⟩ => thn (hi pins s1 σ H1 _ I1 q1) fun iv s2 ⟨y, H2, I2, ry, a, v, ex, g, q2⟩ => ?_)
  subst ex
  obtain rfl : u = Value.ref a := rx
  exact ⟨dict_typeIs I2 g, d_getItem hu I2 g ry fun w' s3 I3 rw' => ⟨v, H2, I3, rw', q2⟩⟩
theorem pc_din (hu : X.A.units + 1 < cLine) (hi : PE X i ty) (ho : PE X o td) : PC X .In i o (tDIn ty td) := by
  intro pins s σ H Q I h
  refine thn (hi pins s σ H _ I h) fun iv s1 ⟨y, H1, I1, ry, q1⟩ => thn (ho pins s1 σ H1 _ I1 q1) fun u s2 ⟨x, H2, I2, rx, a, ov, ex, g, q2⟩ => ?_
  subst ex
  obtain rfl : u = Value.ref a := rx
  exact d_in hu I2 g ry fun s3 I3 => ⟨.bl ov.isSome, H2, I3, rfl, q2⟩
theorem pc_dnotin (hu : X.A.units + 1 < cLine) (hi : PE X i ty) (ho : PE X o td) : PC X .NotIn i o (tDNotIn ty td) := by
  intro pins s σ H Q I h
  refine thn (hi pins s σ H _ I h) fun iv s1 ⟨y, H1, I1, ry, q1⟩ => thn (ho pins s1 σ H1 _ I1 q1) fun u s2 ⟨x, H2, I2, rx, a, ov, ex, g, q2⟩ => ?_
  subst ex
  obtain rfl : u = Value.ref a := rx
  exact d_notIn hu I2 g ry fun s3 I3 => ⟨.bl (!ov.isSome), H2, I3, rfl, q2⟩
theorem ps_dput (hu : X.A.units + 1 < cLine) (ho : PE X o td) (hi : PE X i ty) (hv : PE X value tv) (hs : swapsWith value (some (.Subscript o i pos')) pos.line X.env = pure false) :
    PS X (.Assign [.Subscript o i pos'] value pos) (sDPut td ty tv) := by
  intro pins s σ H D I h
  refine wpAny_Assign_Subscript (thn (hv pins s σ H _ I h) fun r s1 ⟨v, H1, I1, rv, q1⟩ => thn (ho pins s1 σ H1 _ I1 q1) fun u s2 ⟨x, H2, I2, rx, q2⟩ => thn (hi pins s2 σ H2 _ I2 q2) fun iv s3 ⟨y, H3, I3, ry, a, H4, ex, g, q3⟩ => ?_) hs
  subst ex
  obtain rfl : u = Value.ref a := rx
  exact d_setItem hu I3 g ry rv fun s4 I4 => ⟨σ, H4, I4, q3⟩
theorem ps_daug {op : Operator} {rd : V → V → Hp → VK → Prop} (hu : X.A.units + 1 < cLine) (ho : PE X o td) (hi : PE X i ty) (hv : PE X value tv) (hop : InOp X op rd)
    (ha : ∀ ov iv new, augStore i ov iv new = (do holding [new, ov, iv] (setItem ov iv new); release [new, ov, iv] []; pure .next)) : PS X (.AugAssign (.Subscript o i tpos) op value pos) (sDAug td ty tv rd) := by
  intro pins s σ H D I h
  refine wpAny_AugAssign_SubscriptAny (thn (ho pins s σ H _ I h) fun u s1 ⟨x, H1, I1, rx, q1⟩ => thn (hi pins s1 σ H1 _ I1 q1) fun iv s2 ⟨y, H2, I2, ry, a, v, ex, g, q2⟩ => ?_) ha
  subst ex
  obtain rfl : u = Value.ref a := rx
  refine d_getItem hu I2 g ry fun w' s3 I3 rw' => thn (hv pins s3 σ H2 _ I3 q2) fun w2 s4 ⟨y2, H3, I4, ry2, q3⟩ => thn (hop pins s4 σ H3 v y2 w' w2 _ I4 rw' ry2 q3) fun w3 s5 ⟨z, H4, I5, rz, H5, g5, q4⟩ => ?_
  exact d_setItem hu I5 g5 ry rz fun s6 I6 => ⟨σ, H5, I6, q4⟩
theorem ps_ddel (ho : PE X o td) (hi : PE X i ty) : PS X (.Delete [.Subscript o i tpos] pos) (sDDel td ty) := by
  intro pins s σ H D I h
  refine wpAny_Delete (wpAny_deleteEach_cons (wpAny_delete_Subscript (thn (ho pins s σ H _ I h) fun u s1 ⟨x, H1, I1, rx, q1⟩ => thn (hi pins s1 σ H1 _ I1 q1) fun iv s2 ⟨y, H2, I2, ry, a, kvs, k, ex, e, ey, l, q2⟩ => ?_)))
  subst ex ey
  obtain rfl : u = Value.ref a := rx
  exact d_delItem I2 e ry l fun s3 I3 => wpAny_deleteEach_nil ⟨σ, _, I3, q2⟩
end


/-! ### displays -/
theorem dk_empty {P : Program} {w : World} {H : Hp} (h : Heap) (hb : sysModules < h.objs.size) : ObjOk P w H (h.push { cls := .type "dict", data := .dict #[] }) h.objs.size (.dK []) :=
  ⟨Nat.zero_le _, beq_eq_false_iff_ne.mpr (Ne.symm (Nat.ne_of_lt hb)), [], .nil, Heap.DictOf.new h⟩
theorem dt_empty {P : Program} {w : World} {H : Hp} (h : Heap) (hb : sysModules < h.objs.size) : ObjOk P w H (h.push { cls := .type "dict", data := .dict #[] }) h.objs.size (.dT []) :=
  ⟨Nat.zero_le _, beq_eq_false_iff_ne.mpr (Ne.symm (Nat.ne_of_lt hb)), [], .nil, _, #[], 0, Heap.get?_push_size _ rfl, ⟨rfl, rfl, rfl⟩, rfl, rfl, List.nodup_nil⟩
/-- {}, to be a dict of the kind that is wanted -/
def tDNewK : TE := fun _ H Q => ∀ p, H p = none → Q (.ref p) (upd H p (.dK []))
def tDNewT : TE := fun _ H Q => ∀ p, H p = none → Q (.ref p) (upd H p (.dT []))
section
variable {X : Cx} {pos : Pos}
theorem pe_dnewK : PE X (.Dict [] [] pos) tDNewK := fun pins s σ H Q I h =>
  wpAny_Dict_empty ⟨.ref s.heap.objs.size, _, I.laid (a := s.heap.objs.size) (o := .dK []) (t' := s.toks) (fun _ _ q => Heap.get?_push_of_some _ q) (Nat.le_refl _) (dk_empty s.heap I.big), rfl, h _ (I.hok.fresh (Nat.le_refl _))⟩
theorem pe_dnewT : PE X (.Dict [] [] pos) tDNewT := fun pins s σ H Q I h =>
  wpAny_Dict_empty ⟨.ref s.heap.objs.size, _, I.laid (a := s.heap.objs.size) (o := .dT []) (t' := s.toks) (fun _ _ q => Heap.get?_push_of_some _ q) (Nat.le_refl _) (dt_empty s.heap I.big), rfl, h _ (I.hok.fresh (Nat.le_refl _))⟩
end

/-- the pairs of a display, from the left -/
def tPairs : List (TE × TE) → St → Hp → (List (V × V) → Hp → Prop) → Prop
  | [], _, H, Q => Q [] H
  | (tk, tv) :: r, σ, H, Q => tk σ H fun x H1 => tv σ H1 fun y H2 => tPairs r σ H2 fun ps H3 => Q ((x, y) :: ps) H3
abbrev VV : List (V × V) → List (Value × Value) → Prop := Paired fun p q => RelV p.1 q.1 ∧ RelV p.2 q.2
def PPs (X : Cx) (pos : Pos) (keys : List (Option Expr)) (values : List Expr) (trs : List (TE × TE)) : Prop :=
  ∀ (pins : List (Addr × Obj)) (s : Shared) (σ : St) (H : Hp) (Q : List (V × V) → Hp → Prop), Inv X pins σ H s → tPairs trs σ H Q →
    wpAny (model X.prog X.w) X.A (evalPairs (pairTrees keys values X.env pos)) (fun vs s' => ∃ ps H', Inv X pins σ H' s' ∧ VV ps vs ∧ Q ps H') X.xe s
theorem pps_nil {X : Cx} {pos : Pos} : PPs X pos [] [] [] := fun pins s σ H Q I h => pairTrees_nil_walk ⟨[], H, I, .nil, h⟩
theorem pps_cons {X : Cx} {pos : Pos} {k v : Expr} {ks : List (Option Expr)} {vs : List Expr} {tk tv : TE} {trs : List (TE × TE)} (hk : PE X k tk) (hv : PE X v tv) (hr : PPs X pos ks vs trs) :
    PPs X pos (some k :: ks) (v :: vs) ((tk, tv) :: trs) := fun pins s σ H Q I h =>
  pairTrees_cons_walk (thn (hk pins s σ H _ I h) fun u s1 ⟨x, H1, I1, rx, q1⟩ => thn (hv pins s1 σ H1 _ I1 q1) fun w2 s2 ⟨y, H2, I2, ry, q2⟩ =>
    thn (hr pins s2 σ H2 _ I2 q2) fun ws s3 ⟨ps, H3, I3, rel, q3⟩ => ⟨(x, y) :: ps, H3, I3, .cons ⟨rx, ry⟩ rel, q3⟩)

def mergeK (kvs more : List (Key × V)) : List (Key × V) := more.foldl (fun acc kv => putK acc kv.1 kv.2) kvs
theorem KV.merge : ∀ {more : List (Key × V)} {rs : List (Key × Value)} {kvs : List (Key × V)} {vs : List (Key × Value)}, KV more rs → KV kvs vs → KV (mergeK kvs more) (merged vs rs) := by
  intro more rs kvs vs r
  unfold KV at r
  induction r generalizing kvs vs with
  | nil => intro q; exact q
  | @cons p q ps qs h t ih =>
    intro r0
    have e : KV (putK kvs p.1 p.2) (stored vs q.1 q.2) := by
      have := r0.put p.1 h.2
      rw [← h.1]; exact this
    exact ih e
theorem length_mergeK : ∀ (more kvs : List (Key × V)), (mergeK kvs more).length ≤ kvs.length + more.length
  | [], kvs => by show kvs.length ≤ kvs.length + 0; omega
  | p :: r, kvs => by
    have h1 := length_mergeK r (putK kvs p.1 p.2)
    have h2 := length_putK kvs p.1 p.2
    show (mergeK (putK kvs p.1 p.2) r).length ≤ _
    rw [List.length_cons]; omega
theorem carries_of {P : Program} {w : World} : ∀ {kvs : List (Key × V)} {ws : List (Value × Value)}, VV (kvs.map fun kv => (kV kv.1, kv.2)) ws → ∃ rs, Carries (mixKind P w) ws rs ∧ KV kvs rs
  | [], _, r => by rw [List.map_nil] at r; cases r; exact ⟨[], True.intro, .nil⟩
  | p :: kvs, _, r => by
    rw [List.map_cons] at r
    cases r with
    | @cons a b as bs h t =>
      obtain ⟨rs, c, q⟩ := carries_of (P := P) (w := w) t
      obtain ⟨b1, b2⟩ := b
      exact ⟨(p.1, b2) :: rs, ⟨kV_is h.1, rfl, c⟩, .cons ⟨rfl, h.2⟩ q⟩
/-- {k: v, ..} with keys ints and texts; the new dict stands empty while the pairs are made -/
def tDisp (trs : List (TE × TE)) : TE := fun σ H Q => ∀ p, H p = none → tPairs trs σ (upd H p (.dK [])) fun ps H2 => H2 p = some (.dK []) ∧ ∃ kvs : List (Key × V), ps = kvs.map (fun kv => (kV kv.1, kv.2)) ∧ kvs.length ≤ 15 ∧ Q (.ref p) (upd H2 p (.dK (mergeK [] kvs)))
theorem pe_disp {X : Cx} {pos : Pos} {keys : List (Option Expr)} {values : List Expr} {trs : List (TE × TE)} (h : PPs X pos keys values trs) (hall : keys.all (·.isSome) = true) (hl : keys.length = values.length) (h0 : keys ≠ [])
    (h15 : keys.length ≤ 15) : PE X (.Dict keys values pos) (tDisp trs) := by
  intro pins s σ H Q I q
  have hn := I.hok.fresh (Nat.le_refl s.heap.objs.size)
  have I1 := I.laid (a := s.heap.objs.size) (o := .dK []) (h' := s.heap.push { cls := .type "dict", data := .dict #[] }) (t' := s.toks) (fun _ _ q => Heap.get?_push_of_some _ q) (Nat.le_refl _) (dk_empty s.heap I.big)
  refine wpAny_Dict_walk (knd := mixKind X.prog X.w) hall hl h0 h15 (thn (h pins _ σ _ _ I1 (q _ hn)) fun ws s2 ⟨ps, H2, I2, rel, e, kvs, ep, lk, q2⟩ => ?_)
  subst ep
  obtain ⟨rs, c, rk⟩ := carries_of (P := X.prog) (w := X.w) rel
  obtain ⟨z, hd, vs0, r0, dd⟩ := dk_of I2.hok e
  cases r0
  refine ⟨rs, c, dd, fun h' dd' hs => ⟨.ref s.heap.objs.size, _, ?_, rfl, q2⟩⟩
  have hz : (mergeK [] kvs).length ≤ sizeLine := by
    have h1 := length_mergeK kvs []
    rw [List.length_nil] at h1
    rw [sizeLine_eq]; omega
  have he : ∃ q, h'.get? s.heap.objs.size = some q := let ⟨q, _, _, hq, _⟩ := dd'; ⟨q, hq⟩
  exact d_write I2 (by rw [e]; exact True.intro) hs he (dk_new hz hd (rk.merge .nil) dd')


/-! ### methods -/
/-- a method call o.m(e) of a built-in, with one argument: what must be seen of the text -/
structure M1 (X : Cx) (o : Expr) (m : Str) (apos : Pos) (e : Expr) (cpos : Pos) : Prop where
  base : attributeBase o m X.env (eval o X.env) = eval o X.env
  few : ((backTo cpos (starEach [e] X.env)).all (fun x => !x.1) && (backToKw cpos (keywordEach [] X.env)).all (fun x => x.1.isSome)
    && decide (([e] : List Expr).length + ([] : List Keyword).length + (if ([] : List Keyword).isEmpty then 0 else 1) < 30)) = true
  line : (apos.endLine == cpos.line) = true
  trees : backTo cpos (starEach [e] X.env) = [(false, eval e X.env)]
structure M2 (X : Cx) (o : Expr) (m : Str) (apos : Pos) (e f : Expr) (cpos : Pos) : Prop where
  base : attributeBase o m X.env (eval o X.env) = eval o X.env
  few : ((backTo cpos (starEach [e, f] X.env)).all (fun x => !x.1) && (backToKw cpos (keywordEach [] X.env)).all (fun x => x.1.isSome)
    && decide (([e, f] : List Expr).length + ([] : List Keyword).length + (if ([] : List Keyword).isEmpty then 0 else 1) < 30)) = true
  line : (apos.endLine == cpos.line) = true
  trees : backTo cpos (starEach [e, f] X.env) = [(false, eval e X.env), (false, eval f X.env)]

/-- a is a dict, whatever its keys -/
def IsD (H : Hp) (a : Addr) : Prop := (∃ kvs, Rd H a (.dK kvs)) ∨ ∃ kvs, Rd H a (.dT kvs)
theorem isD_at {X : Cx} {pins : List (Addr × Obj)} {σ : St} {H : Hp} {s : Shared} {a : Addr} (I : Inv X pins σ H s) (d : IsD H a) :
    s.TypeIs (.ref a) "dict" ∧ (∀ b, Value.ref a = .ref b → ∃ ob, s.heap.get? b = some ob ∧ ob.dict = none) ∧ (a == sysModules) = false := by
  rcases d with ⟨kvs, e⟩ | ⟨kvs, e⟩
  · obtain ⟨_, hd, vs, _, dd⟩ := dk_rd I.hok e
    refine ⟨dd.typeIs, fun b q => ?_, hd⟩
    cases q
    obtain ⟨ob, _, _, h1, h2, _⟩ := dd
    exact ⟨ob, h1, h2.2.1⟩
  · obtain ⟨_, hd, xs, _, dd⟩ := dt_rd I.hok e
    refine ⟨dd.typeIs, fun b q => ?_, hd⟩
    cases q
    obtain ⟨ob, _, _, h1, h2, _⟩ := dd
    exact ⟨ob, h1, h2.2.1⟩

section
variable {X : Cx} {pins : List (Addr × Obj)} {σ : St} {H : Hp} {s : Shared} {a : Addr} {y d : V} {u r : Value} {o : Option V} {A : Around} {E : Value → Shared → Prop}
/-- d.get(y) -/
theorem d_get1 {Q : Value → Shared → Prop} (hu : A.units + 1 < cLine) (I : Inv X pins σ H s) (g : DGet H a y o) (ry : RelV y u) (h : ∀ w' s', Inv X pins σ H s' → RelV (o.getD .non) w' → Q w' s') :
    wpAny (model X.prog X.w) A (call (.builtin "dict.get") [.ref a, u]) Q E s := by
  rcases g with ⟨kvs, k, e, ey, l⟩ | ⟨kvs, k, b, e, ey, eb, l⟩
  · subst ey
    obtain ⟨z, hd, vs, rel, dd⟩ := dk_rd I.hok e
    refine call_meetsIn PySem.F.slot_dict_get dd.typeIs PySem.F.entry_dict_get (PySem.F.args_dict_get_2 _ _) (meets_dict_get (mixKind X.prog X.w) a (kV_is ry) hd) ⟨_, dd.mapOf, h _ _ (I.tok _) ?_⟩
    rw [l]
    exact (rel.val k).getD rfl
  · subst ey
    cases (show u = Value.ref b from ry)
    obtain ⟨z, hd, xs, rel, dd⟩ := dt_rd I.hok e
    refine call_meetsIn PySem.F.slot_dict_get dd.typeIs PySem.F.entry_dict_get (PySem.F.args_dict_get_2 _ _) (meetsH_dict_get (tupleKind (mixKind X.prog X.w)) a b hd) ⟨tupleKind_room_in1 hu, k, xs, key_of I.hok eb, dd, h _ _ (I.tok _) ?_⟩
    rw [l]
    exact (rel.val k).getD rfl
/-- d.get(y, x) -/
theorem d_get2 {Q : Value → Shared → Prop} (hu : A.units + 1 < cLine) (I : Inv X pins σ H s) (g : DGet H a y o) (ry : RelV y u) (rd : RelV d r) (h : ∀ w' s', Inv X pins σ H s' → RelV (o.getD d) w' → Q w' s') :
    wpAny (model X.prog X.w) A (call (.builtin "dict.get") [.ref a, u, r]) Q E s := by
  rcases g with ⟨kvs, k, e, ey, l⟩ | ⟨kvs, k, b, e, ey, eb, l⟩
  · subst ey
    obtain ⟨z, hd, vs, rel, dd⟩ := dk_rd I.hok e
    refine call_meetsIn PySem.F.slot_dict_get dd.typeIs PySem.F.entry_dict_get (PySem.F.args_dict_get_3 _ _ _) (meets_dict_get_default (mixKind X.prog X.w) a (kV_is ry) hd r) ⟨_, dd.mapOf, h _ _ (I.tok _) ?_⟩
    rw [l]
    exact (rel.val k).getD rd
  · subst ey
    cases (show u = Value.ref b from ry)
    obtain ⟨z, hd, xs, rel, dd⟩ := dt_rd I.hok e
    refine call_meetsIn PySem.F.slot_dict_get dd.typeIs PySem.F.entry_dict_get (PySem.F.args_dict_get_3 _ _ _) (meetsH_dict_get_default (tupleKind (mixKind X.prog X.w)) a b hd r) ⟨tupleKind_room_in1 hu, k, xs, key_of I.hok eb, dd, h _ _ (I.tok _) ?_⟩
    rw [l]
    exact (rel.val k).getD rd
end

def tDGet1 (td ty : TE) : TE := fun σ H Q => td σ H fun x H1 => ∃ a, x = .ref a ∧ IsD H1 a ∧ ty σ H1 fun y H2 => ∃ o, DGet H2 a y o ∧ Q (o.getD .non) H2
def tDGet2 (td ty tx : TE) : TE := fun σ H Q => td σ H fun x H1 => ∃ a, x = .ref a ∧ IsD H1 a ∧ ty σ H1 fun y H2 => tx σ H2 fun z H3 => ∃ o, DGet H3 a y o ∧ Q (o.getD z) H3
/-- d.pop(k): there; d.pop(k, x): there or not -/
def tDPop1 (td ty : TE) : TE := fun σ H Q => td σ H fun x H1 => ∃ a, x = .ref a ∧ IsD H1 a ∧ ty σ H1 fun y H2 => ∃ kvs k v, H2 a = some (.dK kvs) ∧ y = kV k ∧ valV kvs k = some v ∧ Q v (upd H2 a (.dK (dropK kvs k)))
def tDPop2 (td ty tx : TE) : TE := fun σ H Q => td σ H fun x H1 => ∃ a, x = .ref a ∧ IsD H1 a ∧ ty σ H1 fun y H2 => tx σ H2 fun z H3 => ∃ kvs k, H3 a = some (.dK kvs) ∧ y = kV k ∧
  (∀ v, valV kvs k = some v → Q v (upd H3 a (.dK (dropK kvs k)))) ∧ (valV kvs k = none → Q z H3)
section
variable {X : Cx} {o e f : Expr} {apos cpos : Pos} {td ty tx : TE}
theorem pe_dget1 (hu : X.A.units + 1 < cLine) (ho : PE X o td) (he : PE X e ty) (m : M1 X o "get" apos e cpos) : PE X (.Call (.Attribute o "get" apos) [e] [] cpos) (tDGet1 td ty) := by
  intro pins s σ H Q I h
  refine wpAny_Call_method m.base m.few m.line PySem.F.plainAttrs_dict PySem.F.slot_dict_get PySem.F.type_dict_get (thn (ho pins s σ H _ I h) fun u s1 ⟨x, H1, I1, rx, a, ex, d, q1⟩ => ?_)
  subst ex
  obtain rfl : u = Value.ref a := rx
  obtain ⟨t1, t2, _⟩ := isD_at I1 d
  refine ⟨t1, t2, ?_⟩
  rw [m.trees]
  refine Calls.callWith_builtin rfl (Calls.evalArgs_plain (Calls.spliced_cons (thn (he pins s1 σ H1 _ I1 q1) fun iv s2 ⟨y, H2, I2, ry, ov, g, q2⟩ => Calls.spliced_nil ?_)))
  exact d_get1 hu I2 g ry fun w' s3 I3 rw' => ⟨_, H2, I3, rw', q2⟩
theorem pe_dget2 (hu : X.A.units + 1 < cLine) (ho : PE X o td) (he : PE X e ty) (hf : PE X f tx) (m : M2 X o "get" apos e f cpos) : PE X (.Call (.Attribute o "get" apos) [e, f] [] cpos) (tDGet2 td ty tx) := by
  intro pins s σ H Q I h
  refine wpAny_Call_method m.base m.few m.line PySem.F.plainAttrs_dict PySem.F.slot_dict_get PySem.F.type_dict_get (thn (ho pins s σ H _ I h) fun u s1 ⟨x, H1, I1, rx, a, ex, d, q1⟩ => ?_)
  subst ex
  obtain rfl : u = Value.ref a := rx
  obtain ⟨t1, t2, _⟩ := isD_at I1 d
  refine ⟨t1, t2, ?_⟩
  rw [m.trees]
  refine Calls.callWith_builtin rfl (Calls.evalArgs_plain (Calls.spliced_cons (thn (he pins s1 σ H1 _ I1 q1) fun iv s2 ⟨y, H2, I2, ry, q2⟩ =>
    Calls.spliced_cons (thn (hf pins s2 σ H2 _ I2 q2) fun fv s3 ⟨z, H3, I3, rz, ov, g, q3⟩ => Calls.spliced_nil ?_))))
  exact d_get2 hu I3 g ry rz fun w' s4 I4 rw' => ⟨_, H3, I4, rw', q3⟩
theorem pe_dpop1 (ho : PE X o td) (he : PE X e ty) (m : M1 X o "pop" apos e cpos) : PE X (.Call (.Attribute o "pop" apos) [e] [] cpos) (tDPop1 td ty) := by
  intro pins s σ H Q I h
  refine wpAny_Call_method m.base m.few m.line PySem.F.plainAttrs_dict PySem.F.slot_dict_pop PySem.F.type_dict_pop (thn (ho pins s σ H _ I h) fun u s1 ⟨x, H1, I1, rx, a, ex, d, q1⟩ => ?_)
  subst ex
  obtain rfl : u = Value.ref a := rx
  obtain ⟨t1, t2, _⟩ := isD_at I1 d
  refine ⟨t1, t2, ?_⟩
  rw [m.trees]
  refine Calls.callWith_builtin rfl (Calls.evalArgs_plain (Calls.spliced_cons (thn (he pins s1 σ H1 _ I1 q1) fun iv s2 ⟨y, H2, I2, ry, kvs, k, v, ea, ey, l, q2⟩ => Calls.spliced_nil ?_)))
  subst ey
  exact d_pop I2 ea ry l (.inl rfl) fun w' s3 I3 rw' => ⟨v, _, I3, rw', q2⟩
theorem pe_dpop2 (ho : PE X o td) (he : PE X e ty) (hf : PE X f tx) (m : M2 X o "pop" apos e f cpos) : PE X (.Call (.Attribute o "pop" apos) [e, f] [] cpos) (tDPop2 td ty tx) := by
  intro pins s σ H Q I h
  refine wpAny_Call_method m.base m.few m.line PySem.F.plainAttrs_dict PySem.F.slot_dict_pop PySem.F.type_dict_pop (thn (ho pins s σ H _ I h) fun u s1 ⟨x, H1, I1, rx, a, ex, d, q1⟩ => ?_)
  subst ex
  obtain rfl : u = Value.ref a := rx
  obtain ⟨t1, t2, _⟩ := isD_at I1 d
  refine ⟨t1, t2, ?_⟩
  rw [m.trees]
  refine Calls.callWith_builtin rfl (Calls.evalArgs_plain (Calls.spliced_cons (thn (he pins s1 σ H1 _ I1 q1) fun iv s2 ⟨y, H2, I2, ry, q2⟩ =>
    Calls.spliced_cons (thn (hf pins s2 σ H2 _ I2 q2) fun fv s3 ⟨z, H3, I3, rz, kvs, k, ea, ey, q3, q4⟩ => Calls.spliced_nil ?_))))
  subst ey
  cases l : valV kvs k with
  | some v => exact d_pop I3 ea ry l (.inr ⟨fv, rfl⟩) fun w' s4 I4 rw' => ⟨v, _, I4, rw', q3 v l⟩
  | none => exact d_popD I3 ea ry l fun s4 I4 => ⟨z, H3, I4, rz, q4 l⟩
end

/-! ### dict(d): a copy -/
section
variable {X : Cx} {pins : List (Addr × Obj)} {σ : St} {H : Hp} {s : Shared} {a : Addr} {kvs : List (Key × V)} {A : Around} {E : Value → Shared → Prop}
theorem d_copyOf {Q : Value → Shared → Prop} (I : Inv X pins σ H s) (e : Rd H a (.dK kvs)) (h : ∀ p s', H p = none → Inv X pins σ (upd H p (.dK kvs)) s' → Q (.ref p) s') : wpAny (model X.prog X.w) A (call (.type "dict") [.ref a]) Q E s := by
  obtain ⟨z, hd, vs, rel, dd⟩ := dk_rd I.hok e
  refine kt_call_dict hd dd (by rw [← rel.length]; exact z) fun h' dd' hs => ?_
  refine h _ _ (I.hok.fresh (Nat.le_refl _)) (I.laid (a := s.heap.objs.size) (o := .dK kvs) (t' := s.toks) (fun b q hq => ?_) (Nat.le_refl _) (dk_new z (beq_eq_false_iff_ne.mpr (Ne.symm (Nat.ne_of_lt I.big))) rel dd'))
  exact (hs.2 b (Nat.ne_of_lt (Heap.lt_size hq))).trans (Heap.get?_push_of_some _ hq)
end


section
variable {X : Cx} {pins : List (Addr × Obj)} {σ : St} {H : Hp} {s : Shared} {a : Addr} {y : V} {u : Value} {A : Around} {E : Value → Shared → Prop}
/-- d[y], not there: a KeyError -/
theorem d_missing {Q : Value → Shared → Prop} (hu : A.units + 1 < cLine) (hh : A.handled = none) (I : Inv X pins σ H s) (g : DGet H a y none) (ry : RelV y u)
    (h : ∀ h' e t', Heap.NewExc s.heap h' e "KeyError" → E (.ref e) { s with heap := h', toks := t' }) : wpAny (model X.prog X.w) A (getItem (.ref a) u) Q E s := by
  rcases g with ⟨kvs, k, e, ey, l⟩ | ⟨kvs, k, b, e, ey, eb, l⟩
  · subst ey
    obtain ⟨z, hd, vs, rel, dd⟩ := dk_rd I.hok e
    have hn : valueAt vs k = none := RelO.none_of (by rw [l]; exact rel.val k)
    exact wpAny_getItem_missing_of (kV_is ry) hd hh dd.mapOf hn fun h' ex ne => h h' ex _ ne
  · subst ey
    cases (show u = Value.ref b from ry)
    obtain ⟨z, hd, xs, rel, dd⟩ := dt_rd I.hok e
    have hn : (atKey xs k).map (·.2) = none := RelO.none_of (by rw [l]; exact rel.val k)
    exact wpAny_getItem_missing_heap (tupleKind_room_in1 hu) (key_of I.hok eb) hd hh dd (Option.map_eq_none_iff.mp hn) fun h' ex ne => h h' ex _ ne
end
end L2

namespace Att
open PySem PySem.W PySem.Calls PyProof.Rows

/-! ### the script -/
theorem ints_of_wellAll {P : Params} {h : Heap} : ∀ (ns : List Int) (vs : List Value), WellAll P h vs (ns.map WData.int) → IntsAre vs ns := by
  intro ns
  induction ns with
  | nil =>
    intro vs w
    rw [List.map_nil] at w
    cases w
    exact .nil
  | cons n ns ih =>
    intro vs w
    rw [List.map_cons] at w
    cases w with
    | cons a b =>
      cases a
      exact .cons _ _ (ih _ b)

theorem script_of {l : OpenLaw} {n : Nat} (hn : l.most = some n) {P : Params} {h : Heap} {args : List WData} {vals : List Value}
    (hpre : l.row.toRowW.claim.pre args = true) (hwl : WellAll P h vals args) :
    ∃ a vs ns, vals = [Value.ref a] ∧ args = [WData.list (ns.map WData.int)] ∧ h.get? a = some { cls := .type "list", data := .seq vs.toArray } ∧ IntsAre vs ns ∧ ns.length ≤ n := by
  have hsh : WShape.hasAll [] args [.list .int] = true := (pre_splitW hpre).1
  have hc : l.pre.holds [] { args := args } = true := (pre_splitW hpre).2
  obtain ⟨d, r, rfl, h1, h2⟩ := hasAllW_cons hsh
  obtain rfl := hasAllW_nil h2
  obtain ⟨xs, rfl, h3⟩ := hasW_list h1
  obtain ⟨ns, rfl⟩ := items_int h3
  have hlen : ns.length ≤ n := by
    unfold OpenLaw.pre at hc
    have h4 : (WTm.not (.lt (.lit (.int (n : Int))) (.len (.arg 0)))).holds [] { args := [.list (ns.map .int)] } = true := by
      have h4 := (holds_andW hc).1
      rw [hn] at h4
      exact h4
    have h5 := condW_of h4 (w_not (w_lt w_lit (w_len_list (w_arg rfl))))
    rw [List.length_map] at h5
    refine Nat.le_of_not_lt fun q => ?_
    have q' : (n : Int) < ((ns.length : Nat) : Int) := by omega
    first
      | (rw [decide_eq_true q'] at h5; exact absurd h5 (by decide))
      | (simp at h5; omega)
  cases hwl with
  | cons w1 w2 =>
    cases w2
    cases w1 with
    | list ho hall => exact ⟨_, _, ns, rfl, rfl, ho, ints_of_wellAll ns _ hall, hlen⟩

theorem post_true (l : OpenLaw) (args : List WData) : l.row.toRowW.claim.post args (.bool true) args = true :=
  postW_of (r := l.row.toRowW) (X := (true == true))
    (show WShape.has [] (.bool true) .bool = true by first | rfl | decide | simp [WShape.has, WShape.arms, WShape.armsAll])
    (show (WTm.eq .res (.lit (.bool true))).value [] { args := args, res := some (.bool true), after := args } = some (.bool (true == true)) from w_eq_bool (w_res rfl) w_lit) rfl

/-! ### the attachment: holds_open's last premise (the goal 'hc' behind k_head) from a wpAny of the law's body -/
theorem attach {l : OpenLaw} {n : Nat} {q : Program} {loose : List Str} {XP : (Str → Option Value) → Heap → Prop} {YP : World → Heap → Prop} {d : DefRec} {x : Str}
    (hn : l.most = some n) (hdf : d.params.defaults = [])
    (hbind : ∀ pm cd doc v : Value, bindArgs (docDef d.name d.params d.body d.scope pm cd doc) ⟨[v], []⟩ = pure [(x, v)])
    (hx : d.scope.names.lookup x = some .local ∨ d.scope.names.lookup x = some .cell)
    (hk : d.scope.kind = .function) (hco : d.scope.isCoroutine = false) (hgen : d.scope.isGenerator = false)
    (body : ∀ (w : World) (s₀ s₁ s : Shared) (mg mb : Str → Option Value) (fa : Addr) (o : Obj) (pm cd doc : Value) (a : Addr) (vs : List Value) (ns : List Int),
      Ground q loose [] XP w s₀ mg mb s₁.heap → YP w s₁.heap →
      s₁.heap.get? fa = some o → o.data = .func (docDef d.name d.params d.body d.scope pm cd doc) → s₁.heap.CodeRec cd d.name → mg d.name = some (.ref fa) →
      s₁.heap.get? a = some { cls := .type "list", data := .seq vs.toArray } → IntsAre vs ns → ns.length ≤ n →
      s.gens = #[] → s.os = s₁.os →
      Fr s₁.heap s₁.heap.objs.size s.heap (bindL (envOfC d.name d.scope s₁.heap.objs.size fa cd).kindOf [(x, .ref a)] fun _ => none) →
      Cl s₁.heap.objs.size (cellsFrom (s₁.heap.objs.size + 1) d.scope.names []) s.heap (bindC (envOfC d.name d.scope s₁.heap.objs.size fa cd).kindOf [(x, .ref a)] fun _ => none) →
      wpAny (model l.prog w) (callerA.deeper (envOfC d.name d.scope s₁.heap.objs.size fa cd)) (execs d.body (envOfC d.name d.scope s₁.heap.objs.size fa cd))
        (fun f s' => f = .ret (.bool true) ∧ OldK s₁.heap s'.heap ∧ s'.os = s₁.os ∧ AllBare s'.gens) (fun _ _ => False) s) :
    WalkO q loose XP YP l.row.toRowW d [] (fun f vs => PySem.call f vs) := by
  intro w s₀ s₁ mg mb G Y fa o pm cd doc dV kV ho hd hcd hD hmg hg args vals as hpre hlay hrd hwl hlo
  obtain rfl : dV = .none := Dflts.none hD hdf
  obtain rfl : kV = .none := Dflts.noKw hD
  obtain ⟨a, vs, ns, rfl, rfl, hobj, hints, hlen⟩ := script_of hn hpre hwl
  refine enter_call ?_
  refine call_cells_ret (o := o) (by rw [depth_caller]; decide) ho (fd_plain hd) G.T.nolimit hcd (hbind pm cd doc (.ref a)) (fun y hy => ?_) (fun h₁ tk F X => ?_) hco hgen hk
  · obtain rfl : y = (x, Value.ref a) := List.mem_singleton.mp hy
    rcases hx with e | e
    · exact .inl e
    · exact .inr ⟨e, cellsFrom_some _ _ _ (.inl e)⟩
  · refine wpAny_mono (body w s₀ s₁ { s₁ with heap := h₁, toks := tk } mg mb fa o pm cd doc a vs ns G Y ho (fd_plain hd) hcd hmg hobj hints hlen hg rfl F X) (fun f s' hq => ?_) (fun _ _ hq => hq)
    obtain ⟨rfl, h2, h3, h4⟩ := hq
    exact ⟨.inl ⟨.bool true, .bool true, [], rfl, fun _ => rfl, .bool true, post_true l _, fun _ => ⟨List.Pairwise.nil, fun _ hm => (nomatch hm)⟩⟩, h2, h3, h4⟩

/-- the same from a codeAny of the CALL (for a layer whose function contracts speak of calls) -/
theorem attach_call {l : OpenLaw} {n : Nat} {q : Program} {loose : List Str} {XP : (Str → Option Value) → Heap → Prop} {YP : World → Heap → Prop} {d : DefRec}
    (hn : l.most = some n) (hdf : d.params.defaults = [])
    (call : ∀ (w : World) (s₀ s₁ : Shared) (mg mb : Str → Option Value) (fa : Addr) (o : Obj) (pm cd doc : Value) (a : Addr) (vs : List Value) (ns : List Int),
      Ground q loose [] XP w s₀ mg mb s₁.heap → YP w s₁.heap →
      s₁.heap.get? fa = some o → o.data = .func (docDef d.name d.params d.body d.scope pm cd doc) → s₁.heap.CodeRec cd d.name → mg d.name = some (.ref fa) →
      s₁.heap.get? a = some { cls := .type "list", data := .seq vs.toArray } → IntsAre vs ns → ns.length ≤ n → s₁.gens = #[] →
      codeAny (model l.prog w) callerA (.call (.ref fa) ⟨[.ref a], []⟩) (fun r s' => r = .ok (.ret (.bool true)) ∧ OldK s₁.heap s'.heap ∧ s'.os = s₁.os ∧ AllBare s'.gens) s₁) :
    WalkO q loose XP YP l.row.toRowW d [] (fun f vs => PySem.call f vs) := by
  intro w s₀ s₁ mg mb G Y fa o pm cd doc dV kV ho hd hcd hD hmg hg args vals as hpre hlay hrd hwl hlo
  obtain rfl : dV = .none := Dflts.none hD hdf
  obtain rfl : kV = .none := Dflts.noKw hD
  obtain ⟨a, vs, ns, rfl, rfl, hobj, hints, hlen⟩ := script_of hn hpre hwl
  refine enter_call (codeAny_mono (call w s₀ s₁ mg mb fa o pm cd doc a vs ns G Y ho (fd_plain hd) hcd hmg hobj hints hlen hg) fun r s' hq => ?_)
  obtain ⟨rfl, h2, h3, h4⟩ := hq
  exact ⟨.inl ⟨.bool true, .bool true, [], rfl, fun _ => rfl, .bool true, post_true l _, fun _ => ⟨List.Pairwise.nil, fun _ hm => (nomatch hm)⟩⟩, h2, h3, h4⟩

/-- the same where the top left finished generators (o_head chose holds_openN): nothing may have changed at all and no generator may be left -/
theorem attachN {l : OpenLaw} {n : Nat} {q : Program} {loose : List Str} {XP : (Str → Option Value) → Heap → Prop} {YP : World → Heap → Prop} {d : DefRec} {x : Str}
    (hn : l.most = some n) (hdf : d.params.defaults = [])
    (hbind : ∀ pm cd doc v : Value, bindArgs (docDef d.name d.params d.body d.scope pm cd doc) ⟨[v], []⟩ = pure [(x, v)])
    (hx : d.scope.names.lookup x = some .local ∨ d.scope.names.lookup x = some .cell)
    (hk : d.scope.kind = .function) (hco : d.scope.isCoroutine = false) (hgen : d.scope.isGenerator = false)
    (body : ∀ (w : World) (s₀ s₁ s : Shared) (mg mb : Str → Option Value) (fa : Addr) (o : Obj) (pm cd doc : Value) (a : Addr) (vs : List Value) (ns : List Int),
      Ground q loose [] XP w s₀ mg mb s₁.heap → YP w s₁.heap →
      s₁.heap.get? fa = some o → o.data = .func (docDef d.name d.params d.body d.scope pm cd doc) → s₁.heap.CodeRec cd d.name → mg d.name = some (.ref fa) →
      s₁.heap.get? a = some { cls := .type "list", data := .seq vs.toArray } → IntsAre vs ns → ns.length ≤ n →
      s.gens = #[] → s.os = s₁.os →
      Fr s₁.heap s₁.heap.objs.size s.heap (bindL (envOfC d.name d.scope s₁.heap.objs.size fa cd).kindOf [(x, .ref a)] fun _ => none) →
      Cl s₁.heap.objs.size (cellsFrom (s₁.heap.objs.size + 1) d.scope.names []) s.heap (bindC (envOfC d.name d.scope s₁.heap.objs.size fa cd).kindOf [(x, .ref a)] fun _ => none) →
      wpAny (model l.prog w) (callerA.deeper (envOfC d.name d.scope s₁.heap.objs.size fa cd)) (execs d.body (envOfC d.name d.scope s₁.heap.objs.size fa cd))
        (fun f s' => f = .ret (.bool true) ∧ (∀ b o, s₁.heap.get? b = some o → s'.heap.get? b = some o) ∧ s'.os = s₁.os ∧ s'.gens = #[]) (fun _ _ => False) s) :
    WalkN q loose XP YP l.row.toRowW d [] (fun f vs => PySem.call f vs) := by
  intro w s₀ s₁ mg mb G Y fa o pm cd doc dV kV ho hd hcd hD hmg hg args vals as hpre hlay hrd hwl hlo
  obtain rfl : dV = .none := Dflts.none hD hdf
  obtain rfl : kV = .none := Dflts.noKw hD
  obtain ⟨a, vs, ns, rfl, rfl, hobj, hints, hlen⟩ := script_of hn hpre hwl
  refine enter_callW ?_
  refine call_cells_ret (o := o) (by rw [depth_caller]; decide) ho (fd_plain hd) G.T.nolimit hcd (hbind pm cd doc (.ref a)) (fun y hy => ?_) (fun h₁ tk F X => ?_) hco hgen hk
  · obtain rfl : y = (x, Value.ref a) := List.mem_singleton.mp hy
    rcases hx with e | e
    · exact .inl e
    · exact .inr ⟨e, cellsFrom_some _ _ _ (.inl e)⟩
  · refine wpAny_mono (body w s₀ s₁ { s₁ with heap := h₁, toks := tk } mg mb fa o pm cd doc a vs ns G Y ho (fd_plain hd) hcd hmg hobj hints hlen hg rfl F X) (fun f s' hq => ?_) (fun _ _ hq => hq)
    obtain ⟨rfl, h2, h3, h4⟩ := hq
    exact ⟨.inl ⟨.bool true, .bool true, [], rfl, fun _ => rfl, .bool true, post_true l _, fun _ => ⟨List.Pairwise.nil, fun _ hm => (nomatch hm)⟩⟩, h2, h3, h4⟩

/-! ### rules over ANY heap (no ledger) from facts about the written part K: the library's own take a ledger (News) for what they write -/
section
variable {prog : Program} {w : World} {A : Around} {E : Value → Shared → Prop} {s : Shared} {K : Frag}

/-- a def of the module, or a method (qual 'C.m'), entered: the frame is the next address; cells behind it -/
theorem call_fn {R : Result → Shared → Prop} {name qual : Str} {params : Arguments} {body : List Stmt} {scope : Scope} {dV kV doc pm cdv ct oc : Value} {an od : Option Addr} {osl : Array (Option Value)} {f : Addr} {args : Args} {binds : List (Str × Value)}
    (X : K.In s.heap) (hlim : s.heap.NoLimit) (ho : K.lookup f = some ⟨oc, od, .func (fnOf name qual params body scope dV kV doc pm an cdv ct), osl⟩) (hcd : codeIn K cdv qual = true) (hroom : A.depth < recursionLimit)
    (hbind : BindsTo s (fnOf name qual params body scope dV kV doc pm an cdv ct) args binds)
    (hkind : (binds.all fun y => scope.names.lookup y.1 == some .local || scope.names.lookup y.1 == some .cell) = true)
    (h : ∀ s₁, InCallC s s.heap.objs.size (bindL (envOfC qual scope s.heap.objs.size f cdv).kindOf binds fun _ => none) (cellsFrom (s.heap.objs.size + 1) scope.names [])
        (bindC (envOfC qual scope s.heap.objs.size f cdv).kindOf binds fun _ => none) s₁ →
      wpAny (model prog w) (A.deeper (envOfC qual scope s.heap.objs.size f cdv)) (execs body (envOfC qual scope s.heap.objs.size f cdv))
        (fun fl s' => R (.ok (.ret (match fl with | .ret v => v | _ => .none))) s')
        (fun e s' => wpAny (model prog w) (A.deeper (envOfC qual scope s.heap.objs.size f cdv)) (leaving (envOfC qual scope s.heap.objs.size f cdv) e) (fun _ s'' => R (.error e) s'') (fun e' s'' => R (.error e') s'') s') s₁)
    (hco : scope.isCoroutine = false) (hgen : scope.isGenerator = false) (hk : scope.kind = .function) : codeAny (model prog w) A (.call (.ref f) args) R s := by
  refine codeAny_call_function hroom (X _ _ ho) rfl hco hgen rfl (codeRec_of X hcd) (hbind _ _ _ _ ?_)
  refine wpAny_newFunctionEnv_cells hk (kindsX hkind _) fun env he s₁ x => ?_
  subst he
  exact ⟨hlim.keeps x.toInCall.keep, codeAny_func (h s₁ x)⟩

/-- C(..): dict at size, instance at size + 1, then __init__ -/
theorem make_obj {R : Result → Shared → Prop} {C fI : Addr} {rest : List Value} {kw : List (Str × Value)}
    (X : K.In s.heap) (hm : makesIn K C = true) (hi : findIn K (.ref C) "__init__" = some (some (.ref fI))) (hf : isFn K (.ref fI) = true)
    (h : codeAny (model prog w) (A.under (.builtin "type.__call__" ⟨.ref C :: rest, kw⟩)) (.call (.ref fI) ⟨.ref (s.heap.objs.size + 1) :: rest, kw⟩) (InitBack (s.heap.objs.size + 1) R)
      { s with heap := (s.heap.push emptyDict).push (instObj C s.heap.objs.size) }) : codeAny (model prog w) A (.call (.ref C) ⟨rest, kw⟩) R s := by
  obtain ⟨hh, g, d, t, os⟩ := s
  exact make_core (makes_of X hm) (looks_findIn X hi) (fun self => bind_fn X self (beq_iff_eq.mp hf)) (.inl rfl) h

/-- x.name where the instance's dict holds the name and the class does not -/
theorem get_field {x C : Addr} {ox : Obj} {es : List DictEntry} {n : Nat} {name : Str} {expr : Bool} {v : Value} {Q : Value → Shared → Prop}
    (X : K.In s.heap) (I : PySem.W.InstAt s.heap x ox C (some (dictOf es n))) (hg : plainGet K C name = true) (hh : hasDictIn K C = true) (ha : findIn K (.ref C) name = some none)
    (hl : getL name es = some (some v)) (hv : handedIn v = true) (h : Q v { s with toks := s.toks + 1 }) : wpAny (model prog w) A (getAttr (.ref x) name expr) Q E s :=
  get_value X I (plainGet_of hg).1 (findObj_own hh ha rfl hl) hv h

/-- x.m(..): the method found in the class -/
theorem get_method {x C f : Addr} {ox : Obj} {es : List DictEntry} {n : Nat} {name : Str} {pl : Sem Bool} {Q : Value × List Value → Shared → Prop}
    (X : K.In s.heap) (I : PySem.W.InstAt s.heap x ox C (some (dictOf es n))) (hg : plainGet K C name = true) (hf : findIn K (.ref C) name = some (some (.ref f))) (ht : isFn K (.ref f) = true)
    (hl : getL name es = some none) (h : Q (.ref f, [.ref x]) s) : wpAny (model prog w) A (getMethod (.ref x) name pl) Q E s :=
  method_fn X I (plainGet_of hg).1 (plainGet_of hg).2 hf (beq_iff_eq.mp ht) (by show (lookIn name (dictOf es n)).map _ = _; rw [lookIn_dict, hl]; rfl) h

/-! the whole heap as the ledger: makes every rule that writes through a ledger a rule over any heap -/
def noObjs (h : Heap) : Heap := { h with objs := #[] }
theorem noObjs_get (h : Heap) (b : Addr) : (noObjs h).get? b = none := by
  cases e : (noObjs h).get? b with
  | none => rfl
  | some o => exact absurd (Heap.lt_size e) (Nat.not_lt_zero _)
def ledger (h : Heap) (L d : Addr) : List (Addr × Obj) := (List.range h.objs.size).filterMap fun a => if a = L ∨ a = d then none else (h.get? a).map fun o => (a, o)
theorem mem_ledger {h : Heap} {L d a : Addr} {o : Obj} : (a, o) ∈ ledger h L d ↔ a ≠ L ∧ a ≠ d ∧ h.get? a = some o := by
  unfold ledger
  rw [List.mem_filterMap]
  constructor
  · rintro ⟨b, _, e⟩
    split at e
    · cases e
    · rename_i hb
      obtain ⟨o', ho, e'⟩ := Option.map_eq_some_iff.mp e
      cases e'
      exact ⟨fun q => hb (.inl q), fun q => hb (.inr q), ho⟩
  · rintro ⟨n1, n2, ho⟩
    refine ⟨a, List.mem_range.mpr (Heap.lt_size ho), ?_⟩
    rw [if_neg (show ¬ (a = L ∨ a = d) from fun q => q.elim n1 n2), ho] <;> rfl
theorem news_ledger {h : Heap} {L d : Addr} {od : Obj} (hne : d ≠ L) (ho : h.get? d = some od) : News (noObjs h) L h ([] ++ (d, od) :: ledger h L d) := by
  rintro ⟨a, o⟩ hp
  rcases List.mem_cons.mp hp with e | hp
  · cases e
    exact ⟨ho, hne, noObjs_get _ _⟩
  · obtain ⟨n1, n2, e⟩ := mem_ledger.mp hp
    exact ⟨e, n1, noObjs_get _ _⟩
theorem fr_all {h : Heap} {L : Addr} {m : Str → Option Value} (n : h.Ns L m) : Fr (noObjs h) L h m :=
  ⟨n, fun b o e => (by rw [noObjs_get] at e; cases e), Nat.zero_le _⟩
/-- Upd of the head entry (for append_K, setItem_K ..) -/
theorem upd_ledger {h : Heap} {L d : Addr} {o o' : Obj} : Upd d o o' ((d, o) :: ledger h L d) ((d, o') :: ledger h L d) :=
  .head fun ⟨_, _⟩ hp => (mem_ledger.mp hp).2.1

/-- x.name = v over any heap: L is any namespace of the heap (the frame's, say): its map stays, its object is not told; all else but the dict stays -/
theorem set_field {x C dx L : Addr} {ox : Obj} {m : Str → Option Value} {es es' : List DictEntry} {n n' : Nat} {name : Str} {v : Value} {Q : Unit → Shared → Prop}
    (X : K.In s.heap) (I : PySem.W.InstAt s.heap x ox C (some (dictOf es n))) (hd : ox.dict = some dx) (hL : s.heap.Ns L m) (hne : dx ≠ L)
    (hs : findIn K (.ref C) "__setattr__" = some (some (.builtin "object.__setattr__"))) (hp : plainOver K C = true) (ht : takerIn K C name = some none) (hh : hasDictIn K C = true) (hl : (getL name es).isSome = true)
    (e : (putL name (PyData.keyHash w.params name) (.str name (s.toks + 1)) v es, putN name es n) = (es', n')) (hz : es'.length ≤ 1000)
    (h : ∀ h' : Heap, h'.Ns L m → h'.get? dx = some (dictOf es' n') → (∀ b o, b ≠ dx → b ≠ L → s.heap.get? b = some o → h'.get? b = some o) → Q () { s with heap := h', toks := s.toks + 2 }) :
    wpAny (model prog w) A (setAttr (.ref x) name v) Q E s := by
  obtain ⟨e1, e2⟩ := Prod.mk.inj e
  have hdx : s.heap.get? dx = some (dictOf es n) := by
    have := I.dict
    rw [hd] at this
    exact this
  refine set_plain X I hs (osa_dict (s := { s with toks := s.toks + 1 }) (h₀ := noObjs s.heap) (L := L) (m := m) (od := dictOf es n) (od' := dictOf es' n') (es := es') (n := n') (pre := []) (post := ledger s.heap L dx)
    (fr_all hL) (news_ledger hne hdx) X I hd hp ht hh hl (fun _ q => nomatch q) (fun ⟨_, _⟩ q => (mem_ledger.mp q).2.1) (by rw [putName_dict, e1, e2]) rfl hz fun h' F' N' => ?_)
  exact h h' F'.ns (N'.get (List.Mem.head _)) fun b o n1 n2 ho => N'.get (List.Mem.tail _ (mem_ledger.mpr ⟨n2, n1, ho⟩))
end
end Att

namespace L2
open PySem PySem.Spec PyProof.Rows

theorem vals_ints : ∀ {vs : List Value} {ns : List Int}, IntsAre vs ns → Vals (ns.map V.int) vs
  | _, _, .nil => .nil
  | _, _, .cons n t h => .cons ⟨t, rfl⟩ (vals_ints h)

/-- nothing is tracked but the script, known to the object (or it is an object of the module) -/
def Only (H : Hp) : Prop := ∀ b, H b = none ∨ ∃ o xs, H b = some (.frz o (.lst xs))

/-- THE HEAD: the law's promise, at the heap behind the top. F, the promise of the law's def, may use that base is part of the heap (so K.In base, base.Ns mainGlobals mg stand in Mod) -/
theorem law_call {P : Program} {w : World} {K : PySem.W.Frag} {mg mb : Str → Option Value} {CX : CXT} {k : Nat} {fa a : Addr} {fd : FuncData} {x : Str} {sp : Sp} {s₁ : Shared} {vs : List Value} {ns : List Int}
    (KX : K.In s₁.heap) (hns : s₁.heap.Ns mainGlobals mg) (hb : s₁.heap.Ns builtinsNs mb) (hbb : ∀ x : Str, x ≠ "__name__" → mb x = bootBuiltins x) (hlim : s₁.heap.NoLimit) (hg : s₁.gens = #[])
    (ha : s₁.heap.get? a = some { cls := .type "list", data := .seq vs.toArray }) (hi : IntsAre vs ns) (hl : ns.length ≤ sizeLine) (hr : Room k callerA)
    (F : ∀ base : Heap, K.In base → base.Ns mainGlobals mg → FnOk P w K mg base CX k fa fd [x] sp) (hbind : ∀ (s : Shared) (u : Value), BindsTo s fd ⟨[u], []⟩ [(x, u)])
    (hsp : ∀ H : Hp, Only H → SqL K H a (ns.map V.int) → sp [.ref a] H (fun v _ => v = .bl true) fun _ _ _ => False)
    (hCX : ∀ H e s', CX [] H s₁ (fun _ _ _ => False) e s' → False) :
    codeAny (model P w) callerA (.call (.ref fa) ⟨[.ref a], []⟩) (fun r s' => r = .ok (.ret (.bool true)) ∧ OldK s₁.heap s'.heap ∧ s'.os = s₁.os ∧ AllBare s'.gens) s₁ := by
  have rv := vals_ints hi
  have lenV := hi.length
  -- from an abstract heap in which nothing but the script may be tracked
  have core : ∀ H : Hp, Only H → SqL K H a (ns.map V.int) → HOk P w H s₁.heap → (∀ b, H b ≠ none → b = a) → (H a ≠ none → K.lookup a = none) →
      codeAny (model P w) callerA (.call (.ref fa) ⟨[.ref a], []⟩) (fun r s' => r = .ok (.ret (.bool true)) ∧ OldK s₁.heap s'.heap ∧ s'.os = s₁.os ∧ AllBare s'.gens) s₁ := by
    intro H hO hS hok hA hK
    have base_of : ∀ {b : Addr} {o : Obj}, s₁.heap.get? b = some o → H b = none → (hidT s₁.heap H).get? b = some o := fun e n => hidT_get e n
    have noA : ∀ {b : Addr} {o : Obj} {es : Array DictEntry} {ep : Nat}, s₁.heap.get? b = some o → o.data = .dict es ep → H b = none := fun {b o es ep} e d => by
      cases q : H b with
      | none => rfl
      | some u =>
        have e' : b = a := hA b (by rw [q]; simp)
        subst e'
        rw [ha] at e; cases e
        have d' : Data.seq vs.toArray _ = Data.dict es ep := d
        cases d'
    have nsK : ∀ {b : Addr} {m : Str → Option Value}, s₁.heap.Ns b m → (hidT s₁.heap H).Ns b m := fun {b m} ⟨o, es, ep, e, d, r⟩ => ⟨o, es, ep, base_of e (noA e d), d, r⟩
    have hKb : K.In (hidT s₁.heap H) := fun b o e => base_of (KX b o e) (by
      cases q : H b with
      | none => rfl
      | some u =>
        have e' : b = a := hA b (by rw [q]; simp)
        subst e'
        rw [hK (by rw [q]; simp)] at e; cases e)
    have hM : Mod K mg (hidT s₁.heap H) := ⟨hKb, nsK hns, ⟨mb, nsK hb, hbb⟩, let ⟨mc, h1, h2⟩ := hlim; ⟨mc, nsK h1, h2⟩⟩
    have e0 : Env0 P w K mg (hidT s₁.heap H) callerA [] s₁ H := ⟨rfl, hM, fun b o e => of_hidT e, Nat.le_of_eq (hidT_size _ _), trivial, fun b hb => absurd (show b ∈ ([] : List Addr) from hb) (by simp), hok, .of_eq hg⟩
    refine codeAny_mono ((F _ hKb (nsK hns)).run callerA [] s₁ H ⟨[.ref a], []⟩ [.ref a] [.ref a] _ _ hr e0 (hbind s₁ (.ref a)) (.cons rfl .nil) (hsp H hO hS)) fun r s' h => ?_
    cases r with
    | error e => exact (hCX H e s' h).elim
    | ok fl =>
      cases fl with
      | next => exact False.elim h
      | brk => exact False.elim h
      | cont => exact False.elim h
      | ret u =>
        obtain ⟨v, H', os, bare, un, hok', r', q⟩ := h
        have q' : v = .bl true := q
        subst q'
        obtain rfl : u = Value.bool true := r'
        refine ⟨rfl, OldK.of_keep fun b o e => ?_, os, bare⟩
        cases q : H b with
        | none => exact un.keep b o e q (by intro z; exact absurd (show b ∈ ([] : List Addr) from z) (by simp)) (by simp)
        | some u =>
          rcases hO b with z | ⟨ob, xs, z⟩
          · rw [q] at z; cases z
          · have z2 := un.frzs b ob _ z
            obtain ⟨e1, _⟩ := hok b _ z
            obtain ⟨e2, _⟩ := hok' b _ z2
            rw [e] at e1; cases e1
            exact e2
  cases hk : K.lookup a with
  | some o =>
    -- the script is one of the module's own objects
    have e := KX a o hk
    rw [ha] at e
    cases e
    refine core (fun _ => none) (fun _ => .inl rfl) (.inr ⟨_, vs.toArray, _, hk, rfl, rfl, rfl, by rw [List.size_toArray, lenV]; exact hl, by simpa using rv⟩) (fun b u z => by have z' : (none : Option HO) = some u := z; cases z') (fun b z => absurd rfl z) fun z => absurd rfl z
  | none =>
    refine core (fun b => if b = a then some (.frz { cls := .type "list", data := .seq vs.toArray } (.lst (ns.map V.int))) else none) (fun b => ?_) (.inl (.inr ⟨{ cls := .type "list", data := .seq vs.toArray }, if_pos rfl⟩)) (fun b u z => ?_) (fun b z => ?_) fun _ => hk
    · by_cases hb : b = a
      · exact .inr ⟨_, _, if_pos hb⟩
      · exact .inl (if_neg hb)
    · by_cases hb : b = a
      · have z' := (if_pos hb).symm.trans z
        cases z'
        subst hb
        exact ⟨ha, by rw [List.length_map]; exact hl, vs, _, rv, ha⟩
      · have z' := (if_neg hb).symm.trans z
        cases z'
    · by_cases hb : b = a
      · exact hb
      · exact absurd (if_neg hb) z
end L2

namespace L2
open PySem PySem.Spec PyProof.Rows

abbrev KOf {K : PySem.W.Frag} {h : Heap} (_ : K.In h) : PySem.W.Frag := K

/-- the goal that k_head leaves (case hc), from the law's promise. F gives the function object fd (K's own) once, then the promise over every base -/
theorem walk_of {l : PySem.W.OpenLaw} {n k : Nat} {q : Program} {loose : List Str} {XP : (Str → Option Value) → Heap → Prop} {YP : World → Heap → Prop} {d : DefRec} {K : Params → PySem.W.Frag} {CX : World → CXT} {sp : World → Sp} {x : Str}
    (hn : l.most = some n) (hn2 : n ≤ sizeLine) (hdf : d.params.defaults = []) (hr : Room k callerA)
    (hY : ∀ (w : World) (h : Heap), YP w h → (K w.params).In h)
    (F : ∀ (w : World) (mg : Str → Option Value) (fa : Addr) (h : Heap), (K w.params).In h → h.Ns mainGlobals mg → mg d.name = some (.ref fa) →
      ∃ fd : FuncData, (∀ (s : Shared) (u : Value), BindsTo s fd ⟨[u], []⟩ [(x, u)]) ∧
        ∀ base : Heap, (K w.params).In base → base.Ns mainGlobals mg → FnOk l.prog w (K w.params) mg base (CX w) k fa fd [x] (sp w))
    (hsp : ∀ (w : World) (H : Hp) (a : Addr) (ns : List Int), ns.length ≤ n → Only H → SqL (K w.params) H a (ns.map V.int) → sp w [.ref a] H (fun v _ => v = .bl true) fun _ _ _ => False)
    (hCX : ∀ (w : World) (H : Hp) (s : Shared) (e : Value) (s' : Shared), CX w [] H s (fun _ _ _ => False) e s' → False) :
    PySem.W.WalkO q loose XP YP l.row.toRowW d [] (fun f vs => PySem.call f vs) := by
  refine Att.attach_call hn hdf fun w s₀ s₁ mg mb fa o pm cd doc a vs ns G Y ho hd hcd hmg hobj hints hlen hg => ?_
  have KX := hY w _ Y
  obtain ⟨fd, hb, hF⟩ := F w mg fa _ KX G.T.g hmg
  exact law_call KX G.T.g G.T.b G.T.builtins G.T.nolimit hg hobj hints (Nat.le_trans hlen hn2) hr hF hb (fun H hO hS => hsp w H a ns hlen hO hS) fun H e s' => hCX w H s₁ e s'
/-- the same where the promise hangs on the written part alone: (sp := My.sp_law), no hole under a binder -/
theorem walk_ofK {l : PySem.W.OpenLaw} {n k : Nat} {q : Program} {loose : List Str} {XP : (Str → Option Value) → Heap → Prop} {YP : World → Heap → Prop} {d : DefRec} {K : Params → PySem.W.Frag} {CX : CXT} {sp : PySem.W.Frag → Sp} {x : Str}
    (hn : l.most = some n) (hn2 : n ≤ sizeLine) (hdf : d.params.defaults = []) (hr : Room k callerA)
    (hY : ∀ (w : World) (h : Heap), YP w h → (K w.params).In h)
    (F : ∀ (w : World) (mg : Str → Option Value) (fa : Addr) (h : Heap), (K w.params).In h → h.Ns mainGlobals mg → mg d.name = some (.ref fa) →
      ∃ fd : FuncData, (∀ (s : Shared) (u : Value), BindsTo s fd ⟨[u], []⟩ [(x, u)]) ∧
        ∀ base : Heap, (K w.params).In base → base.Ns mainGlobals mg → FnOk l.prog w (K w.params) mg base CX k fa fd [x] (sp (K w.params)))
    (hsp : ∀ (K : PySem.W.Frag) (H : Hp) (a : Addr) (ns : List Int), ns.length ≤ n → Only H → SqL K H a (ns.map V.int) → sp K [.ref a] H (fun v _ => v = .bl true) fun _ _ _ => False)
    (hCX : ∀ (H : Hp) (s : Shared) (e : Value) (s' : Shared), CX [] H s (fun _ _ _ => False) e s' → False) :
    PySem.W.WalkO q loose XP YP l.row.toRowW d [] (fun f vs => PySem.call f vs) :=
  walk_of (K := K) (CX := fun _ => CX) (sp := fun w => sp (K w.params)) hn hn2 hdf hr hY F (fun w H a ns h1 h2 h3 => hsp (K w.params) H a ns h1 h2 h3) fun _ H s e s' => hCX H s e s'
end L2

/- THE LAST THEOREM (shape; LID, My.* are yours):
   My.Adr: a structure of the addresses that your layer names (classes, functions); My.Txt K t: a structure (Prop) of the equations over K;
   My.txt_mk : {K} {implicit addresses ..} (e1 : nsIn K mainGlobals "law" = some (some (.ref f))) (e2 : K.lookup f = some ⟨oc, od, .func (fnOf "law" "law" params body scope dV kV doc pm an cdv ct), sl⟩) (e3 : codeIn K cdv "law" = true) .. : ∃ t, My.Txt K t

set_option maxRecDepth 100000 in
set_option maxHeartbeats 0 in
theorem PySem.Challenge.cw_LID_holds : PySem.Challenge.rw_LID.Holds := by
  w_on; o_law; k_head; (case hw => w_witness2)
  k_fill
  refine L2.walk_of (l := PySem.Challenge.rw_LID) (n := 63) (k := 40) (x := "script") (CX := fun w => ..) (sp := fun _ => My.sp_law) rfl (by decide) rfl ⟨rfl, by decide, by decide⟩ (fun w h Y => PySem.W.kIn_of Y) ?F ?S ?C
  case F =>
    intro w mg fa h KX G hmg
    have T : ∃ t, My.Txt (L2.KOf KX) t := by
      dsimp only [L2.KOf]                          -- K must stand as «<heap const> w.params» for k_is
      refine' My.txt_mk ?e1 ?e2 ?e3 ..
      (case e1 => PySem.W.k_is)                    -- in the order: a name -> its address -> its object -> its parts
      (case e2 => PySem.W.k_is)
      ..
    obtain ⟨t, T⟩ := T
    have e0 := hmg.symm.trans (PySem.W.mg_of KX G T.law)
    cases e0                                       -- fa is the law's own address
    exact ⟨_, fun s u => .of_eq rfl, fun base kb nb => My.law_fn T kb nb⟩     -- if «.of_eq rfl» comes too early: refine' ⟨_, ?b, fun base kb nb => My.law_fn T kb nb⟩; exact fun s u => .of_eq rfl
  case S => exact fun w H a ns hl hO hS => ..
  case C => exact ..
(the tactic k_is has no namespace: write k_is) -/

/-! SHORT WORDS over the layer: a def of the text, its body, what a loop and a test want. -/
namespace L2
open PySem PySem.Spec PyProof.Rows

/-! ### the text by places -/
/-- the j-th statement of a class's body -/
def inClass (s : Stmt) (j : Nat) : Stmt := match s with
  | .ClassDef _ _ _ body _ _ _ _ _ _ _ => body.getD j (.Pass ⟨0, 0, 0, 0⟩)
  | _ => .Pass ⟨0, 0, 0, 0⟩
def defArgs (s : Stmt) : Arguments := match s with
  | .FunctionDef _ a _ _ _ _ _ _ _ _ => a
  | _ => { posonlyargs := [], args := [], vararg := none, kwonlyargs := [], kw_defaults := [], kwarg := none, defaults := [] }
def defBody (s : Stmt) : List Stmt := match s with
  | .FunctionDef _ _ b _ _ _ _ _ _ _ => b
  | _ => []
def defScope (s : Stmt) : Scope := match s with
  | .FunctionDef _ _ _ _ _ _ sc _ _ _ => sc
  | _ => { kind := .function, names := [], isGenerator := false, isCoroutine := false }

/-! ### no exception leaves a def -/
abbrev CX0 : CXT := fun _ _ _ _ _ _ => False
abbrev E0 : XK := fun _ _ _ => False
theorem pass0 {X : Cx} : Passes CX0 X E0 := fun _ _ _ _ _ _ _ h => h.elim

/-! ### a def (or method) of the text as it stands behind the top -/
structure Fun (K : PySem.W.Frag) (x qual : Str) (st : Stmt) (f : Addr) (fd : FuncData) : Prop where
  ex : ∃ (oc : Value) (od : Option Addr) (kV doc pm : Value) (an : Option Addr) (cdv ct : Value) (osl : Array (Option Value)),
    fd = PySem.W.fnOf x qual (defArgs st) (defBody st) (defScope st) .none kV doc pm an cdv ct ∧ K.lookup f = some ⟨oc, od, .func fd, osl⟩ ∧ PySem.W.codeIn K cdv qual = true
  kp : PySem.W.keepIn K (.ref f) = true
section
variable {P : Program} {w : World} {K : PySem.W.Frag} {mg : Str → Option Value} {base : Heap}
/-- THE RULE for a def: its body as a term of rules, and the reading of that term -/
theorem Fun.ok {x qual : Str} {st : Stmt} {f : Addr} {fd : FuncData} {N ps : List Str} {k : Nat} {sp : Sp} (F : Fun K x qual st f fd) (S : FnScope N ps (defScope st)) (len : ∀ vs H Q E, sp vs H Q E → vs.length = ps.length)
    (hbody : ∀ (cdv : Value) (A : Around) (outer : List Env) (s : Shared) (H : Hp) (vs : List V) (Q : VK) (E : XK), Room k (A.deeper (envOfC qual (defScope st) s.heap.objs.size f cdv)) → sp vs H Q E →
      ∃ t, PSs (cxOf CX0 P w K mg base N qual (defScope st) f cdv A outer s H E).nox (defBody st) t ∧ t { nx := fun _ H' => Q .non H', rt := Q } (start N vs) H) : FnOk P w K mg base CX0 (k + 1) f fd ps sp := by
  obtain ⟨oc, od, kV, doc, pm, an, cdv, ct, osl, rfl, lk, hcd⟩ := F.ex
  refine fn_of lk hcd S len fun A outer s H vs Q E hr hsp => ?_
  obtain ⟨t, h, q⟩ := hbody cdv A outer s H vs Q E hr hsp
  exact ⟨t, h.nox, q⟩
/-- how its arguments bind (no defaults): h is «fun _ _ _ _ _ _ us hl => match us, hl with | [_, _], _ => rfl», one _ a parameter -/
theorem Fun.binds {x qual : Str} {st : Stmt} {f : Addr} {fd : FuncData} {ps : List Str} (F : Fun K x qual st f fd)
    (h : ∀ (kV doc pm : Value) (an : Option Addr) (cdv ct : Value) (us : List Value), us.length = ps.length → bindArgs (PySem.W.fnOf x qual (defArgs st) (defBody st) (defScope st) .none kV doc pm an cdv ct) ⟨us, []⟩ = pure (ps.zip us)) : Binds K fd ps [] := by
  obtain ⟨oc, od, kV, doc, pm, an, cdv, ct, osl, rfl, lk, hcd⟩ := F.ex
  exact .all (h kV doc pm an cdv ct)
theorem fun_mk {x qual : Str} {st : Stmt} {f : Addr} {oc : Value} {od an : Option Addr} {osl : Array (Option Value)} {kV doc pm cdv ct : Value} (l : K.lookup f = some ⟨oc, od, .func (PySem.W.fnOf x qual (defArgs st) (defBody st) (defScope st) .none kV doc pm an cdv ct), osl⟩)
    (c : PySem.W.codeIn K cdv qual = true) (k : PySem.W.keepIn K (.ref f) = true) : Fun K x qual st f (PySem.W.fnOf x qual (defArgs st) (defBody st) (defScope st) .none kV doc pm an cdv ct) := ⟨⟨oc, od, kV, doc, pm, an, cdv, ct, osl, rfl, l, c⟩, k⟩
end
theorem hu_of {A : Around} {k : Nat} (hr : Room k A) : A.units + 1 < cLine := Nat.lt_of_le_of_lt (Nat.add_le_add_left (by decide : 1 ≤ 64) _) hr.units
theorem small1000 {n : Nat} (h : n ≤ 1000) : n < sizeLine := Nat.lt_of_le_of_lt h (by decide)

/-! ### expressions in short: the name that stands in the i-th slot -/
section
variable {X : Cx}
theorem pv (i : Nat) {x : Str} {pos : Pos} (hN : X.N[i]? = some x := by rfl) (hv : Vis X.env.scope x := by first | exact Or.inl rfl | exact Or.inr (Or.inl rfl) | exact Or.inr (Or.inr rfl)) (hd : (x == ("__debug__" : Str)) = false := by decide)
    (hcd : (x == ("__classdict__" : Str)) = false := by decide) : PE X (.Name x pos) (tVar i) := pe_var hN hv hd hcd
/-- len of a dict -/
theorem call_lenD : CallR X (.builtin "len") (fun xs H Q => ∃ a kvs, xs = [V.ref a] ∧ H a = some (.dK kvs) ∧ Q (.int kvs.length) H) := by
  intro pins s σ H xs us Q I r h
  obtain ⟨a, kvs, rfl, ha, q⟩ := h
  obtain ⟨u, rfl, ru⟩ := vals1 r
  cases ru
  exact d_len I (.inl ha) fun t s' I' => ⟨.int kvs.length, H, I', ⟨t, rfl⟩, q⟩
end

/-! ### tests -/
theorem iteF {A B : Prop} (h : B) : if false = true then A else B := by
  rw [if_neg Bool.false_ne_true]
  exact h
theorem iteT {A B : Prop} (h : A) : if true = true then A else B := by
  rw [if_pos rfl]
  exact h
theorem ite2 {c A B : Prop} [Decidable c] (h1 : c → A) (h2 : ¬ c → B) : if c then A else B := by
  by_cases h : c
  · rw [if_pos h]
    exact h1 h
  · rw [if_neg h]
    exact h2 h
theorem iteNS {c A B : Prop} [Decidable c] (hc : c) (h : B) : if (!decide c) = true then A else B := by
  rw [decide_eq_true hc]
  exact iteF h

/-! ### heaps -/
/-- all that was tracked is as it was -/
def Same (H H' : Hp) : Prop := ∀ b o, H b = some o → H' b = some o
theorem Same.refl (H : Hp) : Same H H := fun _ _ h => h
theorem Same.trans {H H1 H2 : Hp} (a : Same H H1) (b : Same H1 H2) : Same H H2 := fun c o h => b c o (a c o h)
theorem Same.free {H H' : Hp} (e : Same H H') {l : Addr} (h : H' l = Option.none) : H l = Option.none := by
  cases q : H l with
  | none => rfl
  | some o =>
    rw [e l o q] at h
    cases h
theorem Same.seq {K : PySem.W.Frag} {H H' : Hp} {a : Addr} {xs : List V} (e : Same H H') (h : SqL K H a xs) : SqL K H' a xs := by
  rcases h with (h | ⟨o, h⟩) | h
  · exact .inl (.inl (e _ _ h))
  · exact .inl (.inr ⟨o, e _ _ h⟩)
  · exact .inr h

/-! ### a dict's pairs: keys that differ -/
section
variable {κ : Type} [DecidableEq κ]
theorem valV_not {kvs : List (κ × V)} {k : κ} (h : valV kvs k = none) : ¬ k ∈ kvs.map (·.1) := by
  intro m
  obtain ⟨p, hp, e⟩ := List.mem_map.mp m
  have q : (kvs.any fun kv => decide (kv.1 = k)) = true := List.any_eq_true.mpr ⟨p, hp, decide_eq_true e⟩
  rw [valV_any, h] at q
  exact absurd q (by simp)
theorem valV_in {kvs : List (κ × V)} {k : κ} {v : V} (h : valV kvs k = some v) : k ∈ kvs.map (·.1) := by
  have q : (kvs.any fun kv => decide (kv.1 = k)) = true := by
    rw [valV_any, h]
    all_goals rfl
  obtain ⟨p, hp, e⟩ := List.any_eq_true.mp q
  exact List.mem_map.mpr ⟨p, hp, of_decide_eq_true e⟩
theorem nd_snoc : ∀ {l : List κ} {k : κ}, l.Nodup → ¬ k ∈ l → (l ++ [k]).Nodup
  | [], k, _, _ => by simp
  | a :: r, k, h, hk => by
    obtain ⟨h1, h2⟩ := List.nodup_cons.mp h
    show (a :: (r ++ [k])).Nodup
    refine List.nodup_cons.mpr ⟨fun m => ?_, nd_snoc h2 fun m => hk (List.mem_cons.mpr (Or.inr m))⟩
    rcases List.mem_append.mp m with q | q
    · exact h1 q
    · exact hk (List.mem_cons.mpr (Or.inl (List.mem_singleton.mp q).symm))
theorem nd_putK {kvs : List (κ × V)} {k : κ} (v : V) (hn : (kvs.map (·.1)).Nodup) (h : valV kvs k = none) : ((putK kvs k v).map (·.1)).Nodup := by
  rw [putK_new v h, List.map_append]
  exact nd_snoc hn (valV_not h)
theorem dropK_pos {p : κ × V} {r : List (κ × V)} {k : κ} (e : p.1 = k) : dropK (p :: r) k = dropK r k := by
  unfold dropK
  rw [List.filter_cons, if_neg (by simp [e])]
theorem dropK_neg {p : κ × V} {r : List (κ × V)} {k : κ} (e : ¬ p.1 = k) : dropK (p :: r) k = p :: dropK r k := by
  unfold dropK
  rw [List.filter_cons, if_pos (by simp [e])]
theorem dropK_no : ∀ {kvs : List (κ × V)} {k : κ}, ¬ k ∈ kvs.map (·.1) → dropK kvs k = kvs
  | [], _, _ => rfl
  | p :: r, k, h => by
    have h' : ¬ k ∈ r.map (·.1) := fun m => by
      obtain ⟨q, hq, e⟩ := List.mem_map.mp m
      exact h (List.mem_map.mpr ⟨q, List.mem_cons.mpr (Or.inr hq), e⟩)
    rw [dropK_neg fun e => h (List.mem_map.mpr ⟨p, List.mem_cons.mpr (Or.inl rfl), e⟩), dropK_no h']
theorem dropK_mem {kvs : List (κ × V)} {k : κ} {p : κ × V} (h : p ∈ dropK kvs k) : p ∈ kvs := (List.mem_filter.mp h).1
theorem nd_dropK : ∀ {kvs : List (κ × V)} {k : κ}, (kvs.map (·.1)).Nodup → ((dropK kvs k).map (·.1)).Nodup
  | [], _, _ => List.nodup_nil
  | p :: r, k, h => by
    have h : (p.1 :: r.map (·.1)).Nodup := h
    obtain ⟨h1, h2⟩ := List.nodup_cons.mp h
    by_cases e : p.1 = k
    · rw [dropK_pos e]
      exact nd_dropK h2
    · rw [dropK_neg e]
      show (p.1 :: (dropK r k).map (·.1)).Nodup
      refine List.nodup_cons.mpr ⟨fun m => h1 ?_, nd_dropK h2⟩
      obtain ⟨q, hq, eq⟩ := List.mem_map.mp m
      exact List.mem_map.mpr ⟨q, dropK_mem hq, eq⟩
theorem dropK_len : ∀ {kvs : List (κ × V)} {k : κ}, (kvs.map (·.1)).Nodup → k ∈ kvs.map (·.1) → (dropK kvs k).length + 1 = kvs.length
  | [], _, _, m => by simp at m
  | p :: r, k, h, m => by
    have h : (p.1 :: r.map (·.1)).Nodup := h
    have m : k = p.1 ∨ k ∈ r.map (·.1) := List.mem_cons.mp m
    obtain ⟨h1, h2⟩ := List.nodup_cons.mp h
    by_cases e : p.1 = k
    · subst e
      rw [dropK_pos rfl, dropK_no h1]
      all_goals rfl
    · have m' : k ∈ r.map (·.1) := m.resolve_left fun z => e z.symm
      have q := dropK_len h2 m'
      rw [dropK_neg e, List.length_cons, List.length_cons]
      omega
end
end L2

set_option Elab.async false
set_option linter.all false
set_option maxRecDepth 100000
set_option maxHeartbeats 4000000
/-! list comprehensions over the hand layer: one clause, at most one test, no exception leaves -/
namespace L2
open PySem PySem.Spec PyProof.Rows

theorem forIn_yield_fold {α β : Type} {f : α → β → Sem (ForInStep β)} (g : β → α → β) : ∀ (l : List α) (c : β), (∀ x ∈ l, ∀ c, f x c = pure (.yield (g c x))) → forIn l c f = pure (l.foldl g c)
  | [], c, _ => rfl
  | x :: l, c, h => by
    rw [List.forIn_cons, h x List.mem_cons_self, pure_bind]
    exact forIn_yield_fold g l (g c x) fun y hy => h y (List.mem_cons_of_mem _ hy)

/-- the cells that a block closes over -/
def closF (cells : List (Str × Addr)) (c : List (Str × Addr)) (x : Str × NameKind) : List (Str × Addr) :=
  if x.2 == .free then (match cells.lookup x.1 with | some a => (x.1, a) :: c | none => c) else c
def closOf (env : Env) (sc : Scope) : List (Str × Addr) := sc.names.foldl (closF env.cells) []
theorem closureFor_is {scope : Scope} {env : Env} (h : ∀ x ∈ scope.names, x.2 = .free → ∃ c, env.cells.lookup x.1 = some c) : closureFor scope env = pure (closOf env scope) := by
  simp only [closureFor]
  rw [forIn_yield_fold (closF env.cells) scope.names [] (fun x hx c => ?_)]
  · rfl
  · obtain ⟨n, k⟩ := x
    unfold closF
    cases hk : (k == NameKind.free) with
    | true =>
      have e : k = .free := by simpa using hk
      obtain ⟨a, ha⟩ := h (n, k) hx e
      have ha' : env.cells.lookup n = some a := ha
      simp only [hk, if_true, cellOf, ha', pure_bind]
    | false => simp only [hk, Bool.false_eq_true, if_false]
theorem lookup_pair {β : Type} (x n : Str) (a : β) (l : List (Str × β)) : List.lookup x ((n, a) :: l) = if x = n then some a else List.lookup x l := by
  by_cases h : x = n
  · have hb : (x == n) = true := beq_iff_eq.mpr h
    simp only [List.lookup_cons, hb, if_pos h]
  · have hb : (x == n) = false := beq_eq_false_iff_ne.mpr h
    simp only [List.lookup_cons, hb, if_neg h]
theorem clos_sub {cells : List (Str × Addr)} : ∀ (names : List (Str × NameKind)) (acc : List (Str × Addr)), (∀ x c, acc.lookup x = some c → cells.lookup x = some c) →
    ∀ x c, (names.foldl (closF cells) acc).lookup x = some c → cells.lookup x = some c
  | [], acc, h => h
  | (n, k) :: r, acc, h => clos_sub r _ fun x c e => by
    unfold closF at e
    by_cases hk : ((n, k).2 == NameKind.free) = true
    · rw [if_pos hk] at e
      dsimp only at e
      cases q : cells.lookup n with
      | none => rw [q] at e; exact h x c e
      | some a =>
        rw [q] at e
        dsimp only at e
        rw [lookup_pair] at e
        by_cases hx : x = n
        · rw [if_pos hx] at e; rw [hx, q]; exact e
        · rw [if_neg hx] at e; exact h x c e
    · rw [if_neg hk] at e; exact h x c e
theorem clos_mono {cells : List (Str × Addr)} : ∀ (names : List (Str × NameKind)) (acc : List (Str × Addr)) (x : Str), (∃ c, acc.lookup x = some c) → ∃ c, (names.foldl (closF cells) acc).lookup x = some c
  | [], acc, x, h => h
  | (n, k) :: r, acc, x, h => clos_mono r _ x (by
    obtain ⟨c, h⟩ := h
    unfold closF
    by_cases hk : ((n, k).2 == NameKind.free) = true
    · rw [if_pos hk]
      dsimp only
      cases q : cells.lookup n with
      | none => exact ⟨c, h⟩
      | some a =>
        dsimp only
        rw [lookup_pair]
        by_cases hx : x = n
        · exact ⟨a, by rw [if_pos hx]⟩
        · exact ⟨c, by rw [if_neg hx]; exact h⟩
    · rw [if_neg hk]; exact ⟨c, h⟩)
theorem clos_has {cells : List (Str × Addr)} {x : Str} {c : Addr} (hc : cells.lookup x = some c) : ∀ (names : List (Str × NameKind)) (acc : List (Str × Addr)), (x, NameKind.free) ∈ names → ∃ c, (names.foldl (closF cells) acc).lookup x = some c
  | [], acc, h => by cases h
  | (n, k) :: r, acc, h => by
    rcases List.mem_cons.mp h with e | e
    · cases e
      refine clos_mono r _ x ⟨c, ?_⟩
      unfold closF
      rw [if_pos (by rfl)]
      dsimp only
      rw [hc]
      dsimp only
      rw [lookup_pair, if_pos rfl]
    · exact clos_has hc r _ e
theorem clos_at {env : Env} {sc : Scope} {x : Str} {c : Addr} (hc : env.cells.lookup x = some c) (hm : (x, NameKind.free) ∈ sc.names) : (closOf env sc).lookup x = some c := by
  obtain ⟨c', h⟩ := clos_has hc sc.names [] hm
  have e := clos_sub sc.names [] (fun x c e => by cases e) x c' h
  rw [hc] at e; cases e
  exact h
theorem clos_of {env : Env} {sc : Scope} {x : Str} {c : Addr} (h : (closOf env sc).lookup x = some c) : env.cells.lookup x = some c :=
  clos_sub sc.names [] (fun x c e => by cases e) x c h

/-- the kinds in a block -/
def relK (env : Env) (x : Str) (k : NameKind) : NameKind := if (k == .free && env.scope.kind == .function && env.kindOf x == some .cell) then .cell else k
theorem relabel_lookup {env : Env} (x : Str) : ∀ names : List (Str × NameKind),
    (names.map fun (n, k) => if (k == NameKind.free && env.scope.kind == .function && env.kindOf n == some .cell) then (n, NameKind.cell) else (n, k)).lookup x = (names.lookup x).map (relK env x)
  | [] => rfl
  | (n, k) :: r => by
    have ih := relabel_lookup (env := env) x r
    rw [List.map_cons]
    have e : (if (k == NameKind.free && env.scope.kind == .function && env.kindOf n == some .cell) = true then (n, NameKind.cell) else (n, k)) = (n, relK env n k) := by
      unfold relK
      split <;> rfl
    dsimp only
    rw [e, lookup_pair, lookup_pair]
    by_cases hx : x = n
    · rw [if_pos hx, if_pos hx, hx]; rfl
    · rw [if_neg hx, if_neg hx]; exact ih
theorem comp_lookup {env : Env} {scope : Scope} {cl : List (Str × Addr)} {C : Addr} (x : Str) : (compEnvC scope cl C env).scope.names.lookup x = (scope.names.lookup x).map (relK env x) := relabel_lookup x scope.names

/-- where a block's names get their values -/
def srcSt (src : List (Option Nat)) (σ : St) : St := src.map fun o => o.bind fun i => (σ[i]?).join
/-- what is asked of a block's names: sc, N the def's scope and names, N' the block's names, src where those of the def stand in N -/
structure CompOk (sc : Scope) (N N' : List Str) (src : List (Option Nat)) (scope : Scope) : Prop where
  nd : N'.Nodup
  len : src.length = N'.length
  kind : scope.kind = .function
  nocell : ∀ y ∈ scope.names, y.2 ≠ .cell
  names : ∀ y ∈ scope.names, y.2 = .local → scope.names.lookup y.1 = some .local
  free : ∀ y ∈ scope.names, y.2 = .free → sc.names.lookup y.1 = some .cell ∨ sc.names.lookup y.1 = some .free
  srcs : ((src.zip N').all fun (o, x) => match o with | none => true | some i => N[i]? == some x && scope.names.lookup x == some .free) = true
theorem CompOk.at {sc : Scope} {N N' : List Str} {src : List (Option Nat)} {scope : Scope} (O : CompOk sc N N' src scope) {j i : Nat} {x : Str} (h1 : src[j]? = some (some i)) (h2 : N'[j]? = some x) : N[i]? = some x ∧ scope.names.lookup x = some .free := by
  have hz : (src.zip N')[j]? = some (some i, x) := by rw [List.getElem?_zip_eq_some]; exact ⟨h1, h2⟩
  have q := List.all_eq_true.mp O.srcs _ (List.mem_of_getElem? hz)
  have q' : (N[i]? == some x && scope.names.lookup x == some .free) = true := q
  rw [Bool.and_eq_true] at q'
  exact ⟨eq_of_beq q'.1, eq_of_beq q'.2⟩

def Cx.comp (X : Cx) (N' : List Str) (scope : Scope) (C : Addr) (s : Shared) (H : Hp) (fp : List Addr) : Cx :=
  { X with N := N', s₀ := s, H₀ := H, env := compEnvC scope (closOf X.env scope) C X.env, outer := X.stack, ex := fp, fn := fun _ => false, pn := [], xe := fun _ _ => False }

theorem Un.adopt {fs ex : List Addr} {H H1 : Hp} {h h1 : Heap} {D : Addr} {o : HO} (u : Un fs ex H H1 h h1) (hD : h.get? D = none) (hH : H D = none) : Un fs ex H (upd H1 D o) h h1 where
  keep := u.keep
  slot := u.slot
  free := fun b ob q n hx => by
    have hb : b ≠ D := fun z => by rw [z, hD] at q; cases q
    rw [upd_ne hb]; exact u.free b ob q n hx
  there := u.there
  tups := fun b xs q => by rw [upd_ne (ne_of_none q hH)]; exact u.tups b xs q
  frzs := fun b ob xs q => by rw [upd_ne (ne_of_none q hH)]; exact u.frzs b ob xs q
  tbls := fun b ps q => by rw [upd_ne (ne_of_none q hH)]; exact u.tbls b ps q
theorem HOk.adopt {P : Program} {w : World} {H : Hp} {h : Heap} {D : Addr} {o : HO} (x : HOk P w H h) (n : H D = none) (new : ObjOk P w (upd H D o) h D o) : HOk P w (upd H D o) h := fun b u e => by
  by_cases hb : b = D
  · subst hb; rw [upd_same] at e; cases e; exact new
  · rw [upd_ne hb] at e
    exact (x b u e).stay (fun c v _ q => q) (fun c q => by rw [upd_ne (ne_of_none q n)]; exact q) fun c xs q => by rw [upd_ne (ne_of_none q n)]; exact q

/-- a test of a clause -/
def PFi (X : Cx) (ifs : List Expr) (tf : TT) : Prop :=
  ∀ (pins : List (Addr × Obj)) (s : Shared) (σ : St) (H : Hp) (Q : Bool → Hp → Prop), Inv X pins σ H s → tf σ H Q →
    wpAny (model X.prog X.w) X.A (forIn ifs true fun c r => if r = true then do let ok ← isTrue c X.env (eval c X.env); pure (ForInStep.yield ok) else pure (ForInStep.yield r)) (TP X pins σ Q) X.xe s
def tfNil : TT := fun _ H Q => Q true H
theorem pf_nil {X : Cx} : PFi X [] tfNil := by
  intro pins s σ H Q I h
  rw [List.forIn_nil]
  exact wpAny_pure ⟨H, I, h⟩
theorem pf_one {X : Cx} {c : Expr} {tc : TT} (hc : PT X c tc) : PFi X [c] tc := by
  intro pins s σ H Q I h
  rw [List.forIn_cons]
  refine wpAny_bind (wpAny_bind (thn (hc pins s σ H _ I h) fun b s1 ⟨H1, I1, q1⟩ => wpAny_pure ?_))
  dsimp only
  rw [List.forIn_nil]
  exact wpAny_pure ⟨H1, I1, q1⟩

/-- what a comprehension's block asks: W the word by the turn, a measure, what is gathered, the block's names -/
def CompW (src : List (Option Nat)) (J : It) (g : TG) (tf : TT) (te : TE) (Q : VK) (σ : St) (H : Hp) : Prop :=
  ∃ W : Nat → Nat → List V → St → Hp → Prop, (∃ m, W 0 m [] (srcSt src σ) H) ∧ ∀ i m ys σ' H', W i m ys σ' H' → ys.length ≤ sizeLine ∧
  ((J.stop i H' ∧ ∀ p, H' p = none → Q (.ref p) (upd H' p (.lst ys))) ∨
   (J.go i H' ∧ ∃ Nx : List V → St → Hp → Prop, (∀ ys2 σ2 H2, Nx ys2 σ2 H2 → ∃ m', m' < m ∧ W (i + 1) m' ys2 σ2 H2) ∧
     ∀ x H2, J.yld i H' x H2 → g x σ' H2 fun σ2 H3 => tf σ2 H3 fun b H4 => if b = true then te σ2 H4 fun y H5 => Nx (ys ++ [y]) σ2 H5 else Nx ys σ2 H4))
/-- [elt for tg in iter if ..] -/
def tComp (src : List (Option Nat)) (wi : TI) (g : TG) (tf : TT) (te : TE) : TE := fun σ H Q => wi σ H fun J H1 => CompW src J g tf te Q σ H1

section
variable {X : Cx} {tg elt iter : Expr} {ifs : List Expr} {scope sc : Scope} {N N' : List Str} {src : List (Option Nat)} {g : TG} {tf : TT} {te : TE} {wi : TI} {pos : Pos}

theorem loop_own {prog : Program} {w : World} {A : Around} {R : Result → Shared → Prop} {s : Shared} {it acc : Value} {env : Env} (I : Nat → Shared → Prop)
    (turn : ∀ n s, I n s → wpAny (model prog w) A (pyNext it) (fun r s₁ => match r with
      | none => R (.ok .next) s₁
      | some v => wpAny (model prog w) A (letOwnedTupleGo tg it v) (fun _ s₂ => wpAny (model prog w) A (assign tg env v) (fun _ s₃ =>
          wpAny (model prog w) A (forIn ifs true fun c r => if r = true then do let ok ← isTrue c env (eval c env); pure (ForInStep.yield ok) else pure (ForInStep.yield r)) (fun ok s₄ =>
            if ok = true then wpAny (model prog w) A (eval elt env) (fun x s₅ =>
              wpAny (model prog w) A (call (.builtin "list.append") [acc, x]) (fun _ s₆ => ∃ m, m < n ∧ I m s₆) (fun _ _ => False) s₅) (fun _ _ => False) s₄
            else ∃ m, m < n ∧ I m s₄) (fun _ _ => False) s₃) (fun _ _ => False) s₂) (fun _ _ => False) s₁) (fun _ _ => False) s)
    (n : Nat) (h : I n s) : codeAny (model prog w) A (.compLoop (.ListComp elt [⟨tg, iter, ifs, 0⟩] scope pos) 0 it acc env) R s := by
  refine codeAny_loop rfl I (fun n s hI => ?_) n h
  show wpAny _ A ((compTurn (.ListComp elt [⟨tg, iter, ifs, 0⟩] scope pos) 0 it acc env).onRaise (fun x => do noteFrame x env; theTreesLotGoes x)) _ _ s
  refine wpAny_noted ?_
  rw [compTurn_list]
  refine wpAny_bind (wpAny_standAt (wpAny_bind (wpAny_mono (turn n s hI) (fun r s₁ h₁ => ?_) fun _ _ h' => h'.elim)))
  cases r with
  | none => exact wpAny_pure h₁
  | some v =>
    refine wpAny_bind (wpAny_mono h₁ (fun _ s₂ h₂ => ?_) fun _ _ h' => h'.elim)
    refine wpAny_bind (wpAny_mono h₂ (fun _ s₃ h₃ => wpAny_bind (wpAny_mono h₃ (fun ok s₄ h₄ => ?_) fun _ _ h' => h'.elim)) fun _ _ h' => h'.elim)
    cases ok with
    | false => exact wpAny_pure ⟨rfl, h₄⟩
    | true =>
      exact wpAny_bind (wpAny_bind (wpAny_mono h₄ (fun x s₅ h₅ => wpAny_bind (wpAny_mono h₅ (fun _ s₆ h₆ => wpAny_pure (wpAny_pure ⟨rfl, h₆⟩)) fun _ _ h' => h'.elim)) fun _ _ h' => h'.elim))

/-- the block's context is good -/
theorem comp_ok {pins : List (Addr × Obj)} {σ : St} {H : Hp} {s : Shared} {fp : List Addr} {C : Addr} (O : CompOk sc N N' src scope) (hsc : X.env.scope = sc) (I : Inv X pins σ H s) (hf : ∀ b ∈ fp, FpOk X pins H b)
    (ho : ∀ b ∈ fp, ∃ o, s.heap.get? b = some o) (hC : s.heap.objs.size ≤ C) : (X.comp N' scope C s H fp).Ok := by
  have hk : ∀ x, ((compEnvC scope (closOf X.env scope) C X.env).kindOf x = some .cell ∨ (compEnvC scope (closOf X.env scope) C X.env).kindOf x = some .free) → (x, NameKind.free) ∈ scope.names := fun x h => by
    have h : (compEnvC scope (closOf X.env scope) C X.env).scope.names.lookup x = some .cell ∨ (compEnvC scope (closOf X.env scope) C X.env).scope.names.lookup x = some .free := h
    rw [comp_lookup] at h
    cases q : scope.names.lookup x with
    | none => rw [q] at h; rcases h with h | h <;> cases h
    | some k =>
      have hm := PySem.mem_of_lookup q
      rw [q] at h
      cases k with
      | free => exact hm
      | cell => exact absurd rfl (O.nocell _ hm)
      | _ =>
        exfalso
        rcases h with h | h <;> (have h' := Option.some.inj h; unfold relK at h'; simp at h')
  refine ⟨I.ok.mod, O.kind, I.ok.glob, I.ok.blt, hC, fun x y c h1 h2 => I.ok.inj x y c (clos_of h1) (clos_of h2), fun x h => ?_, fun x c h => (by cases h), I.ok.hd, I.ok.frames, .inl rfl, fun b hb => ?_, I.bs, Nat.le_trans I.ok.bsz I.sz, fun b o e hb => ?_, fun b hb z => ?_, I.stack, I.stkFree⟩
  · have hm := hk x h
    have hx := O.free _ hm rfl
    rw [← hsc] at hx
    obtain ⟨c, hc⟩ := I.ok.has x hx
    exact ⟨c, clos_at hc hm⟩
  · refine ⟨?_, fun x c h => (hf b hb).2.2.2.2.1 x c (clos_of h)⟩
    obtain ⟨o, e⟩ := ho b hb
    exact Nat.ne_of_lt (Nat.lt_of_lt_of_le (Heap.lt_size e) hC)
  · rcases (hf b hb).2.2.2.1 with z | z
    · exact I.ok.noex b o e z
    · exact absurd (Nat.lt_of_lt_of_le (Nat.lt_of_lt_of_le (Heap.lt_size e) I.ok.bsz) z) (Nat.lt_irrefl _)
  · rcases List.mem_cons.mp (I.stkSub b z) with e | e
    · exact (hf b hb).2.1 e
    · exact (hf b hb).2.2.1 e

/-- the block's first state -/
theorem comp_inv {pins : List (Addr × Obj)} {σ : St} {H : Hp} {s : Shared} {fp : List Addr} {C : Addr} {h' : Heap} {tk : Nat} (O : CompOk sc N N' src scope) (hsc : X.env.scope = sc) (hN : X.N = N) (I : Inv X pins σ H s) (hf : ∀ b ∈ fp, FpOk X pins H b)
    (ho : ∀ b ∈ fp, ∃ o, s.heap.get? b = some o) (hC : s.heap.objs.size ≤ C) (k : ∀ b o, s.heap.get? b = some o → h'.get? b = some o) {m' : Str → Option Value} (hn : h'.Ns C m') :
    Inv (X.comp N' scope C s H fp) [] (srcSt src σ) H { s with heap := h', toks := tk } := by
  have cells : ∀ x c, X.env.cells.lookup x = some c → ∀ v, s.heap.IsCell c v → h'.IsCell c v := fun x c _ v ⟨o, e, d⟩ => ⟨o, k c o e, d⟩
  refine ⟨comp_ok O hsc I hf ho hC, rfl, I.bare, Un.kept k, ⟨_, hn, fun j x v e1 e2 e3 => ?_⟩, fun x c e => ?_, I.hok.fresh hC, fun x c e => I.freeC x c (clos_of e), fun p hp => (by cases hp), I.hok.kept k, ?_⟩
  · have e2 : (srcSt src σ)[j]? = some (some v) := e2
    have e1 : N'[j]? = some x := e1
    unfold srcSt at e2
    rw [List.getElem?_map] at e2
    cases q : src[j]? with
    | none => rw [q] at e2; cases e2
    | some o =>
      rw [q] at e2
      have e2 : (o.bind fun i => (σ[i]?).join) = some v := Option.some.inj e2
      cases o with
      | none => cases e2
      | some i =>
        have e2 : (σ[i]?).join = some v := e2
        obtain ⟨y2, hlk⟩ := O.at q e1
        have y3 := PySem.mem_of_lookup hlk
        have e4 : σ[i]? = some (some v) := by
          cases r : σ[i]? with
          | none => rw [r] at e2; cases e2
          | some w => rw [r] at e2; cases w with
            | none => cases e2
            | some w' => have : w' = v := Option.some.inj e2; rw [this]
        have hx := O.free _ y3 rfl
        rw [← hsc] at hx
        obtain ⟨m, hm, hl⟩ := I.loc
        obtain ⟨u, ru, lu⟩ := hl i x v (by rw [hN]; exact y2) e4 (.inr hx)
        refine ⟨u, ru, .inr ?_⟩
        obtain ⟨c, hc, hcell⟩ : ∃ c, X.env.cells.lookup x = some c ∧ s.heap.IsCell c (some u) := by
          rcases lu with ⟨z, _⟩ | ⟨_, c, hc, hz⟩
          · exfalso
            have z : X.env.scope.names.lookup x = some .local := z
            rcases hx with hx | hx <;> (rw [hx] at z; cases z)
          · exact ⟨c, hc, hz⟩
        refine ⟨?_, c, clos_at hc y3, cells x c hc _ hcell⟩
        show (compEnvC scope (closOf X.env scope) C X.env).scope.names.lookup x = some .cell ∨ (compEnvC scope (closOf X.env scope) C X.env).scope.names.lookup x = some .free
        rw [comp_lookup, hlk]
        show some (relK X.env x .free) = some .cell ∨ some (relK X.env x .free) = some .free
        unfold relK
        split
        · exact .inl rfl
        · exact .inr rfl
  · obtain ⟨v, z⟩ := I.cell x c (clos_of e)
    exact ⟨v, cells x c (clos_of e) v z⟩
  · show (srcSt src σ).length = N'.length
    unfold srcSt
    rw [List.length_map]
    exact O.len

/-- the block, from the iterator on -/
theorem comp_block {pins : List (Addr × Obj)} {σ : St} {H : Hp} {s : Shared} {fp : List Addr} {it : Addr} {tn : Nat → Heap → Prop} {J : It} {E : Value → Shared → Prop} {RR : Value → Addr → Result → Shared → Prop} {Fin : List V → Hp → Prop} (O : CompOk sc N N' src scope) (hsc : X.env.scope = sc) (hN : X.N = N) (hcalm : X.calm = true)
    (hg : ∀ C s H fp, PG (X.comp N' scope C s H fp) tg g) (hft : ∀ C s H fp, PFi (X.comp N' scope C s H fp) ifs tf) (he : ∀ C s H fp, PE (X.comp N' scope C s H fp) elt te)
    (I : Inv X pins σ H s) (T : Turn X.prog X.w X.K tg J fp it tn) (t0 : tn 0 s.heap) (hf : ∀ b ∈ fp, FpOk X pins H b)
    (W : Nat → Nat → List V → St → Hp → Prop) (m0 : Nat) (w0 : W 0 m0 [] (srcSt src σ) H)
    (hW : ∀ i m ys σ' H', W i m ys σ' H' → ys.length ≤ sizeLine ∧ ((J.stop i H' ∧ Fin ys H') ∨
      (J.go i H' ∧ ∃ Nx : List V → St → Hp → Prop, (∀ ys2 σ2 H2, Nx ys2 σ2 H2 → ∃ m', m' < m ∧ W (i + 1) m' ys2 σ2 H2) ∧
        ∀ x H2, J.yld i H' x H2 → g x σ' H2 fun σ2 H3 => tf σ2 H3 fun b H4 => if b = true then te σ2 H4 fun y H5 => Nx (ys ++ [y]) σ2 H5 else Nx ys σ2 H4)))
    (hRR : ∀ (D C : Addr) (s' : Shared) (σ' : St) (H' : Hp) (ys : List V) (its : List Value) (n : Nat), s.heap.objs.size ≤ D → s.heap.objs.size ≤ C → Inv (X.comp N' scope C s H fp) [] σ' H' s' → s'.heap.get? D = some { cls := .type "list", data := .seq its.toArray n } → Vals ys its → ys.length ≤ sizeLine →
      H' D = none → D ≠ C → Fin ys H' → RR (.ref D) C (.ok .next) s') :
    wpAny (model X.prog X.w) X.A (newList []) (fun acc s₃ => wpAny (model X.prog X.w) X.A (newFunctionEnv scope X.env.globals (closOf X.env scope) [] X.env.qual none .none (some X.env)) (fun cenv s₄ =>
      codeAny (model X.prog X.w) X.A (.compStart (.ListComp elt [⟨tg, iter, ifs, 0⟩] scope pos) 0 (.ref it) acc { cenv with scope := relabel scope X.env }) (RR acc cenv.locals) s₄) E s₃) E s := by
  refine wpAny_newObj_type (wpAny_newFunctionEnv O.nocell (by intro y hy; cases hy) (fun h₁ hns₁ hsb₁ => ?_) O.kind)
  dsimp only at hns₁ hsb₁ ⊢
  generalize hH2 : s.heap.push { cls := .type "list", dict := none, data := .seq ([] : List Value).toArray } = P2 at hns₁ hsb₁ ⊢
  have hCs : P2.objs.size = s.heap.objs.size + 1 := by rw [← hH2, Heap.size_push]
  have hDC : s.heap.objs.size ≠ P2.objs.size := by rw [hCs]; exact Nat.ne_of_lt (Nat.lt_succ_self _)
  have hCle : s.heap.objs.size ≤ P2.objs.size := by rw [hCs]; exact Nat.le_succ _
  have below : ∀ b, b < s.heap.objs.size → b ≠ P2.objs.size ∧ b ≠ s.heap.objs.size := fun b hb => ⟨by rw [hCs]; exact Nat.ne_of_lt (Nat.lt_succ_of_lt hb), Nat.ne_of_lt hb⟩
  have old : ∀ b o, s.heap.get? b = some o → h₁.get? b = some o := fun b o e => hsb₁.extBut b o (below b (Heap.lt_size e)).1 (Heap.get?_push_of_some _ (hH2 ▸ Heap.get?_push_of_some _ e))
  have hacc : h₁.get? s.heap.objs.size = some { cls := .type "list", data := .seq ([] : List Value).toArray 0 } := hsb₁.extBut _ _ hDC (Heap.get?_push_of_some _ (hH2 ▸ Heap.get?_push_size _ rfl))
  have fpo : ∀ b ∈ fp, ∃ o, s.heap.get? b = some o := fun b hb => let ⟨o, e, _⟩ := T.obj 0 _ t0 b hb; ⟨o, e⟩
  have fplt : ∀ b ∈ fp, b < s.heap.objs.size := fun b hb => let ⟨o, e⟩ := fpo b hb; Heap.lt_size e
  generalize hD : s.heap.objs.size = D at *
  generalize hC : P2.objs.size = C at *
  have ok1 : ∀ tk, Inv (X.comp N' scope C s H fp) [] (srcSt src σ) H { s with heap := h₁, toks := tk } := fun tk => comp_inv O hsc hN I hf fpo (by rw [hD]; exact hCle) old hns₁
  have okX : (X.comp N' scope C s H fp).Ok := (ok1 0).ok
  -- what holds of the iterator's objects in the block
  have stat : ∀ {H' : Hp} {pl : List (Addr × Obj)}, (∀ b ∈ fp, H' b = none) → (∀ p ∈ pl, p.1 ∉ fp) → ∀ b ∈ fp, FpOk (X.comp N' scope C s H fp) pl H' b := fun {H' pl} hn hp b hb =>
    ⟨hn b hb, (okX.exf b hb).1, okX.exfs b hb, .inl hb, (okX.exf b hb).2, fun p hm => by
      have hm : p ∈ pl := by simpa [Cx.comp] using hm
      exact fun z => hp p hm (z ▸ hb)⟩
  have Dfs : D ∉ (X.comp N' scope C s H fp).fs := fun hb => by
    obtain ⟨_, o, ho, _⟩ := okX.funs.mem hb
    have ho : s.heap.get? D = some o := ho
    have h1 := Heap.lt_size ho
    rw [hD] at h1
    exact Nat.lt_irrefl _ h1
  have Dcell : ∀ x c, (X.comp N' scope C s H fp).env.cells.lookup x = some c → c ≠ D := fun x c e z => by
    obtain ⟨v, o, ho, _⟩ := I.cell x c (clos_of e)
    have h1 := Heap.lt_size ho
    rw [hD, z] at h1
    exact Nat.lt_irrefl _ h1
  have loop : ∀ tk, codeAny (model X.prog X.w) X.A (.compLoop (.ListComp elt [⟨tg, iter, ifs, 0⟩] scope pos) 0 (.ref it) (.ref D) (compEnvC scope (closOf X.env scope) C X.env)) (RR (.ref D) C) { s with heap := h₁, toks := tk } := by
    intro tk
    refine loop_own (fun n s' => ∃ i ys σ' H' its c, Inv (X.comp N' scope C s H fp) [] σ' H' s' ∧ tn i s'.heap ∧ (∀ b ∈ fp, H' b = none) ∧ s'.heap.get? D = some { cls := .type "list", data := .seq (its : List Value).toArray c } ∧ Vals ys its ∧ H' D = none ∧ W i n ys σ' H') ?_ m0
      ⟨0, [], srcSt src σ, H, [], 0, ok1 tk, T.keep 0 _ _ t0 fun b _ o e => old b o e, fun b hb => (hf b hb).1, hacc, .nil, I.hok.fresh (by rw [hD]; exact Nat.le_refl _), w0⟩
    rintro n s3 ⟨i, ys, σ3, H3, its, c3, I3, st3, fr3, d3, v3, nD3, w3⟩
    obtain ⟨hlen, alt⟩ := hW i n ys σ3 H3 w3
    rcases alt with ⟨stop, fin⟩ | ⟨go, Nx, hNx, step⟩
    · have I3' : Inv (X.comp N' scope C s H fp) [(D, { cls := .type "list", data := .seq its.toArray c3 })] σ3 H3 s3 := I3.pins_of fun p hp => by
        have e : p = (D, { cls := .type "list", data := .seq its.toArray c3 }) := by simpa using hp
        subst e
        exact ⟨d3, nD3, hDC, Dfs, fun v z => by cases z⟩
      refine thn (T.done (X.comp N' scope C s H fp) rfl rfl rfl hcalm i _ s3 σ3 H3 _ I3' (stat fr3 fun p hp z => by
        have e : p = (D, { cls := .type "list", data := .seq its.toArray c3 }) := by simpa using hp
        rw [e] at z
        exact Nat.lt_irrefl _ (fplt D z)) st3 stop) fun r s4 ⟨hr, I4⟩ => ?_
      subst hr
      obtain ⟨d4, nD4, _⟩ := I4.pin (D, { cls := .type "list", data := .seq its.toArray c3 }) (by simp [Cx.comp])
      exact hRR D C s4 σ3 H3 ys its c3 (by omega) (by omega) (I4.pins_of fun p hp => (by cases hp)) d4 v3 hlen nD4 hDC fin
    · have I3' : Inv (X.comp N' scope C s H fp) [(D, { cls := .type "list", data := .seq its.toArray c3 })] σ3 H3 s3 := I3.pins_of fun p hp => by
        have e : p = (D, { cls := .type "list", data := .seq its.toArray c3 }) := by simpa using hp
        subst e
        exact ⟨d3, nD3, hDC, Dfs, fun v z => by cases z⟩
      have hpD : ∀ p ∈ [((D, { cls := .type "list", data := .seq its.toArray c3 }) : Addr × Obj)], p.1 ∉ fp := fun p hp z => by
        have e : p = (D, { cls := .type "list", data := .seq its.toArray c3 }) := by simpa using hp
        rw [e] at z
        exact Nat.lt_irrefl _ (fplt D z)
      refine thn (T.item (X.comp N' scope C s H fp) rfl rfl rfl hcalm i _ s3 σ3 H3 _ I3' (stat fr3 hpD) st3 go) fun r s4 ⟨u, hr, h4⟩ => ?_
      subst hr
      refine thn h4 fun _ s5 ⟨x, H5, I5, r5, y5, st5, fr5⟩ => ?_
      have I5' := I5.pinned (stat fr5 hpD) (T.obj _ _ st5)
      have pinD : (D, ({ cls := .type "list", data := .seq its.toArray c3 } : Obj)) ∈ (X.comp N' scope C s H fp).pn ++ ([((D, { cls := .type "list", data := .seq its.toArray c3 }) : Addr × Obj)] ++ pinsAt fp s5.heap) := by simp [Cx.comp]
      have back : ∀ {σ7 : St} {H7 : Hp} {s7 : Shared}, Inv (X.comp N' scope C s H fp) ([((D, { cls := .type "list", data := .seq its.toArray c3 }) : Addr × Obj)] ++ pinsAt fp s5.heap) σ7 H7 s7 →
          tn (i + 1) s7.heap ∧ ∀ b ∈ fp, H7 b = none := fun {σ7 H7 s7} I7 => ⟨T.keep _ _ _ st5 fun b hb o e => (I7.pin (b, o) (List.mem_append_right _ (List.mem_append_right _ (mem_pinsAt hb e)))).1, fun b hb => by
        obtain ⟨o, e, d⟩ := T.obj _ _ st5 b hb
        exact (I7.pin (b, o) (List.mem_append_right _ (List.mem_append_right _ (mem_pinsAt hb e)))).2.1⟩
      refine thn (hg C s H fp _ s5 σ3 H5 x u _ I5' r5 (step x H5 y5)) fun _ s6 ⟨σ6, H6, I6, q6⟩ => ?_
      refine thn (hft C s H fp _ s6 σ6 H6 _ I6 q6) fun b s7 ⟨H7, I7, q7⟩ => ?_
      cases b with
      | false =>
        obtain ⟨m', hm', w7⟩ := hNx ys σ6 H7 (by simpa using q7)
        obtain ⟨b1, b2⟩ := back I7
        obtain ⟨d7, nD7, _⟩ := I7.pin _ pinD
        exact ⟨m', hm', i + 1, ys, σ6, H7, its, c3, I7.pins_of fun p hp => (by cases hp), b1, b2, d7, v3, nD7, w7⟩
      | true =>
        have q7 : te σ6 H7 fun y H5 => Nx (ys ++ [y]) σ6 H5 := by simpa using q7
        rw [if_pos rfl]
        refine thn (he C s H fp _ s7 σ6 H7 _ I7 q7) fun u8 s8 ⟨y, H8, I8, r8, n8⟩ => ?_
        obtain ⟨m', hm', w8⟩ := hNx _ _ _ n8
        obtain ⟨b1, b2⟩ := back I8
        obtain ⟨d8, nD8, _⟩ := I8.pin _ pinD
        have hl := v3.length
        refine wpAny_list_append_plain (items := its.toArray) ⟨c3, d8⟩ (fun h9 ⟨c9, d9⟩ sb9 => ?_) (by rw [List.size_toArray, ← hl]; exact hlen)
        have I8' : Inv (X.comp N' scope C s H fp) [] σ6 H8 s8 := I8.pins_of fun p hp => by cases hp
        have I9 : Inv (X.comp N' scope C s H fp) [] σ6 H8 { s8 with heap := h9 } := I8'.turned (t' := s8.toks) (it := D) (fun b o hb e => (sb9.2 b hb).trans e) nD8 hDC (.inr (by show s.heap.objs.size ≤ D; omega)) Dcell (fun p hp => by
          have hp : p ∈ ([] : List (Addr × Obj)) := by simpa [Cx.comp] using hp
          cases hp)
        refine ⟨m', hm', i + 1, ys ++ [y], σ6, H8, its ++ [u8], c9, I9, T.keep _ _ _ b1 fun b hb o e => (sb9.2 b (fun z => Nat.lt_irrefl _ (z ▸ fplt b hb))).trans e, b2, ?_, v3.append (.cons r8 .nil), nD8, w8⟩
        show h9.get? D = _
        rw [d9]
        simp
  exact codeAny_compStart_list (loop _) (T.self _ 0 _ _ _ (T.keep 0 _ _ t0 fun b _ o e => old b o e) (loop _))

/-- the gathered list is taken up, in the def's own context -/
theorem comp_back {pins : List (Addr × Obj)} {σ σ' : St} {H H' : Hp} {s s' : Shared} {fp : List Addr} {C D : Addr} {ys : List V} {its : List Value} {n : Nat} (I : Inv X pins σ H s) (hf : ∀ b ∈ fp, FpOk X pins H b)
    (J : Inv (X.comp N' scope C s H fp) [] σ' H' s') (hD : s.heap.objs.size ≤ D) (d : s'.heap.get? D = some { cls := .type "list", data := .seq its.toArray n }) (v : Vals ys its) (hl : ys.length ≤ sizeLine) (nD : H' D = none) :
    Inv X pins σ (upd H' D (.lst ys)) s' := by
  have u : Un (frs X.stack) fp H H' s.heap s'.heap := J.base
  refine I.call' (ch := fp) J.os (u.adopt (Heap.get?_none_of_le hD) (I.hok.fresh hD)) (J.hok.adopt nD ⟨hl, its, n, v, d⟩) J.bare fun b hb => ?_
  obtain ⟨_, f1, _, f3, f4, f5⟩ := hf b hb
  exact ⟨f3, f1, f4, f5⟩
/-- .. and the block's frame is let go -/
theorem comp_gone {pins : List (Addr × Obj)} {σ σ2 : St} {H H2 : Hp} {s s2 : Shared} {C : Addr} {h' : Heap} (I : Inv X pins σ H s) (I2 : Inv X pins σ2 H2 s2) (hC : s.heap.objs.size ≤ C) (nC : H2 C = none) (sb : Heap.SameBut C s2.heap h') : Inv X pins σ2 H2 { s2 with heap := h' } := by
  obtain ⟨_, f1, _, f3, f4, f5⟩ := I.fpOk (H' := H2) hC nC
  exact I2.turned (t' := s2.toks) (it := C) (fun b o hb e => (sb.2 b hb).trans e) nC f1 f3 f4 f5

theorem pe_comp (O : CompOk sc N N' src scope) (hsc : X.env.scope = sc) (hN : X.N = N) (hcalm : X.calm = true) (hi : PI X tg iter wi)
    (hg : ∀ C s H fp, PG (X.comp N' scope C s H fp) tg g) (hft : ∀ C s H fp, PFi (X.comp N' scope C s H fp) ifs tf) (he : ∀ C s H fp, PE (X.comp N' scope C s H fp) elt te)
    (hs : ∀ x, foldedSetIterable iter X.env x = pure x := by intro _; rfl) : PE X (.ListComp elt [⟨tg, iter, ifs, 0⟩] scope pos) (tComp src wi g tf te) := by
  intro pins s σ H Q I h
  rw [eval_ListComp]
  have hclos : closureFor scope X.env = pure (closOf X.env scope) := closureFor_is fun x hx hk => I.ok.has x.1 (by
    have := O.free x hx hk
    rw [← hsc] at this
    exact this)
  refine wpAny_comprehension_free (use := none) rfl hs hclos O.kind O.names (thn (hi pins s σ H _ I h) fun v s1 h1 => thn h1 fun itv s2 h2 => ?_)
  obtain ⟨it, fp, tn, J, H2, e, I2, T, st2, f2, W, ⟨m0, w0⟩, turn⟩ := h2
  subst e
  refine comp_block (RR := fun acc C => compPost (model X.prog X.w) X.A X.xe none (EP X pins σ Q) acc C) (Fin := fun ys H' => ∀ p, H' p = none → Q (.ref p) (upd H' p (.lst ys))) O hsc hN hcalm hg hft he I2 T st2 f2 W m0 w0 turn ?_
  intro D C s' σ' H' ys its n hD hC Jv d vv hl nD hDC fin
  have I3 := comp_back I2 f2 Jv hD d vv hl nD
  obtain ⟨m, hm, _⟩ := Jv.loc
  have nC : H' C = none := Jv.free
  refine ⟨m, hm, fun h' sb => ⟨.ref D, _, comp_gone I2 I3 hC (by rw [upd_ne (Ne.symm hDC)]; exact nC) sb, rfl, fin D nD⟩⟩

/-- name = [..]: the stores exchanged -/
theorem ps_setc {k : Nat} {y : Str} {py spos : Pos} (O : CompOk sc N N' src scope) (hsc : X.env.scope = sc) (hN : X.N = N) (hcalm : X.calm = true) (hi : PI X tg iter wi)
    (hg : ∀ C s H fp, PG (X.comp N' scope C s H fp) tg g) (hft : ∀ C s H fp, PFi (X.comp N' scope C s H fp) ifs tf) (he : ∀ C s H fp, PE (X.comp N' scope C s H fp) elt te)
    (nd : X.N.Nodup) (hk : X.N[k]? = some y) (hx : Loc X.env.scope y)
    (hsw : swapsWith (.ListComp elt [⟨tg, iter, ifs, 0⟩] scope pos) (some (.Name y py)) spos.line X.env = pure true := by rfl)
    (hf : X.fn y = true ∨ X.env.scope.names.lookup y = some .local := by first | exact .inl rfl | exact .inr rfl | assumption)
    (hs : ∀ x, foldedSetIterable iter X.env x = pure x := by intro _; rfl) : PS X (.Assign [.Name y py] (.ListComp elt [⟨tg, iter, ifs, 0⟩] scope pos) spos) (tAsg (tComp src wi g tf te) (gName k)) := by
  intro pins s σ H D₀ I h
  rw [exec_Assign_Name_used _ _ _ _ hsw]
  refine wpAny_bind (wpAny_standAt (wpAny_bind ?_))
  show wpAny _ X.A (do let _ ← comprehension (.ListComp elt [⟨tg, iter, ifs, 0⟩] scope pos) scope X.env _ (newList []) false (eval iter X.env) (some (assign (.Name y py) X.env))) _ _ s
  have hclos : closureFor scope X.env = pure (closOf X.env scope) := closureFor_is fun x hx hk => I.ok.has x.1 (by
    have := O.free x hx hk
    rw [← hsc] at this
    exact this)
  refine wpAny_bind (wpAny_mono (wpAny_comprehension_free (use := some (assign (.Name y py) X.env)) (Q := fun _ s' => SP X pins D₀ .next s') rfl hs hclos O.kind O.names (thn (hi pins s σ H _ I h) fun v s1 h1 => thn h1 fun itv s2 h2 => ?_))
    (fun _ s' hq => wpAny_pure (wpAny_pure hq)) fun _ _ e => e)
  obtain ⟨it, fp, tn, J, H2, e, I2, T, st2, f2, W, ⟨m0, w0⟩, turn⟩ := h2
  subst e
  refine comp_block (RR := fun acc C => compPost (model X.prog X.w) X.A X.xe (some (assign (.Name y py) X.env)) (fun _ s' => SP X pins D₀ .next s') acc C) (Fin := fun ys H' => ∀ p, H' p = none → gName k (.ref p) σ (upd H' p (.lst ys)) D₀.nx) O hsc hN hcalm hg hft he I2 T st2 f2 W m0 w0 turn ?_
  intro D C s' σ' H' ys its n hD hC Jv d vv hl nD hDC fin
  have I3 := comp_back I2 f2 Jv hD d vv hl nD
  obtain ⟨m, hm, _⟩ := Jv.loc
  have nC : H' C = none := Jv.free
  show wpAny _ X.A (assign (.Name y py) X.env (.ref D)) _ _ s'
  refine wpAny_assign_Name (store_ok2 I3 nd hk hx (v := .ref D) rfl (fun s4 I4 ⟨a, sa, ha⟩ => ?_) hf)
  have aC : C ≠ a := by
    rcases ha with e | e
    · rw [e]
      intro z
      exact Nat.lt_irrefl _ (Nat.lt_of_lt_of_le I2.lt (z ▸ hC))
    · intro z
      obtain ⟨v, o, ho, _⟩ := I2.cell y a e
      exact Nat.lt_irrefl _ (Nat.lt_of_lt_of_le (Heap.lt_size ho) (z ▸ hC))
  refine ⟨m, Heap.Ns.sameBut hm sa aC, fun h' sb => ⟨_, _, comp_gone I2 I4 hC (by rw [upd_ne (Ne.symm hDC)]; exact nC) sb, fin D nD⟩⟩
end

/-- two statements, with a word between them -/
def tCut (t u : TS) : TS := fun D σ H => ∃ R : St → Hp → Prop, t { D with nx := R } σ H ∧ ∀ σ' H', R σ' H' → u D σ' H'
theorem pss_cut {X : Cx} {st : Stmt} {rest : List Stmt} {t u : TS} (h1 : PS X st t) (h2 : PSs X rest u) : PSs X (st :: rest) (tCut t u) := by
  intro pins s σ H D I ⟨R, h, hu⟩
  refine wpAny_execs_cons (thn (h1 pins s σ H { D with nx := R } I h) fun f s1 q => ?_)
  cases f with
  | next =>
    obtain ⟨σ', H', I', q⟩ := q
    exact h2 pins s1 σ' H' D I' (hu σ' H' q)
  | ret v => exact q
  | brk => exact q
  | cont => exact q

/-! ### the forms one uses -/
section
variable {K : PySem.W.Frag} {src : List (Option Nat)} {g : TG} {tf : TT} {te : TE} {Q : VK} {a : Addr} {xs : List V} {σ : St} {H : Hp}
/-- over n turns -/
theorem comp_n {J : It} (n : Nat) (Pv : Nat → List V → St → Hp → Prop) (h0 : Pv 0 [] (srcSt src σ) H) (hz : n ≤ sizeLine) (hl : ∀ i ys σ H, i ≤ n → Pv i ys σ H → ys.length ≤ i)
    (hst : ∀ ys σ H, Pv n ys σ H → J.stop n H) (hgo : ∀ i ys σ H, i < n → Pv i ys σ H → J.go i H)
    (hs : ∀ i ys σ H, i < n → Pv i ys σ H → ∀ x H2, J.yld i H x H2 → g x σ H2 fun σ2 H3 => tf σ2 H3 fun b H4 => if b = true then te σ2 H4 fun y H5 => Pv (i + 1) (ys ++ [y]) σ2 H5 else Pv (i + 1) ys σ2 H4)
    (hd : ∀ ys σ H, Pv n ys σ H → ∀ p, H p = none → Q (.ref p) (upd H p (.lst ys))) : CompW src J g tf te Q σ H := by
  refine ⟨fun i m ys σ H => m = n - i ∧ i ≤ n ∧ Pv i ys σ H, ⟨n, by simp, Nat.zero_le _, h0⟩, ?_⟩
  rintro i m ys σ' H' ⟨rfl, hi, p⟩
  have hy := hl i ys σ' H' hi p
  refine ⟨by omega, ?_⟩
  by_cases hlt : i < n
  · exact .inr ⟨hgo i ys σ' H' hlt p, Pv (i + 1), fun ys2 σ2 H2 z => ⟨n - (i + 1), by omega, rfl, hlt, z⟩, fun x H2 y => hs i ys σ' H' hlt p x H2 y⟩
  · have e : i = n := by omega
    subst e
    exact .inl ⟨hst ys σ' H' p, hd ys σ' H' p⟩
/-- over a list that stays -/
theorem comp_list (Pv : Nat → List V → St → Hp → Prop) (h0 : Pv 0 [] (srcSt src σ) H) (hz : xs.length ≤ sizeLine) (hl : ∀ i ys σ H, i ≤ xs.length → Pv i ys σ H → SqL K H a xs ∧ ys.length ≤ i)
    (hs : ∀ i x ys σ H, xs[i]? = some x → Pv i ys σ H → g x σ H fun σ2 H3 => tf σ2 H3 fun b H4 => if b = true then te σ2 H4 fun y H5 => Pv (i + 1) (ys ++ [y]) σ2 H5 else Pv (i + 1) ys σ2 H4)
    (hd : ∀ ys σ H, Pv xs.length ys σ H → ∀ p, H p = none → Q (.ref p) (upd H p (.lst ys))) : CompW src (Itl K a) g tf te Q σ H :=
  comp_n xs.length Pv h0 hz (fun i ys σ H hi p => (hl i ys σ H hi p).2) (fun ys σ H p => ⟨xs, (hl _ ys σ H (Nat.le_refl _) p).1, Nat.le_refl _⟩) (fun i ys σ H hi p => ⟨xs, xs[i], (hl i ys σ H (Nat.le_of_lt hi) p).1, by simp [hi]⟩)
    (fun i ys σ H hi p x H2 y => by
      obtain ⟨e, y⟩ := y
      subst e
      exact hs i x ys σ _ (y xs (hl i ys σ _ (Nat.le_of_lt hi) p).1) p) hd
theorem comp_tup (Pv : Nat → List V → St → Hp → Prop) (h0 : Pv 0 [] (srcSt src σ) H) (hz : xs.length ≤ sizeLine) (hl : ∀ i ys σ H, i ≤ xs.length → Pv i ys σ H → SqT K H a xs ∧ ys.length ≤ i)
    (hs : ∀ i x ys σ H, xs[i]? = some x → Pv i ys σ H → g x σ H fun σ2 H3 => tf σ2 H3 fun b H4 => if b = true then te σ2 H4 fun y H5 => Pv (i + 1) (ys ++ [y]) σ2 H5 else Pv (i + 1) ys σ2 H4)
    (hd : ∀ ys σ H, Pv xs.length ys σ H → ∀ p, H p = none → Q (.ref p) (upd H p (.lst ys))) : CompW src (Itt K a) g tf te Q σ H :=
  comp_n xs.length Pv h0 hz (fun i ys σ H hi p => (hl i ys σ H hi p).2) (fun ys σ H p => ⟨xs, (hl _ ys σ H (Nat.le_refl _) p).1, Nat.le_refl _⟩) (fun i ys σ H hi p => ⟨xs, xs[i], (hl i ys σ H (Nat.le_of_lt hi) p).1, by simp [hi]⟩)
    (fun i ys σ H hi p x H2 y => by
      obtain ⟨e, y⟩ := y
      subst e
      exact hs i x ys σ _ (y xs (hl i ys σ _ (Nat.le_of_lt hi) p).1) p) hd
theorem comp_range {lo : Int} {n : Nat} (Pv : Nat → List V → St → Hp → Prop) (h0 : Pv 0 [] (srcSt src σ) H) (hz : n ≤ sizeLine) (hl : ∀ i ys σ H, i ≤ n → Pv i ys σ H → ys.length ≤ i)
    (hs : ∀ i ys σ H, i < n → Pv i ys σ H → g (.int (lo + i)) σ H fun σ2 H3 => tf σ2 H3 fun b H4 => if b = true then te σ2 H4 fun y H5 => Pv (i + 1) (ys ++ [y]) σ2 H5 else Pv (i + 1) ys σ2 H4)
    (hd : ∀ ys σ H, Pv n ys σ H → ∀ p, H p = none → Q (.ref p) (upd H p (.lst ys))) : CompW src (Itr lo n) g tf te Q σ H :=
  comp_n n Pv h0 hz hl (fun _ _ _ _ => Nat.le_refl _) (fun _ _ _ _ hi _ => hi)
    (fun i ys σ H hi p x H2 y => by
      obtain ⟨e, y⟩ := y
      subst e y
      exact hs i ys σ _ hi p) hd
/-! without a test -/
theorem noTest {te : TE} {A : V → St → Hp → Prop} {B : St → Hp → Prop} : (fun σ2 H3 => tfNil σ2 H3 fun b H4 => if b = true then te σ2 H4 (fun y H5 => A y σ2 H5) else B σ2 H4) = fun (σ2 : St) (H3 : Hp) => te σ2 H3 fun y H5 => A y σ2 H5 := by
  funext σ2 H3
  show (if true = true then (te σ2 H3 fun y H5 => A y σ2 H5) else B σ2 H3) = _
  rw [if_pos rfl]
theorem comp_list0 (Pv : Nat → List V → St → Hp → Prop) (h0 : Pv 0 [] (srcSt src σ) H) (hz : xs.length ≤ sizeLine) (hl : ∀ i ys σ H, i ≤ xs.length → Pv i ys σ H → SqL K H a xs ∧ ys.length ≤ i)
    (hs : ∀ i x ys σ H, xs[i]? = some x → Pv i ys σ H → g x σ H fun σ2 H3 => te σ2 H3 fun y H5 => Pv (i + 1) (ys ++ [y]) σ2 H5)
    (hd : ∀ ys σ H, Pv xs.length ys σ H → ∀ p, H p = none → Q (.ref p) (upd H p (.lst ys))) : CompW src (Itl K a) g tfNil te Q σ H :=
  comp_list Pv h0 hz hl (fun i x ys σ H e p => by rw [noTest]; exact hs i x ys σ H e p) hd
theorem comp_tup0 (Pv : Nat → List V → St → Hp → Prop) (h0 : Pv 0 [] (srcSt src σ) H) (hz : xs.length ≤ sizeLine) (hl : ∀ i ys σ H, i ≤ xs.length → Pv i ys σ H → SqT K H a xs ∧ ys.length ≤ i)
    (hs : ∀ i x ys σ H, xs[i]? = some x → Pv i ys σ H → g x σ H fun σ2 H3 => te σ2 H3 fun y H5 => Pv (i + 1) (ys ++ [y]) σ2 H5)
    (hd : ∀ ys σ H, Pv xs.length ys σ H → ∀ p, H p = none → Q (.ref p) (upd H p (.lst ys))) : CompW src (Itt K a) g tfNil te Q σ H :=
  comp_tup Pv h0 hz hl (fun i x ys σ H e p => by rw [noTest]; exact hs i x ys σ H e p) hd
theorem comp_range0 {lo : Int} {n : Nat} (Pv : Nat → List V → St → Hp → Prop) (h0 : Pv 0 [] (srcSt src σ) H) (hz : n ≤ sizeLine) (hl : ∀ i ys σ H, i ≤ n → Pv i ys σ H → ys.length ≤ i)
    (hs : ∀ i ys σ H, i < n → Pv i ys σ H → g (.int (lo + i)) σ H fun σ2 H3 => te σ2 H3 fun y H5 => Pv (i + 1) (ys ++ [y]) σ2 H5)
    (hd : ∀ ys σ H, Pv n ys σ H → ∀ p, H p = none → Q (.ref p) (upd H p (.lst ys))) : CompW src (Itr lo n) g tfNil te Q σ H :=
  comp_range Pv h0 hz hl (fun i ys σ H e p => by rw [noTest]; exact hs i ys σ H e p) hd
end
end L2

set_option Elab.async false
set_option linter.all false
set_option maxRecDepth 100000
set_option maxHeartbeats 4000000
/-! more rules over the hand layer: data of any depth and its ==, texts, walks along texts and enumerate, sorted, isinstance -/
namespace L2
open PySem PySem.Spec PyProof.Rows

/-! ### data of any depth -/
mutual
/-- the value reads as this datum -/
def Dt (K : PySem.W.Frag) (H : Hp) : PyData → V → Prop
  | .none, v => v = .non
  | .bool b, v => v = .bl b
  | .int i, v => v = .int i
  | .str x, v => v = .str x
  | .list ds, v => ∃ a xs, v = .ref a ∧ SqL K H a xs ∧ DtAll K H ds xs
  | .tuple ds, v => ∃ a xs, v = .ref a ∧ SqT K H a xs ∧ DtAll K H ds xs
  | .dict _, _ => False
def DtAll (K : PySem.W.Frag) (H : Hp) : List PyData → List V → Prop
  | [], xs => xs = []
  | d :: ds, xs => ∃ x r, xs = x :: r ∧ Dt K H d x ∧ DtAll K H ds r
end
theorem Same.tupS {K : PySem.W.Frag} {H H' : Hp} {a : Addr} {xs : List V} (e : Same H H') (h : SqT K H a xs) : SqT K H' a xs := by
  rcases h with (h | ⟨o, h⟩) | h
  · exact .inl (.inl (e _ _ h))
  · exact .inl (.inr ⟨o, e _ _ h⟩)
  · exact .inr h
mutual
theorem Dt.same {K : PySem.W.Frag} {H H' : Hp} (e : Same H H') : ∀ (d : PyData) (v : V), Dt K H d v → Dt K H' d v
  | .none, _, h => h
  | .bool _, _, h => h
  | .int _, _, h => h
  | .str _, _, h => h
  | .list ds, _, ⟨a, xs, h1, h2, h3⟩ => ⟨a, xs, h1, e.seq h2, DtAll.same e ds xs h3⟩
  | .tuple ds, _, ⟨a, xs, h1, h2, h3⟩ => ⟨a, xs, h1, e.tupS h2, DtAll.same e ds xs h3⟩
  | .dict _, _, h => h
theorem DtAll.same {K : PySem.W.Frag} {H H' : Hp} (e : Same H H') : ∀ (ds : List PyData) (xs : List V), DtAll K H ds xs → DtAll K H' ds xs
  | [], _, h => h
  | d :: ds, _, ⟨x, r, h1, h2, h3⟩ => ⟨x, r, h1, Dt.same e d x h2, DtAll.same e ds r h3⟩
end
theorem DtAll.length {K : PySem.W.Frag} {H : Hp} : ∀ {ds : List PyData} {xs : List V}, DtAll K H ds xs → xs.length = ds.length
  | [], _, h => by cases (show _ = [] from h); rfl
  | d :: ds, _, ⟨x, r, h1, h2, h3⟩ => by rw [h1, List.length_cons, List.length_cons, DtAll.length h3]
theorem DtAll.append {K : PySem.W.Frag} {H : Hp} : ∀ {ds es : List PyData} {xs ys : List V}, DtAll K H ds xs → DtAll K H es ys → DtAll K H (ds ++ es) (xs ++ ys)
  | [], _, _, _, h, h' => by cases (show _ = [] from h); exact h'
  | d :: ds, _, _, _, ⟨x, r, h1, h2, h3⟩, h' => ⟨x, r ++ _, by rw [h1]; rfl, h2, DtAll.append h3 h'⟩
theorem DtAll.get {K : PySem.W.Frag} {H : Hp} : ∀ {ds : List PyData} {xs : List V} {i : Nat} {x : V}, DtAll K H ds xs → xs[i]? = some x → ∃ d, ds[i]? = some d ∧ Dt K H d x
  | [], _, _, _, h, e => by cases (show _ = [] from h); simp at e
  | d :: ds, _, 0, _, ⟨x, r, h1, h2, h3⟩, e => by rw [h1] at e; simp at e; subst e; exact ⟨d, rfl, h2⟩
  | d :: ds, _, i + 1, _, ⟨x, r, h1, h2, h3⟩, e => by
    rw [h1] at e
    obtain ⟨d', e1, e2⟩ := DtAll.get (i := i) h3 (by simpa using e)
    exact ⟨d', by simpa using e1, e2⟩
theorem DtAll.strs {K : PySem.W.Frag} {H : Hp} : ∀ (ls : List Str), DtAll K H (ls.map PyData.str) (ls.map V.str)
  | [] => rfl
  | x :: ls => ⟨.str x, ls.map V.str, rfl, rfl, DtAll.strs ls⟩
theorem DtAll.strs_of {K : PySem.W.Frag} {H : Hp} : ∀ {ls : List Str} {xs : List V}, DtAll K H (ls.map PyData.str) xs → xs = ls.map V.str
  | [], _, h => h
  | x :: ls, _, ⟨v, r, h1, h2, h3⟩ => by
    have h2 : v = V.str x := h2
    rw [h1, h2, DtAll.strs_of h3]; rfl
section
variable {X : Cx} {pins : List (Addr × Obj)} {σ : St} {H : Hp} {s : Shared}
mutual
theorem Dt.reads (I : Inv X pins σ H s) : ∀ (d : PyData) (v : V) (u : Value), Dt X.K H d v → RelV v u → ∃ as, Reads s.heap u d as
  | .none, _, u, h, r => by
    cases (show _ = V.non from h); cases (show u = Value.none from r); exact ⟨_, .none⟩
  | .bool b, _, u, h, r => by
    cases (show _ = V.bl b from h); cases (show u = Value.bool b from r); exact ⟨_, .bool b⟩
  | .int i, _, u, h, r => by
    cases (show _ = V.int i from h); obtain ⟨t, e⟩ := (show ∃ t, u = Value.int i t from r); cases e; exact ⟨_, .int i t⟩
  | .str x, _, u, h, r => by
    cases (show _ = V.str x from h); obtain ⟨t, e⟩ := (show ∃ t, u = Value.str x t from r); cases e; exact ⟨_, .str x t⟩
  | .list ds, _, u, ⟨a, xs, h1, h2, h3⟩, r => by
    subst h1
    cases (show u = Value.ref a from r)
    obtain ⟨its, rv, ⟨o, n, e, c, _, d⟩, _⟩ := I.list h2
    obtain ⟨as, q⟩ := DtAll.reads I ds xs its h3 rv
    exact ⟨_, .list e c d (by simpa using q)⟩
  | .tuple ds, _, u, ⟨a, xs, h1, h2, h3⟩, r => by
    subst h1
    cases (show u = Value.ref a from r)
    obtain ⟨its, rv, ⟨o, e, c, n, d⟩, _⟩ := I.tuple h2
    obtain ⟨as, q⟩ := DtAll.reads I ds xs its h3 rv
    exact ⟨_, .tuple e c d (by simpa using q)⟩
  | .dict _, _, _, h, _ => False.elim h
theorem DtAll.reads (I : Inv X pins σ H s) : ∀ (ds : List PyData) (xs : List V) (us : List Value), DtAll X.K H ds xs → Vals xs us → ∃ as, ReadsAll s.heap us ds as
  | [], _, us, h, r => by
    cases (show _ = [] from h)
    cases r
    exact ⟨_, .nil⟩
  | d :: ds, _, us, ⟨x, rr, h1, h2, h3⟩, r => by
    subst h1
    cases r with
    | cons r1 r2 =>
      obtain ⟨as, q1⟩ := Dt.reads I d x _ h2 r1
      obtain ⟨bs, q2⟩ := DtAll.reads I ds rr _ h3 r2
      exact ⟨_, .cons q1 q2⟩
end
end
section
variable {X : Cx}
def rEqD (K : PySem.W.Frag) : R2 := fun x y H Q => ∃ d e, Dt K H d x ∧ Dt K H e y ∧ SeqAt.shaped d = true ∧ SeqAt.shaped e = true ∧ Q (.bl (PyData.eqv d e)) H
def rNeD (K : PySem.W.Frag) : R2 := fun x y H Q => ∃ d e, Dt K H d x ∧ Dt K H e y ∧ SeqAt.shaped d = true ∧ SeqAt.shaped e = true ∧ Q (.bl (!PyData.eqv d e)) H
theorem op_eqD (hu : X.A.units + 64 < cLine) : OpR X (compareOp .Eq) (rEqD X.K) := by
  intro pins s σ H x y v u Q I rx ry h
  obtain ⟨d, e, h1, h2, h3, h4, q⟩ := h
  obtain ⟨as, r1⟩ := Dt.reads I d x v h1 rx
  obtain ⟨bs, r2⟩ := Dt.reads I e y u h2 ry
  exact SeqAt.compareEq_shaped r1 r2 h3 h4 hu ⟨.bl _, H, I, rfl, q⟩
theorem op_neD (hu : X.A.units + 64 < cLine) : OpR X (compareOp .NotEq) (rNeD X.K) := by
  intro pins s σ H x y v u Q I rx ry h
  obtain ⟨d, e, h1, h2, h3, h4, q⟩ := h
  obtain ⟨as, r1⟩ := Dt.reads I d x v h1 rx
  obtain ⟨bs, r2⟩ := Dt.reads I e y u h2 ry
  exact SeqAt.compareNe_shaped r1 r2 h3 h4 hu ⟨.bl _, H, I, rfl, q⟩

/-! ### texts -/
theorem strsAre_of : ∀ {ys : List Str} {us : List Value}, Vals (ys.map V.str) us → StrsAre us ys
  | [], us, r => by rw [List.map_nil] at r; cases r; exact .nil
  | y :: ys, us, r => by
    rw [List.map_cons] at r
    cases r with
    | cons r1 r2 =>
      obtain ⟨t, e⟩ := r1
      subst e
      exact .cons y t (strsAre_of r2)
theorem vals_strs : ∀ {us : List Value} {ys : List Str}, StrsAre us ys → Vals (ys.map V.str) us
  | _, _, .nil => .nil
  | _, _, .cons y t r => .cons ⟨t, rfl⟩ (vals_strs r)
/-- sep.join(xs), xs a list or a tuple of texts -/
def rJoin (K : PySem.W.Frag) : V → List V → Hp → VK → Prop := fun x vs H Q => ∃ sep p ys, x = .str sep ∧ vs = [.ref p] ∧ (SqL K H p (ys.map V.str) ∨ SqT K H p (ys.map V.str)) ∧ (ys.map (·.length)).sum + ys.length * sep.length ≤ 16777216 ∧ Q (.str (Txt.join sep ys)) H
theorem mt_join : MtR X "str.join" (rJoin X.K) := by
  intro pins s σ H x xs v us Q I rx rs h
  obtain ⟨sep, p, ys, rfl, rfl, hq, hz, q⟩ := h
  obtain ⟨t, rfl⟩ := rx
  obtain ⟨u, rfl, ru⟩ := vals1 rs
  cases ru
  rcases hq with hq | hq
  · obtain ⟨its, r, pl, _⟩ := I.list hq
    exact join_list pl.isList (by simpa using strsAre_of r) hz fun t' k => ⟨.str _, H, I.tok _, ⟨_, rfl⟩, q⟩
  · obtain ⟨its, r, pl, _⟩ := I.tuple hq
    exact join_tuple pl (by simpa using strsAre_of r) hz fun t' k => ⟨.str _, H, I.tok _, ⟨_, rfl⟩, q⟩
theorem isPart_some {vl : Value} {lo : Option Int} (h : IsPart vl lo) : ∃ o : Option (Int × Tok), vl = partValue o ∧ lo = o.map (·.1) := by
  cases h with
  | none => exact ⟨none, rfl, rfl⟩
  | int i t => exact ⟨some (i, t), rfl, rfl⟩
/-- t[lo:hi] of a text -/
def rSlS : V → Option Int → Option Int → Hp → VK → Prop := fun x lo hi H Q => ∃ z, x = .str z ∧ z.length ≤ sizeLine ∧ Q (.str (Txt.slice z lo hi)) H
theorem sl_str : SlR X rSlS := by
  intro pins s σ H x v vl vu lo hi sl Q I rx hs pl pu h
  obtain ⟨z, rfl, hz, q⟩ := h
  obtain ⟨t, rfl⟩ := rx
  obtain ⟨ol, rfl, rfl⟩ := isPart_some pl
  obtain ⟨ou, rfl, rfl⟩ := isPart_some pu
  refine ⟨"str", _, F.slot_str_getitem.lookup, typeIs_str _ _ _, wpAny_getItem_str_slice (l := ol) (u := ou) (st := none) ?_ rfl (post_val_or_str ⟨Nat.le_trans (Txt.slice_le z _ _) hz, fun t' k => ⟨.str _, H, I.tok _, ⟨_, rfl⟩, q⟩⟩)⟩
  exact hs
end

/-! ### records that turn, objects that are taken up -/
section
variable {X : Cx} {pins : List (Addr × Obj)} {σ : St} {H : Hp} {s : Shared} {h' : Heap}
theorem Inv.turnedAll {t' : Nat} {ch : List Addr} (I : Inv X pins σ H s) (hf : ∀ b ∈ ch, FpOk X pins H b) (k : ∀ b o, b ∉ ch → s.heap.get? b = some o → h'.get? b = some o) (th : ∀ b ∈ ch, ∃ o, h'.get? b = some o) : Inv X pins σ H { s with heap := h', toks := t' } := by
  have nch : ∀ b u, H b = some u → b ∉ ch := fun b u e z => by rw [(hf b z).1] at e; cases e
  refine I.step (g' := s.gens) (d' := s.drawn) (ch := ch) (fun b hb => ?_) (fun b o _ _ hc e _ => k b o hc e) (fun b o _ _ hc e _ => ⟨o.slots, k b o hc e⟩) (fun _ _ _ _ n => n)
    (fun b o hc e => ⟨o, k b o hc e⟩) (fun _ _ e => e) (fun _ _ _ e => e) (fun b ps e => ⟨#[], by rw [e]; simp⟩) (fun m hm => ?_) (fun b u e => ?_) I.bare
  · obtain ⟨_, f1, _, f3, f4, f5⟩ := hf b hb
    exact ⟨f3, f1, f4, f5⟩
  · obtain ⟨o, es, ep, ho, r⟩ := hm
    exact ⟨o, es, ep, k _ o (fun z => (hf _ z).2.1 rfl) ho, r⟩
  · refine (I.hok b u e).stay (fun c v hc q => k c v ?_ q) (fun _ q => q) fun _ _ q => q
    rcases hc with z | z
    · rw [z]; exact nch b u e
    · exact nch c _ z
theorem Un.adopt2 {fs ex : List Addr} {H H1 : Hp} {h h1 : Heap} {D : Addr} {o : HO} (u : Un fs ex H H1 h h1) (hD : h.get? D = none) (hH : H1 D = none) : Un fs ex H (upd H1 D o) h h1 where
  keep := u.keep
  slot := u.slot
  free := fun b ob q n hx => by
    have hb : b ≠ D := fun z => by rw [z, hD] at q; cases q
    rw [upd_ne hb]; exact u.free b ob q n hx
  there := u.there
  tups := fun b xs q => by rw [upd_ne (ne_of_none (u.tups b xs q) hH)]; exact u.tups b xs q
  frzs := fun b ob xs q => by rw [upd_ne (ne_of_none (u.frzs b ob xs q) hH)]; exact u.frzs b ob xs q
  tbls := fun b ps q => by
    obtain ⟨m, e⟩ := u.tbls b ps q
    exact ⟨m, by rw [upd_ne (ne_of_none e hH)]; exact e⟩
/-- an object that is there and not tracked is taken up -/
theorem Inv.takeUp {T : Addr} {o : HO} (I : Inv X pins σ H s) (n : H T = none) (h0 : X.s₀.heap.objs.size ≤ T) (hL : T ≠ X.env.locals) (hc : ∀ x c, X.env.cells.lookup x = some c → c ≠ T) (hp : ∀ p ∈ X.pn ++ pins, p.1 ≠ T)
    (new : ObjOk X.prog X.w (upd H T o) s.heap T o) : Inv X pins σ (upd H T o) s := by
  refine ⟨I.ok, I.os, I.bare, I.base.adopt2 (Heap.get?_none_of_le h0) n, I.loc, I.cell, ?_, fun x c e => ?_, fun p hpp => ?_, I.hok.adopt n new, I.len⟩
  · rw [upd_ne (Ne.symm hL)]; exact I.free
  · rw [upd_ne (hc x c e)]; exact I.freeC x c e
  · obtain ⟨e, n', ne, nf, d⟩ := I.pin p hpp
    exact ⟨e, by rw [upd_ne (hp p hpp)]; exact n', ne, nf, d⟩
end

/-! ### for over a text -/
/-- the signs of a text, one by one -/
def Its (x : Str) : It := ⟨fun i _ => i < x.length, fun i H v H' => H' = H ∧ ∃ c, x.cps[i]? = some c ∧ v = .str ⟨#[c]⟩, fun i _ => i = x.length⟩
theorem turn_walks {P : Program} {w : World} {K : PySem.W.Frag} {tg : Expr} {it : Addr} {x : Str} {tn : Nat → Heap → Prop} (hW : ∀ A : Around, A.handled = none → Walks P w A it [it] [it] x.cps.size (SignAt x) tn)
    (ho : ∀ i h, tn i h → ∃ o, h.get? it = some o ∧ ∀ v, o.data ≠ .cell v) (hself : ∀ (A : Around) (i : Nat) (s : Shared) (Q : Value → Shared → Prop) (E : Value → Shared → Prop), tn i s.heap → Q (.ref it) s → wpAny (model P w) A (pyIter (.ref it)) Q E s) :
    Turn P w K tg (Its x) [it] it tn where
  mem := by simp
  obj := fun i h st b hb => by
    have e : b = it := by simpa using hb
    subst e
    exact ho i h st
  keep := fun i h h' st k => (hW {} rfl).frame i h h' st k
  item := by
    intro X hP hw hK hc i pins s σ H E I hf st hg
    subst hP hw hK
    obtain ⟨f0, f1, f2, f3, f4, f5⟩ := hf it (by simp)
    refine (hW X.A (I.ok.hd hc)).item i s _ _ hg st fun v h' tk hv st' kk => ?_
    obtain ⟨c, u, hcx, rfl⟩ := hv
    have I1 : Inv X pins σ H { s with heap := h', toks := tk } := I.turned (fun b o hb e => kk b o (by simpa using hb) e) f0 f1 f3 f4 f5
    refine ⟨_, rfl, ?_⟩
    have fin : ∃ x' H', Inv X pins σ H' { s with heap := h', toks := tk } ∧ RelV x' (.str ⟨#[c]⟩ u) ∧ (Its x).yld i H x' H' ∧ tn (i + 1) h' ∧ ∀ b ∈ [it], H' b = none :=
      ⟨.str ⟨#[c]⟩, H, I1, ⟨u, rfl⟩, ⟨rfl, c, hcx, rfl⟩, st', fun b hb => (hf b hb).1⟩
    unfold letOwnedTupleGo
    cases tg <;> exact wpAny_pure fin
  done := by
    intro X hP hw hK hc i pins s σ H E I hf st hg
    subst hP hw hK
    obtain ⟨f0, f1, f2, f3, f4, f5⟩ := hf it (by simp)
    exact (hW X.A (I.ok.hd hc)).done s _ _ (by have e : i = x.length := hg; subst e; exact st) fun h' tk kk => ⟨rfl, I.turned (fun b o hb e => kk b o (by simpa using hb) e) f0 f1 f3 f4 f5⟩
  self := hself
section
variable {X : Cx} {tg : Expr}
def iStr (te : TE) : TI := fun σ H R => te σ H fun x H1 => ∃ z, x = .str z ∧ R (Its z) H1
theorem pi_str {e : Expr} {te : TE} (he : PE X e te) : PI X tg e (iStr te) := by
  intro pins s σ H R I h
  refine thn (he pins s σ H _ I h) fun v s1 ⟨x, H1, I1, r1, q1⟩ => ?_
  obtain ⟨z, e, q⟩ := q1
  subst e
  obtain ⟨t, rfl⟩ := r1
  have fr : H1 s1.heap.objs.size = none := I1.hok.fresh (Nat.le_refl _)
  cases ha : z.cps.all (· < 128)
  · refine wpAny_pyIter_wide ha ?_
    refine ⟨s1.heap.objs.size, [s1.heap.objs.size], fun i h => h.IsStrIter s1.heap.objs.size "str_iterator" z t i, _, H1, rfl, I1.kept (t' := s1.toks) fun b o e => Heap.get?_push_of_some _ e,
      turn_walks (fun A hA => Walks.strWide hA _ z t) (fun i h ⟨o, ho, _, hd⟩ => ⟨o, ho, fun v z => by rw [hd] at z; cases z⟩) (fun _ _ _ _ _ st hQ => wpAny_pyIter_striter_wide st hQ), ⟨_, Heap.get?_push_size _ rfl, rfl, rfl⟩, fun b hb => ?_, q⟩
    have e : b = s1.heap.objs.size := by simpa using hb
    subst e
    exact I1.fpOk (Nat.le_refl _) fr
  · refine wpAny_pyIter_ascii ha ?_
    refine ⟨s1.heap.objs.size, [s1.heap.objs.size], fun i h => h.IsStrIter s1.heap.objs.size "str_ascii_iterator" z t i, _, H1, rfl, I1.kept (t' := s1.toks) fun b o e => Heap.get?_push_of_some _ e,
      turn_walks (fun A hA => Walks.strAscii hA _ z t) (fun i h ⟨o, ho, _, hd⟩ => ⟨o, ho, fun v z => by rw [hd] at z; cases z⟩) (fun _ _ _ _ _ st hQ => wpAny_pyIter_striter_ascii st hQ), ⟨_, Heap.get?_push_size _ rfl, rfl, rfl⟩, fun b hb => ?_, q⟩
    have e : b = s1.heap.objs.size := by simpa using hb
    subst e
    exact I1.fpOk (Nat.le_refl _) fr
end
/-- what a for-statement asks, by a word for n turns -/
abbrev ForW (J : It) (g : TG) (tb : TS) (D : Ends) (σ : St) (H : Hp) : Prop :=
  ∃ W : Nat → Nat → St → Hp → Prop, (∃ m, W 0 m σ H) ∧ ∀ i m σ H, W i m σ H →
    (J.stop i H ∧ D.nx σ H) ∨ (J.go i H ∧ ∃ N : St → Hp → Prop, (∀ σ' H', N σ' H' → ∃ m', m' < m ∧ W (i + 1) m' σ' H') ∧ ∀ x H', J.yld i H x H' → g x σ H' fun σ2 H2 => tb { D with nx := N, ct := N, bk := D.nx } σ2 H2)
theorem for_n {J : It} {g : TG} {tb : TS} {D : Ends} {σ : St} {H : Hp} (n : Nat) (Pv : Nat → St → Hp → Prop) (h0 : Pv 0 σ H) (hst : ∀ σ H, Pv n σ H → J.stop n H) (hgo : ∀ i σ H, i < n → Pv i σ H → J.go i H)
    (hs : ∀ i σ H, i < n → Pv i σ H → ∀ x H', J.yld i H x H' → g x σ H' fun σ2 H2 => tb { D with nx := Pv (i + 1), ct := Pv (i + 1), bk := D.nx } σ2 H2) (hd : ∀ σ H, Pv n σ H → D.nx σ H) : ForW J g tb D σ H := by
  refine ⟨fun i m σ H => m = n - i ∧ i ≤ n ∧ Pv i σ H, ⟨n, by simp, Nat.zero_le _, h0⟩, ?_⟩
  rintro i m σ H ⟨rfl, hi, p⟩
  by_cases hlt : i < n
  · exact .inr ⟨hgo i σ H hlt p, Pv (i + 1), fun σ' H' p' => ⟨n - (i + 1), by omega, rfl, hlt, p'⟩, fun x H' y => hs i σ H hlt p x H' y⟩
  · have e : i = n := by omega
    subst e
    exact .inl ⟨hst σ H p, hd σ H p⟩
theorem for_str {x : Str} {g : TG} {tb : TS} {D : Ends} {σ : St} {H : Hp} (Pv : Nat → St → Hp → Prop) (h0 : Pv 0 σ H)
    (hs : ∀ i c σ H, x.cps[i]? = some c → Pv i σ H → g (.str ⟨#[c]⟩) σ H fun σ2 H2 => tb { D with nx := Pv (i + 1), ct := Pv (i + 1), bk := D.nx } σ2 H2) (hd : ∀ σ H, Pv x.length σ H → D.nx σ H) : ForW (Its x) g tb D σ H :=
  for_n x.length Pv h0 (fun _ _ _ => rfl) (fun _ _ _ hi _ => hi) (fun i σ H hi p v H' y => by
    obtain ⟨e, c, hc, ev⟩ := y
    subst e ev
    exact hs i c σ _ hc p) hd

/-! ### for over enumerate(a list) -/
def Ite (K : PySem.W.Frag) (a : Addr) : It :=
  ⟨fun i H => ∃ xs x, SqL K H a xs ∧ xs[i]? = some x, fun i H v H' => ∃ T x, H T = none ∧ v = .ref T ∧ H' = upd H T (.tup [.int i, x]) ∧ ∀ xs, SqL K H a xs → xs[i]? = some x, fun i H => ∃ xs, SqL K H a xs ∧ xs.length ≤ i⟩
theorem turn_enum {P : Program} {w : World} {K : PySem.W.Frag} {elts : List Expr} {x1} {tpos : Pos} (a e it : Addr) (hne : e ≠ it) :
    Turn P w K (.Tuple elts x1 tpos) (Ite K a) [e, it] e (fun i h => (∃ old, IsEnum h e it i old) ∧ h.IsListIter it a i) where
  mem := by simp
  obj := fun i h st b hb => by
    obtain ⟨⟨old, s1⟩, o, s2, s3, s4⟩ := st
    rcases List.mem_cons.mp hb with z | z
    · subst z; exact ⟨_, s1, fun v z => by cases z⟩
    · have z : b = it := by simpa using z
      subst z; exact ⟨o, s2, fun v z => by rw [s4] at z; cases z⟩
  keep := fun i h h' st k => by
    obtain ⟨⟨old, s1⟩, s2⟩ := st
    exact ⟨⟨old, k e (by simp) _ s1⟩, s2.at fun o q => k it (by simp) o q⟩
  item := by
    intro X hP hw hK hc i pins s σ H E I hf st hg
    subst hP hw hK
    obtain ⟨xs, x, hq, hx⟩ := hg
    obtain ⟨its, rv, p, hz⟩ := I.list hq
    obtain ⟨u, hu, ru⟩ := rv.get hx
    obtain ⟨⟨old, st1⟩, st2⟩ := st
    have fe := hf e (by simp)
    have fi := hf it (by simp)
    have hT : H s.heap.objs.size = none := I.hok.fresh (Nat.le_refl _)
    have ltE : e < s.heap.objs.size := Heap.lt_size st1
    have ltI : it < s.heap.objs.size := by obtain ⟨o, ho, _⟩ := st2; exact Heap.lt_size ho
    refine wpAny_pyNext_enum_item st1 st2 p.isList (x := u) (by simpa using hu) hne fun h' out hit' tup sz kp => ?_
    refine ⟨_, rfl, wpAny_letOwnedTupleGo_enum out fun h2 en sb => ?_⟩
    have en' : ∃ old, IsEnum h2 e it ((i + 1 : Nat) : Int) old := ⟨u, by push_cast; exact en⟩
    have tup2 : h2.get? s.heap.objs.size = some { cls := .type "tuple", data := .seq #[.int i s.toks, u] } := (sb.2 _ (Nat.ne_of_gt ltE)).trans tup
    have I1 : Inv X pins σ H { s with heap := h2, toks := s.toks + 1 } := I.turnedAll (ch := [e, it]) hf (fun b o hb q => by
      have b1 : b ≠ e := fun z => hb (by simp [z])
      have b2 : b ≠ it := fun z => hb (by simp [z])
      exact (sb.2 b b1).trans (kp b o b1 b2 q)) (fun b hb => by
      rcases List.mem_cons.mp hb with z | z
      · subst z; exact ⟨_, en⟩
      · have z : b = it := by simpa using z
        subst z
        obtain ⟨o, ho, _⟩ := hit'
        exact ⟨o, (sb.2 b (Ne.symm hne)).trans ho⟩)
    have fT := I.fpOk (Nat.le_refl _) hT
    have new : ObjOk X.prog X.w (upd H s.heap.objs.size (.tup [.int i, x])) h2 s.heap.objs.size (.tup [.int i, x]) :=
      ⟨by show 2 ≤ sizeLine; decide, [.int i s.toks, u], .cons ⟨_, rfl⟩ (.cons ru .nil), ⟨_, tup2, rfl, _, rfl⟩⟩
    have I2 : Inv X pins σ (upd H s.heap.objs.size (.tup [.int i, x])) { s with heap := h2, toks := s.toks + 1 } :=
      I1.takeUp hT (Nat.le_trans I.sz (Nat.le_refl _)) fT.2.1 fT.2.2.2.2.1 fT.2.2.2.2.2 new
    refine ⟨.ref s.heap.objs.size, _, I2, rfl, ⟨_, x, hT, rfl, rfl, fun ys hy => by rw [I.list_inj hy hq]; exact hx⟩, ⟨en', ?_⟩, fun b hb => ?_⟩
    · obtain ⟨o, ho, r⟩ := hit'
      exact ⟨o, (sb.2 it (Ne.symm hne)).trans ho, r⟩
    · have hb' : b < s.heap.objs.size := by
        rcases List.mem_cons.mp hb with z | z
        · subst z; exact ltE
        · have z : b = it := by simpa using z
          subst z; exact ltI
      rw [upd_ne (Nat.ne_of_lt hb')]
      exact (hf b hb).1
  done := by
    intro X hP hw hK hc i pins s σ H E I hf st hg
    subst hP hw hK
    obtain ⟨xs, hq, hx⟩ := hg
    obtain ⟨its, rv, p, hz⟩ := I.list hq
    obtain ⟨⟨old, st1⟩, st2⟩ := st
    obtain ⟨f0, f1, f2, f3, f4, f5⟩ := hf it (by simp)
    have hl := rv.length
    exact wpAny_pyNext_enum_end (I.ok.hd hc) st1 st2 p.isList (by simp; omega) fun h' eb => ⟨rfl, I.turned (t' := s.toks) (fun b o hb q => eb b o hb q) f0 f1 f3 f4 f5⟩
  self := fun _ _ _ _ _ st h => wpAny_pyIter_enum st.1.choose_spec h
end L2

set_option Elab.async false
set_option linter.all false
set_option maxRecDepth 100000
set_option maxHeartbeats 4000000
namespace L2
open PySem PySem.Spec PyProof.Rows

/-! ### enumerate -/
section
variable {X : Cx} {elts : List Expr} {x1 : Nat} {tpos : Pos}
def iEnum (K : PySem.W.Frag) (ta : TA) : TI := fun σ H R => ta σ H fun vs H1 => ∃ a, vs = [.ref a] ∧ (∃ xs, SqL K H1 a xs) ∧ R (Ite K a) H1
theorem pi_enum {a : Expr} {ta : TA} {p pos : Pos} {x1} (hg : Gl X "enumerate") (hm : X.mg "enumerate" = none) (ha : PA X [a] ta) (hs : starEach [a] X.env = [(false, eval a X.env)] := by rfl) : PI X (.Tuple elts x1 tpos) (.Call (.Name "enumerate" p) [a] [] pos) (iEnum X.K ta) := by
  intro pins s σ H R I h
  refine Call_ (ld_blt I hg hm boot_enumerate (PyProof.Rows.callWith_type1 (thn (ha pos pins s σ H _ I h) fun us s1 ⟨vs, H1, I1, r1, q1⟩ => ?_) hs rfl))
  obtain ⟨a', e, ⟨xs, hq⟩, q⟩ := q1
  subst e
  obtain ⟨u, rfl, ru⟩ := vals1 r1
  cases ru
  obtain ⟨its, rv, p', hz⟩ := I1.list hq
  refine call_enumerate_list p'.isList fun h' en it sz kp => wpAny_pyIter_enum en ?_
  have f1 : H1 (s1.heap.objs.size + 1) = none := I1.hok.fresh (Nat.le_succ _)
  have f0 : H1 s1.heap.objs.size = none := I1.hok.fresh (Nat.le_refl _)
  refine ⟨s1.heap.objs.size + 1, [s1.heap.objs.size + 1, s1.heap.objs.size], _, _, H1, rfl, I1.kept (t' := s1.toks) kp, turn_enum a' _ _ (Nat.ne_of_gt (Nat.lt_succ_self _)), ⟨⟨_, en⟩, it⟩, fun b hb => ?_, q⟩
  rcases List.mem_cons.mp hb with z | z
  · subst z; exact I1.fpOk (Nat.le_succ _) f1
  · have z : b = s1.heap.objs.size := by simpa using z
    subst z; exact I1.fpOk (Nat.le_refl _) f0
theorem for_enum {K : PySem.W.Frag} {a : Addr} {xs : List V} {g : TG} {tb : TS} {D : Ends} {σ : St} {H : Hp} (Pv : Nat → St → Hp → Prop) (h0 : Pv 0 σ H) (hl : ∀ i σ H, i ≤ xs.length → Pv i σ H → SqL K H a xs)
    (hs : ∀ i x T σ H, xs[i]? = some x → Pv i σ H → H T = none → g (.ref T) σ (upd H T (.tup [.int i, x])) fun σ2 H2 => tb { D with nx := Pv (i + 1), ct := Pv (i + 1), bk := D.nx } σ2 H2) (hd : ∀ σ H, Pv xs.length σ H → D.nx σ H) : ForW (Ite K a) g tb D σ H :=
  for_n xs.length Pv h0 (fun σ H p => ⟨xs, hl _ σ H (Nat.le_refl _) p, Nat.le_refl _⟩) (fun i σ H hi p => ⟨xs, xs[i], hl i σ H (Nat.le_of_lt hi) p, by simp [hi]⟩) (fun i σ H hi p v H' y => by
    obtain ⟨T, x, hT, ev, eH, hx⟩ := y
    subst ev eH
    exact hs i x T σ H (hx xs (hl i σ H (Nat.le_of_lt hi) p)) p hT) hd

/-! ### sorted(a dict of texts) -/
def keysS (kvs : List (Str × V)) : List (Key × V) := kvs.map fun kv => (Sum.inr kv.1, kv.2)
def rSortedD : List V → Hp → VK → Prop := fun xs H Q => ∃ a kvs, xs = [.ref a] ∧ H a = some (.dK (keysS kvs)) ∧ kvs.length < 64 ∧ ∀ l ss, H l = none → ss.Perm (kvs.map (·.1)) → sortedS ss = true → Q (.ref l) (upd H l (.lst (ss.map V.str)))
theorem strs_keys {P : Program} {w : World} : ∀ {kvs : List (Str × V)} {vs : List (Key × Value)} {us : List Value}, KV (keysS kvs) vs → us.length = vs.length → (∀ (j : Nat) (v : Value), us[j]? = some v → ∃ k x, vs[j]? = some (k, x) ∧ (mixKind P w).is k v = true) → StrsAre us (kvs.map (·.1))
  | [], vs, us, r, hl, _ => by
    cases (show Paired _ [] vs from r)
    have : us = [] := List.eq_nil_of_length_eq_zero (by simpa using hl)
    subst this
    exact .nil
  | (k, v) :: kvs, vs, us, r, hl, hm => by
    cases (show Paired _ ((Sum.inr k, v) :: keysS kvs) vs from r) with
    | @cons _ b _ l2 r1 r2 =>
      cases us with
      | nil => simp at hl
      | cons u us =>
        obtain ⟨k', x, e1, e2⟩ := hm 0 u rfl
        have e1 : b = (k', x) := by simpa using e1
        subst e1
        have e3 : (Sum.inr k : Key) = k' := r1.1
        subst e3
        have e2' : keyIs (Sum.inr k : Key) u = true := e2
        rcases keyIs_shape e2' with ⟨i, t, h1, h2⟩ | ⟨y, t, h1, h2⟩
        · cases h1
        · cases h1
          subst h2
          refine .cons k t (strs_keys (P := P) (w := w) r2 (by simpa using hl) fun j v hj => ?_)
          obtain ⟨k2, x2, q1, q2⟩ := hm (j + 1) v (by simpa using hj)
          exact ⟨k2, x2, by simpa using q1, q2⟩
theorem call_sortedD (hc : X.calm = true) : CallR X (.builtin "sorted") rSortedD := by
  intro pins s σ H xs us Q I r h
  obtain ⟨a, kvs, rfl, ha, h64, q⟩ := h
  obtain ⟨u, rfl, ru⟩ := vals1 r
  cases ru
  obtain ⟨hz, hS, vs, rel, o, es, ep, ho, hx, hd, hk, hp, hnd⟩ : (keysS kvs).length ≤ sizeLine ∧ (a == sysModules) = false ∧ ∃ vs, KV (keysS kvs) vs ∧ s.heap.DictOf (mixKind X.prog X.w) a vs := I.hok a _ ha
  have hat : s.heap.DictAt (mixKind X.prog X.w) a vs ep := ⟨o, es, ho, hx, hd, hk, hp, hnd⟩
  have hlen : (keysS kvs).length = vs.length := Paired.length rel
  have hlen2 : (keysS kvs).length = kvs.length := List.length_map _
  refine Calls.call_function_entry kind_sorted plain_sorted entry_sorted (args_sorted1 _) ?_
  unfold Builtin.«sorted»
  refine wpAny_bind (m := checkCount "sorted" 1 1 _) (wpAny_pure ?_)
  refine wpAny_bind (PySem.W.kdu_collect (A := X.A.in1) (PySem.W.kdl_dict (knd := mixKind X.prog X.w) (kvs := vs) (ep := ep) hS) (I.ok.hd hc) hat (by omega) fun h' tk acc hkp hacc => ?_)
  have hal : acc.toList.length = vs.length := by rw [Array.length_toList]; exact hacc.1
  have hstr : StrsAre acc.toList (kvs.map (·.1)) := strs_keys rel hal fun j v e => hacc.2 j v (by rw [← Array.getElem?_toList]; exact e)
  refine wpAny_bind (wpAny_newList ?_ (by rw [hal]; omega))
  have hoL : (h'.push (seqObj "list" acc.toList.toArray 0)).get? h'.objs.size = some (seqObj "list" acc.toList.toArray 0) := Heap.get?_push_size _ rfl
  refine wpAny_bind (wpAny_holding (wpAny_call_entry slot_list_sort ⟨_, hoL, rfl⟩ entry_list_sort (list_sort_treeK strKind_oneLt hoL hstr.keysOf (fun v₁ v₂ rest e => keyKind_strs (by rw [← e]; exact hstr)) (by rw [hal]; omega) fun st' a1 a2 => ⟨_, rfl, ?_⟩) (args_list_sort _)))
  obtain ⟨ss', b1, b2, b3⟩ := sorted_out_str hstr a1 a2
  refine wpAny_pure ⟨_, rfl, ?_⟩
  obtain ⟨e, he⟩ := sortedHeap_at (out := (arrOf st').map (·.2)) hoL
  have nl := vals_strs b1
  have I1 : Inv X pins σ H { s with heap := h', toks := tk } := I.kept hkp
  have kp2 : ∀ b ob, h'.get? b = some ob → (sortedHeap (h'.push (seqObj "list" acc.toList.toArray 0)) h'.objs.size acc.toList ((arrOf st').map (·.2))).get? b = some ob := fun b ob q1 => by
    have hb : b < h'.objs.size := Heap.lt_size q1
    rw [sortedHeap_old (Nat.ne_of_lt hb) (by rw [Heap.size_push]; exact Nat.lt_succ_of_lt hb)]
    exact Heap.get?_push_of_some _ q1
  have fr : H h'.objs.size = none := I1.hok.fresh (Nat.le_refl _)
  have hz2 : (ss'.map V.str).length ≤ sizeLine := by
    have := b2.length_eq
    rw [List.length_map]
    rw [this, List.length_map]
    omega
  exact ⟨.ref h'.objs.size, _, I1.laid (o := .lst (ss'.map V.str)) (t' := tk) kp2 (Nat.le_refl _) ⟨hz2, _, e, nl, he⟩, rfl, q _ ss' fr b2 b3⟩

/-! ### t[lo:hi] of a tuple, the whole too -/
def rSlT2 (K : PySem.W.Frag) : V → Option Int → Option Int → Hp → VK → Prop := fun x lo hi H Q => ∃ a xs, x = .ref a ∧ SqT K H a xs ∧ ∀ v H', (v = .ref a ∧ H' = H ∧ cutV xs lo hi = xs) ∨ (∃ p, H p = none ∧ v = .ref p ∧ H' = upd H p (.tup (cutV xs lo hi))) → Q v H'
end
namespace AxT
variable {prog : Program} {w : World} {A : Around} {E : Value → Shared → Prop} {s : Shared}
open HT
theorem getItem_tuple_whole {t sl : Addr} {items : Array Value} {vl vu : Value} {lo hi : Option Int} {Q : Value → Shared → Prop} (ht : IsTup s.heap t items) (hs : s.heap.IsSliceOf sl vl vu .none) (pl : IsPart vl lo) (pu : IsPart vu hi)
    (hw : sIx items.size 0 lo = 0 ∧ sIx items.size items.size hi = items.size) (h : Q (.ref t) s) : wpAny (model prog w) A (getItem (.ref t) (.ref sl)) Q E s := by
  obtain ⟨os, hos, hcs, hds⟩ := id hs
  have hTs : s.TypeIs (.ref sl) "slice" := ⟨os, hos, hcs⟩
  unfold getItem
  try with_reducible refine wpAny_holding ?_
  first | refine wpAny_bind (wpAny_pure ?_) | skip
  refine wpAny_bind (wpAny_sequenceKey ht.typeIs (by decide) ?_)
  refine wpAny_bind (wpAny_callSpecial?_slot (name := Str.ofString "__getitem__") ht.typeIs PyProof.Rows.slot_tuple_getitem
    (wpAny_call_entry PyProof.Rows.slot_tuple_getitem ht.typeIs entry_tuple_getitem ?_ (args_tuple_getitem _ _)))
  show wpAny _ _ (Builtin.Tuple.tupleItemsOf (.ref t) >>= _) _ _ s
  refine wpAny_bind (tupleItemsOf_ ht ?_)
  refine wpAny_bind (wpAny_typeOf hTs ?_)
  rw [if_pos (by decide)]
  refine wpAny_bind (sliceApplied_gen hs pl pu ?_)
  have hyes : (((sIx items.size 0 lo : Nat) : Int) == 0 && (1 : Int) == 1 && (sIx items.size items.size hi - sIx items.size 0 lo) == items.size) = true := by
    rw [hw.1, hw.2]
    simp
  show wpAny _ _ (if (((sIx items.size 0 lo : Nat) : Int) == 0 && (1 : Int) == 1 && (sIx items.size items.size hi - sIx items.size 0 lo) == items.size) = true then _ else _) _ _ s
  rw [if_pos hyes]
  obtain ⟨o, ho, hc, n, hd⟩ := id ht
  refine wpAny_bind (m := Builtin.Tuple.tupleIsExact _) ?_
  unfold Builtin.Tuple.tupleIsExact
  refine wpAny_bind (wpAny_typeOf ht.typeIs (wpAny_pure ?_))
  rw [if_pos (by decide)]
  exact wpAny_bind (wpAny_rule (wpAny_pure ⟨_, rfl, wpAny_pure h⟩))
end AxT
section
variable {X : Cx}
theorem sl_tup2 : SlR X (rSlT2 X.K) := by
  intro pins s σ H x v vl vu lo hi sl Q I rx hs pl pu h
  obtain ⟨a, xs, rfl, hx, q⟩ := h
  cases rx
  obtain ⟨its, r, ht, hz⟩ := I.tuple hx
  have hlen : its.toArray.size = xs.length := by rw [List.size_toArray]; exact r.length.symm
  refine ⟨"tuple", _, PyProof.Rows.slot_tuple_getitem.lookup, ht.typeIs, ?_⟩
  by_cases hw : HT.sIx its.toArray.size 0 lo = 0 ∧ HT.sIx its.toArray.size its.toArray.size hi = its.toArray.size
  · refine AxT.getItem_tuple_whole ht hs pl pu hw ⟨.ref a, H, I, rfl, q _ _ (.inl ⟨rfl, rfl, ?_⟩)⟩
    rw [hlen] at hw
    unfold cutV
    rw [hw.1, hw.2]
    simp
  · refine HT.getItem_tuple_cut ht hs pl pu hw ?_ (by rw [hlen]; exact hz)
    rw [hlen]
    refine ⟨.ref s.heap.objs.size, _, I.laid (t' := s.toks) (o := .tup (cutV xs lo hi)) (fun b ob q => Heap.get?_push_of_some _ q) (Nat.le_refl _) ?_, rfl, q _ _ (.inr ⟨_, I.hok.fresh (Nat.le_refl _), rfl, rfl⟩)⟩
    exact ⟨Nat.le_trans (cutV_length xs lo hi) hz, _, (r.drop (HT.sIx xs.length 0 lo)).take (HT.sIx xs.length xs.length hi - HT.sIx xs.length 0 lo), IsTup.new _ _⟩

/-! ### calls of the text's own defs, by one fact each -/
/-- a def of the text: its promise, and how it is called -/
structure Cal (P : Program) (w : World) (K : PySem.W.Frag) (mg : Str → Option Value) (base : Heap) (k : Nat) (x : Str) (ps : List Str) (sp : Sp) : Prop where
  ex : ∃ (f : Addr) (fd : FuncData), FnOk P w K mg base CX0 k f fd ps sp ∧ mg x = some (.ref f) ∧ PySem.W.keepIn K (.ref f) = true ∧ Binds K fd ps []
theorem pe_callC {k : Nat} {x : Str} {ps : List Str} {sp : Sp} {e : Expr} {es : List Expr} {t : TA} {p pos : Pos} (C : Cal X.prog X.w X.K X.mg X.base k x ps sp) (hr : Room k X.A) (ha : PA X (e :: es) t) (hg : Gl X x := by rfl)
    (hdb : (x == ("__debug__" : Str)) = false := by decide) (he : starEach (e :: es) X.env = (false, eval e X.env) :: starEach es X.env := by rfl) (hpl : (backTo pos (starEach es X.env)).any (·.1) = false := by rfl) :
    PE X (.Call (.Name x p) (e :: es) [] pos) (tCall sp [] E0 t) := by
  obtain ⟨f, fd, F, hm, hk, hb⟩ := C.ex
  exact pe_call F hr hg hm hk hb .nil pass0 ha hdb he hpl
theorem Cal.mk' {P : Program} {w : World} {K : PySem.W.Frag} {mg : Str → Option Value} {base : Heap} {k : Nat} {x qual : Str} {st : Stmt} {f : Addr} {fd : FuncData} {ps : List Str} {sp : Sp} (F : Fun K x qual st f fd) (G : FnOk P w K mg base CX0 k f fd ps sp) (hm : mg x = some (.ref f))
    (b : Binds K fd ps []) : Cal P w K mg base k x ps sp := ⟨f, fd, G, hm, F.kp, b⟩

/-! ### an item of a dict of the text's top -/
def KD (P : Program) (w : World) (K : PySem.W.Frag) (a : Addr) (kvs : List (Key × V)) : Prop := ∀ h : Heap, K.In h → ∃ vs, KV kvs vs ∧ h.DictOf (mixKind P w) a vs
def tKGet (P : Program) (w : World) (K : PySem.W.Frag) (td ty : TE) : TE := fun σ H Q => td σ H fun x H1 => ty σ H1 fun y H2 => ∃ a kvs k v, x = .ref a ∧ y = kV k ∧ KD P w K a kvs ∧ valV kvs k = some v ∧ Q v H2
theorem pe_kget {o i : Expr} {td ty : TE} {pos : Pos} (ho : PE X o td) (hi : PE X i ty) (hs : NoSl i) : PE X (.Subscript o i pos) (tKGet X.prog X.w X.K td ty) := by
  intro pins s σ H Q I h
  refine subD_of PySem.F.slot_dict_getitem.lookup hs (thn (ho pins s σ H _ I h) fun u s1 ⟨x, H1, I1, rx, q1⟩ => thn (hi pins s1 σ H1 _ I1 q1) fun iv s2 ⟨y, H2, I2, ry, a, kvs, k, v, ex, ey, kd, l, q2⟩ => ?_)
  subst ex ey
  obtain rfl : u = Value.ref a := rx
  obtain ⟨vs, rel, dd⟩ := kd _ I2.kIn
  obtain ⟨w', hw, rw'⟩ := RelO.some_of (v := v) (o := valueAt vs k) (by rw [← l]; exact rel.val k)
  exact ⟨dd.typeIs, wpAny_getItem_of (kV_is ry) dd.mapOf hw ⟨v, H2, I2.tok _, rw', q2⟩⟩

/-! ### isinstance(x, T), T a builtin type -/
theorem call_isinst : CallR X (.builtin "isinstance") (fun xs H Q => ∃ y T t b, xs = [y, .ty T] ∧ TyOf X.K H y t ∧ PySem.W.kitOne X.K t (.type T) = some b ∧ Q (.bl b) H) := by
  intro pins s σ H xs us Q I r h
  obtain ⟨y, T, t, b, rfl, ty, kt, q⟩ := h
  obtain ⟨u, w', rfl, ru, rw'⟩ := vals2 r
  cases (show w' = Value.type T from rw')
  exact isinst_ok I ru ty kt fun tk => ⟨.bl b, H, I.tok _, rfl, q⟩
end
end L2

set_option Elab.async false
set_option linter.all false
set_option maxRecDepth 100000
set_option maxHeartbeats 4000000
namespace L2
open PySem PySem.Spec PyProof.Rows
/-! rules that name the fragment: for a comprehension's block -/
section
variable {X : Cx} {a : Expr} {ta : TE} {K : PySem.W.Frag}
def tTru (K : PySem.W.Frag) (ta : TE) : TT := fun σ H Q => ta σ H fun x H' => ∃ k, TruV K x H' k ∧ Q k H'
theorem pt_truthK (ha : PE X a ta) (he : ∀ whole, isTrue a X.env whole = (do let v ← whole; standAt a.pos; holding [v] (truthy v))) (hK : X.K = K := by rfl) : PT X a (tTru K ta) := by
  subst hK
  exact pt_truth ha he
def rIsi (K : PySem.W.Frag) : List V → Hp → VK → Prop := fun xs H Q => ∃ y T t b, xs = [y, .ty T] ∧ TyOf K H y t ∧ PySem.W.kitOne K t (.type T) = some b ∧ Q (.bl b) H
theorem call_isinstK (hK : X.K = K := by rfl) : CallR X (.builtin "isinstance") (rIsi K) := by
  subst hK
  exact call_isinst
end
end L2
/-! texts, lists of texts, heaps: what every law's text wants -/
namespace An
open PySem L2

abbrev cs (x : Str) : List Nat := x.cps.toList
theorem cs_inj {x y : Str} (h : cs x = cs y) : x = y := by
  obtain ⟨a⟩ := x
  obtain ⟨b⟩ := y
  have : a = b := by simpa using h
  rw [this]
theorem cs_append (x y : Str) : cs (x ++ y) = cs x ++ cs y := by
  show (x.cps ++ y.cps).toList = _
  simp
theorem length_cs (x : Str) : x.length = (cs x).length := by simp [Str.length]
theorem len_append (x y : Str) : (x ++ y).length = x.length + y.length := by rw [length_cs, length_cs, length_cs, cs_append, List.length_append]
theorem cs_joinNil : ∀ xs : List Str, cs (Str.join "" xs) = xs.flatMap cs
  | [] => rfl
  | [x] => by show cs x = _; simp
  | x :: y :: r => by
    show cs (x ++ "" ++ Str.join "" (y :: r)) = _
    have : cs ("" : Str) = [] := by decide +kernel
    rw [cs_append, cs_append, cs_joinNil (y :: r), this, List.append_nil]
    simp
theorem eqv_strs : ∀ (a b : List Str), PyData.eqvAll (a.map .str) (b.map .str) = decide (a = b)
  | [], [] => rfl
  | [], _ :: _ => rfl
  | _ :: _, [] => rfl
  | x :: a, y :: b => by
    show ((x == y) && PyData.eqvAll (a.map .str) (b.map .str)) = _
    rw [eqv_strs a b, Bool.eq_iff_iff]
    simp
/-! ### texts that are small and good -/
structure Ok (n : Nat) (x : Str) : Prop where
  len : x.length ≤ n
  ok : PyData.strOk x = true
theorem strOk_iff (x : Str) : PyData.strOk x = true ↔ ∀ c ∈ cs x, c < 1114112 := by
  unfold PyData.strOk
  rw [← Array.all_toList, List.all_eq_true]
  simp
theorem Ok.mono {m n : Nat} {x : Str} (h : Ok m x) (l : m ≤ n) : Ok n x := ⟨Nat.le_trans h.len l, h.ok⟩
theorem Ok.append {m n : Nat} {x y : Str} (h : Ok m x) (h' : Ok n y) : Ok (m + n) (x ++ y) := ⟨by rw [len_append]; have := h.len; have := h'.len; omega, by
  rw [strOk_iff, cs_append]
  intro c hc
  rcases List.mem_append.mp hc with z | z
  · exact (strOk_iff x).mp h.ok c z
  · exact (strOk_iff y).mp h'.ok c z⟩
theorem lay_strs : ∀ ls : List Str, (∀ p ∈ ls, PyData.strOk p = true) → PyData.canLayAll0 (ls.map .str) = true ∧ PyData.depthAll (ls.map .str) = 0
  | [], _ => ⟨rfl, rfl⟩
  | x :: ls, h => by
    obtain ⟨h1, h2⟩ := lay_strs ls fun p hp => h p (List.mem_cons_of_mem _ hp)
    refine ⟨?_, ?_⟩
    · show (PyData.strOk x && PyData.canLayAll0 (ls.map .str)) = true
      rw [h x List.mem_cons_self, h1]; rfl
    · show max 0 (PyData.depthAll (ls.map .str)) = 0
      rw [h2]; rfl
theorem shaped_strs {ls : List Str} (h : ∀ p ∈ ls, PyData.strOk p = true) : SeqAt.shaped (.list (ls.map .str)) = true ∧ SeqAt.shaped (.tuple (ls.map .str)) = true := by
  obtain ⟨h1, h2⟩ := lay_strs ls h
  refine ⟨?_, ?_⟩
  · show (PyData.canLayAll0 (ls.map .str) && decide (PyData.depthAll (ls.map .str) + 1 ≤ 64)) = true
    rw [h1, h2]; rfl
  · show (PyData.canLayAll0 (ls.map .str) && decide (PyData.depthAll (ls.map .str) + 1 ≤ 64)) = true
    rw [h1, h2]; rfl
theorem mem_slice {x : Str} {lo hi : Option Int} {c : Nat} (h : c ∈ cs (Txt.slice x lo hi)) : c ∈ cs x := by
  unfold Txt.slice at h
  split at h
  · exact h
  · have h : c ∈ (Builtin.Str.strSliceIndices lo hi 1 x.length).filterMap (x.cps[·]?) := by simpa using h
    obtain ⟨i, _, e⟩ := List.mem_filterMap.mp h
    have e2 : (cs x)[i]? = some c := by rw [← e]; simp
    exact List.mem_of_getElem? e2
theorem Ok.slice {n : Nat} {x : Str} (h : Ok n x) (lo hi : Option Int) : Ok n (Txt.slice x lo hi) := by
  refine ⟨Nat.le_trans (Txt.slice_le x lo hi) h.len, ?_⟩
  rw [strOk_iff]
  intro c hc
  exact (strOk_iff x).mp h.ok c (mem_slice hc)
theorem same_upd {H : Hp} {l : Addr} {o : HO} (h : H l = none) : Same H (upd H l o) := fun b u e => by rw [upd_ne (ne_of_none e h)]; exact e
theorem Same.updF {H H2 : Hp} {l : Addr} {o : HO} (e : Same H H2) (n : H l = none) : Same H (upd H2 l o) := fun b u q => by rw [upd_ne (ne_of_none q n)]; exact e b u q
theorem snoc_get {α : Type} {xs : List α} {x y : α} {i : Nat} (h : (xs ++ [x])[i]? = some y) : (i < xs.length ∧ xs[i]? = some y) ∨ (i = xs.length ∧ y = x) := by
  by_cases hi : i < xs.length
  · rw [List.getElem?_append_left hi] at h; exact .inl ⟨hi, h⟩
  · rw [List.getElem?_append_right (by omega)] at h
    have : i - xs.length = 0 := by
      cases q : i - xs.length with
      | zero => rfl
      | succ n => rw [q] at h; simp at h
    rw [this] at h
    exact .inr ⟨by omega, (Option.some.inj h).symm⟩
theorem le_line {n : Nat} (h : n ≤ 16777216) : n ≤ sizeLine := by rw [sizeLine_eq]; exact h
theorem lt_line {n : Nat} (h : n < 16777216) : n < sizeLine := by rw [sizeLine_eq]; exact h
theorem Ok.line {n : Nat} {x : Str} (h : Ok n x) (hn : n ≤ 16777216) : x.length ≤ sizeLine := le_line (Nat.le_trans h.len hn)
theorem atI_zero {α : Type} (x : α) (r : List α) : atI (x :: r) 0 = some x := atI_nat (j := 0) rfl
theorem lineN (n : Nat) (h : n ≤ 16777216 := by decide) : n ≤ sizeLine := le_line h
theorem iteY {c A B : Prop} [Decidable c] (hc : c) (h : A) : if decide c = true then A else B := by
  rw [decide_eq_true hc]; exact iteT h
theorem iteN {c A B : Prop} [Decidable c] (hc : ¬ c) (h : B) : if decide c = true then A else B := by
  rw [decide_eq_false hc]; exact iteF h
theorem sum_le {n : Nat} : ∀ (ys : List Str), (∀ y ∈ ys, y.length ≤ n) → (ys.map (·.length)).sum ≤ ys.length * n
  | [], _ => by simp
  | y :: ys, h => by
    have h1 := sum_le ys fun z hz => h z (List.mem_cons_of_mem _ hz)
    have h2 := h y List.mem_cons_self
    rw [List.map_cons, List.sum_cons, List.length_cons, Nat.succ_mul]
    omega
theorem mem_snoc {α : Type} {p : α → Prop} {l : List α} {x : α} (h : ∀ y ∈ l, p y) (hx : p x) : ∀ y ∈ l ++ [x], p y := fun y hy => by
  rcases List.mem_append.mp hy with z | z
  · exact h y z
  · rw [List.mem_singleton.mp z]; exact hx
/-! ### an item by a place that is an int -/
theorem at_of {α : Type} {xs : List α} {i : Int} (h0 : 0 ≤ i) (h1 : i < xs.length) : ∃ x, xs[i.toNat]? = some x ∧ atI xs i = some x := by
  obtain ⟨j, rfl⟩ := Int.eq_ofNat_of_zero_le h0
  have hj : j < xs.length := by omega
  exact ⟨xs[j], by simp [hj], atI_nat (by simp [hj])⟩
theorem at_map {α : Type} {f : α → V} {xs : List α} {i : Int} (h0 : 0 ≤ i) (h1 : i < xs.length) : ∃ x, xs[i.toNat]? = some x ∧ atI (xs.map f) i = some (f x) := by
  obtain ⟨j, rfl⟩ := Int.eq_ofNat_of_zero_le h0
  have hj : j < xs.length := by omega
  refine ⟨xs[j], by simp [hj], atI_nat ?_⟩
  rw [List.getElem?_map, List.getElem?_eq_getElem hj]; rfl
theorem ixN_of {n : Nat} {i : Int} (h0 : 0 ≤ i) (h1 : i < n) : ixN n i = some i.toNat := by
  unfold ixN
  rw [if_pos h0, if_pos h1]
theorem cut_to {xs : List V} {i : Int} (h0 : 0 ≤ i) : cutV xs none (some i) = xs.take i.toNat := by
  obtain ⟨j, rfl⟩ := Int.eq_ofNat_of_zero_le h0
  unfold cutV
  rw [HT.sIx_none, HT.sIx_nat, List.drop_zero]
  show xs.take (min j xs.length - 0) = xs.take j
  by_cases h : j ≤ xs.length
  · rw [Nat.min_eq_left h]; rfl
  · rw [Nat.min_eq_right (by omega), Nat.sub_zero, List.take_length, List.take_of_length_le (by omega)]
theorem cut_from {xs : List V} {i : Int} (h0 : 0 ≤ i) : cutV xs (some i) none = xs.drop i.toNat := by
  obtain ⟨j, rfl⟩ := Int.eq_ofNat_of_zero_le h0
  unfold cutV
  rw [HT.sIx_none, HT.sIx_nat]
  show (xs.drop (min j xs.length)).take (xs.length - min j xs.length) = xs.drop j
  by_cases h : j ≤ xs.length
  · rw [Nat.min_eq_left h]
    exact List.take_of_length_le (by rw [List.length_drop]; omega)
  · rw [Nat.min_eq_right (by omega), List.drop_eq_nil_of_le (Nat.le_refl _), List.drop_eq_nil_of_le (by omega)]; simp
/-! ### heaps that keep all but lists -/
def TSame (H H' : Hp) : Prop := ∀ b o, H b = some o → (∀ xs, o ≠ .lst xs) → H' b = some o
theorem same_t {H H' : Hp} (e : Same H H') : TSame H H' := fun b o h _ => e b o h
theorem TSame.trans {H H1 H2 : Hp} (a : TSame H H1) (b : TSame H1 H2) : TSame H H2 := fun c o h n => b c o (a c o h n) n
theorem TSame.refl (H : Hp) : TSame H H := fun _ _ h _ => h
theorem TSame.upd {H : Hp} {l : Addr} {xs ys : List V} (h : H l = some (.lst xs)) : TSame H (L2.upd H l (.lst ys)) := fun b o e n => by
  have hb : b ≠ l := fun z => by rw [z, h] at e; cases e; exact n xs rfl
  rw [upd_ne hb]; exact e
theorem TSame.tup {K : PySem.W.Frag} {H H' : Hp} {a : Addr} {xs : List V} (e : TSame H H') (h : SqT K H a xs) : SqT K H' a xs := by
  rcases h with (h | ⟨o, h⟩) | h
  · exact .inl (.inl (e _ _ h fun xs z => nomatch z))
  · exact .inl (.inr ⟨o, e _ _ h fun xs z => nomatch z⟩)
  · exact .inr h
theorem kit_same (K : PySem.W.Frag) (T : String) : PySem.W.kitOne K (.type T) (.type T) = some true := by
  unfold PySem.W.kitOne
  rw [if_pos (by simp)]
theorem iteNF {A B : Prop} (h : B) : if (!true) = true then A else B := by
  show if false = true then A else B
  exact iteF h
theorem iteNT {A B : Prop} (h : A) : if (!false) = true then A else B := by
  show if true = true then A else B
  exact iteT h
/-! ### texts of drawn signs -/
def one (c : Nat) : Str := ⟨#[c]⟩
theorem cs_joinOnes : ∀ l : List Nat, cs (Txt.join "" (l.map one)) = l := by
  intro l
  have e2 : Txt.join "" (l.map one) = Str.join "" (l.map one) := StrLaws.glued_eq_join _ _
  rw [e2, cs_joinNil, List.flatMap_map]
  induction l with
  | nil => rfl
  | cons c l ih =>
    rw [List.flatMap_cons]
    show [c] ++ _ = _
    rw [ih (StrLaws.glued_eq_join _ _)]
    rfl
theorem ok_ones {n : Nat} {l : List Nat} (h : l.length ≤ n) (a : ∀ c ∈ l, c < 128) : Ok n (Txt.join "" (l.map one)) := by
  refine ⟨by rw [length_cs, cs_joinOnes]; exact h, ?_⟩
  rw [strOk_iff, cs_joinOnes]
  intro c hc
  have := a c hc
  omega
theorem sum_ones : ∀ l : List Nat, ((l.map one).map (·.length)).sum = l.length
  | [] => rfl
  | c :: l => by
    rw [List.map_cons, List.map_cons, List.sum_cons, sum_ones l, List.length_cons]
    show 1 + l.length = _
    omega
/-- a menu of n signs -/
def Menu (n : Nat) (x : Str) : Prop := (cs x).length = n ∧ (cs x).all (fun c => decide (c < 128)) = true
theorem Menu.at {n : Nat} {x : Str} (h : Menu n x) {i : Int} (h0 : 0 ≤ i) (h1 : i < n) : ∃ c, atI x.cps.toList i = some c ∧ c < 128 := by
  obtain ⟨j, rfl⟩ := Int.eq_ofNat_of_zero_le h0
  have hj : j < (cs x).length := by rw [h.1]; omega
  refine ⟨(cs x)[j], atI_nat (List.getElem?_eq_getElem hj), ?_⟩
  have := List.all_eq_true.mp h.2 _ (List.getElem_mem hj)
  exact of_decide_eq_true this
theorem Menu.len {n : Nat} {x : Str} (h : Menu n x) (hn : n ≤ 1000) : x.length ≤ sizeLine := le_line (by rw [length_cs, h.1]; omega)
end An

set_option Elab.async false
set_option linter.all false
set_option maxRecDepth 100000
set_option maxHeartbeats 4000000
/-! more rules: <= of texts, all([..]) of truth values -/
namespace L2
open PySem PySem.Spec PyProof.Rows
section
variable {X : Cx} {K : PySem.W.Frag}
def rLeS : R2 := fun x y H Q => ∃ i j : Str, x = .str i ∧ y = .str j ∧ Q (.bl (!decide (j.cps.toList < i.cps.toList))) H
theorem op_leS : OpR X (compareOp .LtE) rLeS := by
  intro pins s σ H x y v u Q I rx ry h
  obtain ⟨i, j, rfl, rfl, q⟩ := h
  obtain ⟨t, rfl⟩ := rx
  obtain ⟨t', rfl⟩ := ry
  exact P.le_str ⟨.bl _, H, I, rfl, q⟩
theorem vals_bl : ∀ {bs : List Bool} {us : List Value}, Vals (bs.map V.bl) us → us = bs.map Value.bool
  | [], us, h => by cases h; rfl
  | b :: bs, us, h => by
    cases h with
    | cons r1 r2 => rw [vals_bl r2]; cases r1; rfl
def rAll (K : PySem.W.Frag) : List V → Hp → VK → Prop := fun xs H Q => ∃ (a : Addr) (bs : List Bool), xs = [.ref a] ∧ SqL K H a (bs.map V.bl) ∧ Q (.bl (bs.all id)) H
theorem call_all (hc : X.calm = true) (hK : X.K = K := by rfl) : CallR X (.builtin "all") (rAll K) := by
  subst hK
  intro pins s σ H xs us Q I r h
  obtain ⟨a, bs, rfl, ha, q⟩ := h
  obtain ⟨u, rfl, ru⟩ := vals1 r
  cases ru
  obtain ⟨its, rv, pl, hz⟩ := I.list ha
  have ei := vals_bl rv
  have hl := pl.isList
  have hlt : a < s.heap.objs.size := by obtain ⟨_, e, _⟩ := hl; exact Heap.lt_size e
  refine call_all_walk (wpAny_pyIter_list hl ?_)
  refine ⟨s.heap.objs.size, [s.heap.objs.size, a], [s.heap.objs.size], its.toArray.size, _, _, fun i => (bs[i]?).getD true, rfl, Walks.list (A := X.A.in1) (I.ok.hd hc) _ a (Nat.ne_of_lt hlt) its.toArray,
    ⟨⟨_, Heap.get?_push_size _ rfl, rfl, rfl⟩, hl.push _⟩, fun i v s' Q' E' hP hQ => ?_, fun h' tk hk => ?_⟩
  · have hP : its[i]? = some v := by simpa using hP
    rw [ei, List.getElem?_map] at hP
    cases e : bs[i]? with
    | none => rw [e] at hP; cases hP
    | some b =>
      rw [e] at hP
      have hP : Value.bool b = v := Option.some.inj hP
      subst hP
      simp only [e, Option.getD_some] at hQ
      exact wpAny_truthy_bool hQ
  · have hlen : its.length = bs.length := by rw [ei, List.length_map]
    have e : ((List.range its.toArray.size).all fun i => (bs[i]?).getD true) = bs.all id := by
      rw [List.size_toArray, hlen]; exact PyProof.Rows.LSm.range_all bs
    rw [e]
    exact ⟨.bl _, H, I.kept (PyProof.Rows.LSm.kept_iter hk), rfl, q⟩
end
/-! ### any datum, also with dicts in it that are not read -/
mutual
def Dw (K : PySem.W.Frag) (H : Hp) : PyData → V → Prop
  | .none, v => v = .non
  | .bool b, v => v = .bl b
  | .int i, v => v = .int i
  | .str x, v => v = .str x
  | .list ds, v => ∃ a xs, v = .ref a ∧ SqL K H a xs ∧ DwAll K H ds xs
  | .tuple ds, v => ∃ a xs, v = .ref a ∧ SqT K H a xs ∧ DwAll K H ds xs
  | .dict _, v => ∃ a kvs, v = .ref a ∧ H a = some (.dK kvs)
def DwAll (K : PySem.W.Frag) (H : Hp) : List PyData → List V → Prop
  | [], xs => xs = []
  | d :: ds, xs => ∃ x r, xs = x :: r ∧ Dw K H d x ∧ DwAll K H ds r
end
mutual
theorem Dw.same {K : PySem.W.Frag} {H H' : Hp} (e : Same H H') : ∀ (d : PyData) (v : V), Dw K H d v → Dw K H' d v
  | .none, _, h => h
  | .bool _, _, h => h
  | .int _, _, h => h
  | .str _, _, h => h
  | .list ds, _, ⟨a, xs, h1, h2, h3⟩ => ⟨a, xs, h1, e.seq h2, DwAll.same e ds xs h3⟩
  | .tuple ds, _, ⟨a, xs, h1, h2, h3⟩ => ⟨a, xs, h1, e.tupS h2, DwAll.same e ds xs h3⟩
  | .dict _, _, ⟨a, kvs, h1, h2⟩ => ⟨a, kvs, h1, e _ _ h2⟩
theorem DwAll.same {K : PySem.W.Frag} {H H' : Hp} (e : Same H H') : ∀ (ds : List PyData) (xs : List V), DwAll K H ds xs → DwAll K H' ds xs
  | [], _, h => h
  | d :: ds, _, ⟨x, r, h1, h2, h3⟩ => ⟨x, r, h1, Dw.same e d x h2, DwAll.same e ds r h3⟩
end
mutual
theorem Dt.dw {K : PySem.W.Frag} {H : Hp} : ∀ {d : PyData} {v : V}, Dt K H d v → Dw K H d v
  | .none, _, h => h
  | .bool _, _, h => h
  | .int _, _, h => h
  | .str _, _, h => h
  | .list ds, _, ⟨a, xs, h1, h2, h3⟩ => ⟨a, xs, h1, h2, DtAll.dw h3⟩
  | .tuple ds, _, ⟨a, xs, h1, h2, h3⟩ => ⟨a, xs, h1, h2, DtAll.dw h3⟩
  | .dict _, _, h => h.elim
theorem DtAll.dw {K : PySem.W.Frag} {H : Hp} : ∀ {ds : List PyData} {xs : List V}, DtAll K H ds xs → DwAll K H ds xs
  | [], _, h => h
  | d :: ds, _, ⟨x, r, h1, h2, h3⟩ => ⟨x, r, h1, Dt.dw h2, DtAll.dw h3⟩
end
theorem DwAll.length {K : PySem.W.Frag} {H : Hp} : ∀ {ds : List PyData} {xs : List V}, DwAll K H ds xs → xs.length = ds.length
  | [], _, h => by rw [show _ = [] from h]; rfl
  | d :: ds, _, ⟨x, r, h1, h2, h3⟩ => by rw [h1, List.length_cons, List.length_cons, DwAll.length h3]
theorem DwAll.get {K : PySem.W.Frag} {H : Hp} : ∀ {ds : List PyData} {xs : List V} {i : Nat} {x : V}, DwAll K H ds xs → xs[i]? = some x → ∃ d, ds[i]? = some d ∧ Dw K H d x
  | [], _, i, x, h, e => by rw [show _ = [] from h] at e; cases e
  | d :: ds, _, 0, x, ⟨x', r, h1, h2, h3⟩, e => by
    rw [h1] at e
    cases e
    exact ⟨d, rfl, h2⟩
  | d :: ds, _, i + 1, x, ⟨x', r, h1, h2, h3⟩, e => by
    rw [h1] at e
    obtain ⟨d', e1, e2⟩ := DwAll.get (i := i) h3 (by simpa using e)
    exact ⟨d', by simpa using e1, e2⟩
theorem DwAll.at {K : PySem.W.Frag} {H : Hp} {ds : List PyData} {xs : List V} {i : Nat} {d : PyData} (h : DwAll K H ds xs) (e : ds[i]? = some d) : ∃ x, xs[i]? = some x ∧ Dw K H d x := by
  have hi : i < xs.length := by rw [h.length]; exact (List.getElem?_eq_some_iff.mp e).1
  obtain ⟨d', e', q⟩ := h.get (List.getElem?_eq_getElem hi)
  rw [e] at e'; cases e'
  exact ⟨_, List.getElem?_eq_getElem hi, q⟩
theorem DwAll.drop {K : PySem.W.Frag} {H : Hp} : ∀ (n : Nat) {ds : List PyData} {xs : List V}, DwAll K H ds xs → DwAll K H (ds.drop n) (xs.drop n)
  | 0, _, _, h => by simpa using h
  | n + 1, [], _, h => by rw [show _ = [] from h]; exact rfl
  | n + 1, d :: ds, _, ⟨x, r, h1, h2, h3⟩ => by rw [h1]; exact DwAll.drop n h3
def nameD : PyData → String
  | .none => "NoneType"
  | .bool _ => "bool"
  | .int _ => "int"
  | .str _ => "str"
  | .list _ => "list"
  | .tuple _ => "tuple"
  | .dict _ => "dict"
section
variable {X : Cx} {pins : List (Addr × Obj)} {σ : St} {H : Hp} {s : Shared} {A : Around} {E : Value → Shared → Prop} {Q : Value → Shared → Prop} {c : Value} {b : Bool} {K : PySem.W.Frag}
theorem isinst_dw {x : V} {u : Value} {d : PyData} (I : Inv X pins σ H s) (rx : RelV x u) (hd : Dw X.K H d x) (e : PySem.W.kitOne X.K (.type (nameD d)) c = some b) (h : ∀ tk, Q (.bool b) { s with toks := tk }) :
    wpAny (model X.prog X.w) A (call (.builtin "isinstance") [u, c]) Q E s := by
  cases d with
  | none => cases (show x = _ from hd); exact isinst_ok I rx .non e h
  | bool y => cases (show x = _ from hd); exact isinst_ok I rx (.bl y) e h
  | int i => cases (show x = _ from hd); exact isinst_ok I rx (.int i) e h
  | str y => cases (show x = _ from hd); exact isinst_ok I rx (.str y) e h
  | dict kvs => obtain ⟨a, ks, rfl, ea⟩ := hd; exact isinst_ok I rx (.dK ea) e h
  | list ds =>
    obtain ⟨a, xs, rfl, hs, _⟩ := hd
    cases (show u = Value.ref a from rx)
    obtain ⟨its, _, ⟨o, n, h1, h2, _⟩, _⟩ := I.list hs
    exact PySem.W.kia_one PySem.W.kitx_list I.kIn ⟨o, h1, h2⟩ e (fun z => nomatch z) h
  | tuple ds =>
    obtain ⟨a, xs, rfl, hs, _⟩ := hd
    cases (show u = Value.ref a from rx)
    obtain ⟨its, _, p, _⟩ := I.tuple hs
    obtain ⟨o, h1, h2, _⟩ := p
    exact PySem.W.kia_one PySem.W.kitx_tuple I.kIn ⟨o, h1, h2⟩ e (fun z => nomatch z) h
def rIsiD (K : PySem.W.Frag) : List V → Hp → VK → Prop := fun xs H Q => ∃ y T d b, xs = [y, .ty T] ∧ Dw K H d y ∧ PySem.W.kitOne K (.type (nameD d)) (.type T) = some b ∧ Q (.bl b) H
theorem call_isinstD (hK : X.K = K := by rfl) : CallR X (.builtin "isinstance") (rIsiD K) := by
  subst hK
  intro pins s σ H xs us Q I r h
  obtain ⟨y, T, d, b, rfl, hd, kt, q⟩ := h
  obtain ⟨u, w', rfl, ru, rw'⟩ := vals2 r
  cases (show w' = Value.type T from rw')
  exact isinst_dw I ru hd kt fun tk => ⟨.bl b, H, I.tok _, rfl, q⟩
end
section
variable {src : List (Option Nat)} {g : TG} {te : TE} {Q : VK} {σ : St} {H : Hp}
theorem comp_str0 {x : Str} (Pv : Nat → List V → St → Hp → Prop) (h0 : Pv 0 [] (srcSt src σ) H) (hz : x.length ≤ sizeLine) (hl : ∀ i ys σ H, i ≤ x.length → Pv i ys σ H → ys.length ≤ i)
    (hs : ∀ i c ys σ H, x.cps[i]? = some c → Pv i ys σ H → g (.str ⟨#[c]⟩) σ H fun σ2 H3 => te σ2 H3 fun y H5 => Pv (i + 1) (ys ++ [y]) σ2 H5)
    (hd : ∀ ys σ H, Pv x.length ys σ H → ∀ p, H p = none → Q (.ref p) (upd H p (.lst ys))) : CompW src (Its x) g tfNil te Q σ H :=
  comp_n x.length Pv h0 hz hl (fun _ _ _ _ => rfl) (fun _ _ _ _ hi _ => hi)
    (fun i ys σ H hi p x' H2 y => by
      obtain ⟨e, c, hc, rfl⟩ := y
      subst e
      rw [noTest]
      exact hs i c ys σ _ hc p) hd
end
end L2

set_option Elab.async false
set_option linter.all false
set_option maxRecDepth 100000
set_option maxHeartbeats 4000000
/-! lines, labels, rows of trees: what DOC.md asks of them, over any datum -/
namespace An
open PySem L2
/-! ### what is asked -/
def signB (c : Nat) : Bool := decide (32 ≤ c) && decide (c ≤ 126) && decide (c ≠ 37)
def lineB (x : Str) : Bool := decide (x.length ≤ 20) && (cs x).all signB
def lowB (c : Nat) : Bool := decide (97 ≤ c) && decide (c ≤ 122)
def labelB (x : Str) : Bool := decide (1 ≤ x.length) && decide (x.length ≤ 8) && (cs x).all lowB
def lineD : PyData → Bool
  | .str x => lineB x
  | _ => false
def linesD : PyData → Bool
  | .tuple ds => ds.all lineD
  | _ => false
def labelD : PyData → Bool
  | .str x => labelB x
  | _ => false
def textD : PyData → Bool
  | .str _ => true
  | _ => false
def rowD : PyData → Bool
  | .tuple [l, n] => labelD l && textD n
  | _ => false
mutual
/-- no text and no row of it is great -/
def small : PyData → Bool
  | .str x => decide (x.length ≤ 1000)
  | .list ds => decide (ds.length ≤ 1000) && smallAll ds
  | .tuple ds => decide (ds.length ≤ 1000) && smallAll ds
  | _ => true
def smallAll : List PyData → Bool
  | [] => true
  | d :: ds => small d && smallAll ds
end
theorem smallAll_get : ∀ {ds : List PyData} {i : Nat} {d : PyData}, smallAll ds = true → ds[i]? = some d → small d = true
  | [], _, _, _, h => by cases h
  | e :: ds, 0, d, h, q => by
    have h : (small e && smallAll ds) = true := h
    have q : e = d := Option.some.inj q
    rw [Bool.and_eq_true] at h
    rw [← q]; exact h.1
  | e :: ds, i + 1, d, h, q => by
    have h : (small e && smallAll ds) = true := h
    rw [Bool.and_eq_true] at h
    exact smallAll_get h.2 (by simpa using q)
theorem small_tuple {ds : List PyData} (h : small (.tuple ds) = true) : ds.length ≤ 1000 ∧ smallAll ds = true := by
  have h : (decide (ds.length ≤ 1000) && smallAll ds) = true := h
  rw [Bool.and_eq_true] at h
  exact ⟨of_decide_eq_true h.1, h.2⟩
theorem lt_one (a c : Nat) : [a] < [c] ↔ a < c := by
  rw [List.cons_lt_cons_iff]
  constructor
  · rintro (h | ⟨_, h⟩)
    · exact h
    · exact absurd h (by simp)
  · exact .inl
theorem not_dec {p q : Prop} [Decidable p] [Decidable q] (h : ¬ p ↔ q) : (!decide p) = decide q := by
  by_cases hp : p
  · rw [decide_eq_true hp, decide_eq_false (fun z => h.mpr z hp)]; rfl
  · rw [decide_eq_false hp, decide_eq_true (h.mp hp)]; rfl
theorem le_one (c a : Nat) (x : Str) (hx : x.cps.toList = [a]) : (!decide ((⟨#[c]⟩ : Str).cps.toList < x.cps.toList)) = decide (a ≤ c) := by
  rw [hx]
  exact not_dec (by show ¬ [c] < [a] ↔ _; rw [lt_one]; omega)
theorem one_le (c a : Nat) (x : Str) (hx : x.cps.toList = [a]) : (!decide (x.cps.toList < (⟨#[c]⟩ : Str).cps.toList)) = decide (c ≤ a) := by
  rw [hx]
  exact not_dec (by show ¬ [a] < [c] ↔ _; rw [lt_one]; omega)
/-! ### promises -/
def spSign : Sp := fun vs H Q _ => ∃ c : Nat, vs = [.str ⟨#[c]⟩] ∧ Q (.bl (signB c)) H
def spLine (K : PySem.W.Frag) : Sp := fun vs H Q _ => ∃ (d : PyData) (v : V), vs = [v] ∧ Dw K H d v ∧ small d = true ∧ ∀ H', Same H H' → Q (.bl (lineD d)) H'
def spLines (K : PySem.W.Frag) : Sp := fun vs H Q _ => ∃ (d : PyData) (v : V), vs = [v] ∧ Dw K H d v ∧ small d = true ∧ ∀ H', Same H H' → Q (.bl (linesD d)) H'
def spLabel (K : PySem.W.Frag) : Sp := fun vs H Q _ => ∃ (d : PyData) (v : V), vs = [v] ∧ Dw K H d v ∧ small d = true ∧ ∀ H', Same H H' → Q (.bl (labelD d)) H'
def spRow (K : PySem.W.Frag) : Sp := fun vs H Q _ => ∃ (d : PyData) (v : V), vs = [v] ∧ Dw K H d v ∧ small d = true ∧ ∀ H', Same H H' → Q (.bl (rowD d)) H'

theorem all_take_succ {α : Type} {l : List α} {f : α → Bool} {i : Nat} {c : α} (h : l[i]? = some c) : (l.take (i + 1)).map f = (l.take i).map f ++ [f c] := by
  rw [List.take_add_one, h, List.map_append]
  rfl
theorem cs_get {x : Str} {i c : Nat} (h : x.cps[i]? = some c) : (cs x)[i]? = some c := by rw [← h]; simp
theorem all_map (l : List α) (f : α → Bool) : (l.map f).all id = l.all f := by
  rw [List.all_map]; rfl
end An

set_option linter.all false
namespace An10
/-- how long a longest common row is -/
def lcs {α : Type} [DecidableEq α] : List α → List α → Nat
  | [], _ => 0
  | _ :: _, [] => 0
  | x :: xs, y :: ys => if x = y then 1 + lcs xs ys else max (lcs xs (y :: ys)) (lcs (x :: xs) ys)
termination_by xs ys => xs.length + ys.length
section
variable {α : Type} [DecidableEq α]
theorem lcs_nil (ys : List α) : lcs [] ys = 0 := by unfold lcs; rfl
theorem lcs_nil' (xs : List α) : lcs xs [] = 0 := by cases xs <;> (unfold lcs; rfl)
theorem lcs_cons (x y : α) (xs ys : List α) : lcs (x :: xs) (y :: ys) = if x = y then 1 + lcs xs ys else max (lcs xs (y :: ys)) (lcs (x :: xs) ys) := by rw [lcs]
theorem lcs_le_cons : ∀ (n : Nat) (xs ys : List α), xs.length + ys.length ≤ n → (∀ x, lcs xs ys ≤ lcs (x :: xs) ys) ∧ (∀ y, lcs xs ys ≤ lcs xs (y :: ys)) ∧ (∀ x, lcs (x :: xs) ys ≤ 1 + lcs xs ys) ∧ (∀ y, lcs xs (y :: ys) ≤ 1 + lcs xs ys)
  | n, [], ys, h => by
    refine ⟨fun x => by rw [lcs_nil]; exact Nat.zero_le _, fun y => by rw [lcs_nil]; exact Nat.zero_le _, fun x => ?_, fun y => by rw [lcs_nil]; exact Nat.zero_le _⟩
    induction ys with
    | nil => rw [lcs_nil', lcs_nil]; exact Nat.zero_le _
    | cons y ys ih =>
      rw [lcs_cons]
      split
      · rw [lcs_nil, lcs_nil]; exact Nat.le_refl _
      · have := ih (by simp at h ⊢; omega)
        rw [lcs_nil] at this ⊢
        try rw [lcs_nil]
        omega
  | n, x' :: xs, [], h => by
    refine ⟨fun x => by rw [lcs_nil']; exact Nat.zero_le _, fun y => by rw [lcs_nil']; exact Nat.zero_le _, fun x => by rw [lcs_nil']; exact Nat.zero_le _, fun y => ?_⟩
    have : ∀ l : List α, lcs l [y] ≤ 1 := by
      intro l
      induction l with
      | nil => rw [lcs_nil]; exact Nat.zero_le _
      | cons a l ih =>
        rw [lcs_cons]
        split
        · rw [lcs_nil']; exact Nat.le_refl _
        · rw [lcs_nil']; omega
    rw [lcs_nil']
    exact this _
  | 0, x' :: xs, y' :: ys, h => by simp at h
  | n + 1, x' :: xs, y' :: ys, h => by
    simp only [List.length_cons] at h
    obtain ⟨a1, a2, a3, a4⟩ := lcs_le_cons n xs ys (by omega)
    obtain ⟨b1, b2, b3, b4⟩ := lcs_le_cons n xs (y' :: ys) (by simp; omega)
    obtain ⟨c1, c2, c3, c4⟩ := lcs_le_cons n (x' :: xs) ys (by simp; omega)
    have e := lcs_cons x' y' xs ys
    have b3' := b3 x'
    have c4' := c4 y'
    have b1' := b1 x'
    have c2' := c2 y'
    have a1' := a1 x'
    have a2' := a2 y'
    have a3' := a3 x'
    have a4' := a4 y'
    refine ⟨fun x => ?_, fun y => ?_, fun x => ?_, fun y => ?_⟩
    · rw [lcs_cons x y' (x' :: xs) ys]
      split
      · omega
      · omega
    · rw [lcs_cons x' y xs (y' :: ys)]
      split
      · omega
      · omega
    · have c3' := c3 x
      rw [lcs_cons x y' (x' :: xs) ys]
      split
      · omega
      · omega
    · have b4' := b4 y
      rw [lcs_cons x' y xs (y' :: ys)]
      split
      · omega
      · omega
theorem lcs_left (x : α) (xs ys : List α) : lcs xs ys ≤ lcs (x :: xs) ys := (lcs_le_cons _ xs ys (Nat.le_refl _)).1 x
theorem lcs_right (y : α) (xs ys : List α) : lcs xs ys ≤ lcs xs (y :: ys) := (lcs_le_cons _ xs ys (Nat.le_refl _)).2.1 y
theorem lcs_same (x : α) (xs ys : List α) : lcs (x :: xs) (x :: ys) = 1 + lcs xs ys := by rw [lcs_cons, if_pos rfl]
theorem lcs_sub {zs xs ys : List α} (h1 : List.Sublist zs xs) (h2 : List.Sublist zs ys) : zs.length ≤ lcs xs ys := by
  induction h1 generalizing ys with
  | slnil => exact Nat.zero_le _
  | cons x h ih => exact Nat.le_trans (ih h2) (lcs_left x _ ys)
  | @cons_cons zs xs x h ih =>
    induction ys with
    | nil => cases h2
    | cons y ys ihy =>
      cases h2 with
      | cons _ h3 => exact Nat.le_trans (ihy h3) (lcs_right y _ _)
      | cons_cons _ h3 =>
        rw [lcs_same, List.length_cons]
        have := ih h3
        omega
/-- the table's numbers -/
def tab (xs ys : List α) (i k : Nat) : Nat := lcs (xs.drop i) (ys.drop k)
theorem tab_end_l {xs ys : List α} {i k : Nat} (h : xs.length ≤ i) : tab xs ys i k = 0 := by unfold tab; rw [List.drop_eq_nil_of_le h, lcs_nil]
theorem tab_end_r {xs ys : List α} {i k : Nat} (h : ys.length ≤ k) : tab xs ys i k = 0 := by unfold tab; rw [List.drop_eq_nil_of_le h, lcs_nil']
theorem tab_step {xs ys : List α} {i k : Nat} {x y : α} (hx : xs[i]? = some x) (hy : ys[k]? = some y) : tab xs ys i k = if x = y then 1 + tab xs ys (i + 1) (k + 1) else max (tab xs ys (i + 1) k) (tab xs ys i (k + 1)) := by
  have h1 : xs.drop i = x :: xs.drop (i + 1) := by
    obtain ⟨h, e⟩ := List.getElem?_eq_some_iff.mp hx
    rw [List.drop_eq_getElem_cons h, e]
  have h2 : ys.drop k = y :: ys.drop (k + 1) := by
    obtain ⟨h, e⟩ := List.getElem?_eq_some_iff.mp hy
    rw [List.drop_eq_getElem_cons h, e]
  unfold tab
  rw [h1, h2, lcs_cons, ← h1, ← h2]
theorem tab_le {xs ys : List α} : ∀ {i k : Nat}, tab xs ys i k ≤ xs.length - i := by
  intro i k
  unfold tab
  generalize hz : xs.drop i = zs
  have hl : zs.length = xs.length - i := by rw [← hz, List.length_drop]
  rw [← hl]
  clear hz hl
  induction zs generalizing k with
  | nil => rw [lcs_nil]; exact Nat.le_refl _
  | cons z zs ih =>
    have := (lcs_le_cons _ zs (ys.drop k) (Nat.le_refl _)).2.2.1 z
    have := ih (k := k)
    rw [List.length_cons]
    omega
/-- one line more put in, behind those that were put in ahead -/
theorem put_sub {zs rs : List α} {a b : Nat} {z : α} (h : List.Sublist zs (rs.take a)) (hb : a ≤ b) (hl : b ≤ rs.length) : List.Sublist (zs ++ [z]) ((rs.take b ++ [z] ++ rs.drop b).take (b + 1)) := by
  have e : (rs.take b ++ [z] ++ rs.drop b).take (b + 1) = rs.take b ++ [z] := by
    have : (rs.take b ++ [z]).length = b + 1 := by rw [List.length_append, List.length_take, Nat.min_eq_left hl]; rfl
    rw [List.take_append_of_le_length (by omega), List.take_of_length_le (by omega)]
  rw [e]
  refine List.Sublist.append (h.trans ?_) (List.Sublist.refl _)
  have : rs.take a = (rs.take b).take a := by rw [List.take_take, Nat.min_eq_left hb]
  rw [this]
  exact List.take_sublist _ _
end
end An10

set_option linter.all false
namespace An10
section
variable {α : Type} [DecidableEq α]
/-- the kept pairs, from the places i and k on; the first number bounds the steps -/
def path (xs ys : List α) : Nat → Nat → Nat → List (Nat × Nat)
  | 0, _, _ => []
  | f + 1, i, k => match xs[i]?, ys[k]? with
    | some x, some y => if x = y then (i, k) :: path xs ys f (i + 1) (k + 1) else if tab xs ys i (k + 1) ≤ tab xs ys (i + 1) k then path xs ys f (i + 1) k else path xs ys f i (k + 1)
    | _, _ => []
theorem path_end {xs ys : List α} {f i k : Nat} (h : xs.length ≤ i ∨ ys.length ≤ k) : path xs ys f i k = [] := by
  cases f with
  | zero => rfl
  | succ f =>
    unfold path
    rcases h with h | h
    · rw [List.getElem?_eq_none h]
    · rw [List.getElem?_eq_none h]
      cases xs[i]? <;> rfl
theorem path_step {xs ys : List α} {f i k : Nat} {x y : α} (hx : xs[i]? = some x) (hy : ys[k]? = some y) :
    path xs ys (f + 1) i k = if x = y then (i, k) :: path xs ys f (i + 1) (k + 1) else if tab xs ys i (k + 1) ≤ tab xs ys (i + 1) k then path xs ys f (i + 1) k else path xs ys f i (k + 1) := by
  rw [path, hx, hy]
/-- enough steps: no more are needed -/
theorem path_more {xs ys : List α} : ∀ (f g i k : Nat), (xs.length - i) + (ys.length - k) ≤ f → (xs.length - i) + (ys.length - k) ≤ g → path xs ys f i k = path xs ys g i k
  | 0, g, i, k, h, _ => by rw [path_end (f := g) (by omega)]; rfl
  | f + 1, 0, i, k, _, h => by rw [path_end (f := f + 1) (by omega)]; rfl
  | f + 1, g + 1, i, k, h1, h2 => by
    by_cases hi : i < xs.length
    · by_cases hk : k < ys.length
      · have hx : xs[i]? = some xs[i] := List.getElem?_eq_getElem hi
        have hy : ys[k]? = some ys[k] := List.getElem?_eq_getElem hk
        rw [path_step hx hy, path_step hx hy, path_more f g (i + 1) (k + 1) (by omega) (by omega), path_more f g (i + 1) k (by omega) (by omega), path_more f g i (k + 1) (by omega) (by omega)]
      · rw [path_end (.inr (by omega)), path_end (.inr (by omega))]
    · rw [path_end (.inl (by omega)), path_end (.inl (by omega))]
theorem path_len {xs ys : List α} : ∀ (f i k : Nat), (xs.length - i) + (ys.length - k) ≤ f → (path xs ys f i k).length = tab xs ys i k
  | 0, i, k, h => by
    rw [path_end (by omega)]
    by_cases hi : xs.length ≤ i
    · rw [tab_end_l hi]; rfl
    · rw [tab_end_r (by omega)]; rfl
  | f + 1, i, k, h => by
    by_cases hi : i < xs.length
    · by_cases hk : k < ys.length
      · have hx : xs[i]? = some xs[i] := List.getElem?_eq_getElem hi
        have hy : ys[k]? = some ys[k] := List.getElem?_eq_getElem hk
        have a := path_len (xs := xs) (ys := ys) f (i + 1) (k + 1) (by omega)
        have b := path_len (xs := xs) (ys := ys) f (i + 1) k (by omega)
        have c := path_len (xs := xs) (ys := ys) f i (k + 1) (by omega)
        rw [path_step hx hy, tab_step hx hy]
        split
        · rw [List.length_cons, a]; omega
        · split
          · rw [b]; omega
          · rw [c]; omega
      · rw [path_end (.inr (by omega)), tab_end_r (by omega)]; rfl
    · rw [path_end (.inl (by omega)), tab_end_l (by omega)]; rfl
/-- rising pairs, at which the lines are alike -/
def Rise (xs ys : List α) : Nat → Nat → List (Nat × Nat) → Prop
  | _, _, [] => True
  | i, k, p :: ps => i ≤ p.1 ∧ k ≤ p.2 ∧ (∃ x, xs[p.1]? = some x ∧ ys[p.2]? = some x) ∧ Rise xs ys (p.1 + 1) (p.2 + 1) ps
theorem Rise.mono {xs ys : List α} : ∀ {ps : List (Nat × Nat)} {i k i' k' : Nat}, Rise xs ys i k ps → i' ≤ i → k' ≤ k → Rise xs ys i' k' ps
  | [], _, _, _, _, _, _, _ => trivial
  | p :: ps, _, _, _, _, ⟨h1, h2, h3⟩, hi, hk => ⟨Nat.le_trans hi h1, Nat.le_trans hk h2, h3⟩
theorem path_rise {xs ys : List α} : ∀ (f i k : Nat), Rise xs ys i k (path xs ys f i k)
  | 0, i, k => trivial
  | f + 1, i, k => by
    by_cases hi : i < xs.length
    · by_cases hk : k < ys.length
      · have hx : xs[i]? = some xs[i] := List.getElem?_eq_getElem hi
        have hy : ys[k]? = some ys[k] := List.getElem?_eq_getElem hk
        rw [path_step hx hy]
        split
        · rename_i e
          exact ⟨Nat.le_refl _, Nat.le_refl _, ⟨xs[i], hx, by rw [e]; exact hy⟩, path_rise f (i + 1) (k + 1)⟩
        · split
          · exact (path_rise f (i + 1) k).mono (Nat.le_succ _) (Nat.le_refl _)
          · exact (path_rise f i (k + 1)).mono (Nat.le_refl _) (Nat.le_succ _)
      · rw [path_end (.inr (by omega))]; trivial
    · rw [path_end (.inl (by omega))]; trivial
end
end An10

set_option linter.all false
/-! spans, and what they make of old lines -/
namespace An12
open PySem L2 An An10
abbrev Row := Int × Int × PyData
def rowDat (r : Row) : PyData := .tuple [.int r.1, .int r.2.1, r.2.2]
def strD : PyData → Str
  | .str x => x
  | _ => ""
def linesOf : PyData → List Str
  | .tuple ds => ds.map strD
  | _ => []
theorem linesOf_strs (ls : List Str) : linesOf (.tuple (ls.map .str)) = ls := by
  show (ls.map PyData.str).map strD = ls
  rw [List.map_map]
  exact (List.map_congr_left (g := id) fun _ _ => rfl).trans (List.map_id _)
theorem strs_of_lines : ∀ {ds : List PyData}, ds.all lineD = true → ds = (ds.map strD).map .str
  | [], _ => rfl
  | .str x :: ds, h => by
    rw [List.all_cons, Bool.and_eq_true] at h
    show _ = PyData.str x :: _
    rw [← strs_of_lines h.2]
  | .none :: _, h => by cases h
  | .bool _ :: _, h => by cases h
  | .int _ :: _, h => by cases h
  | .list _ :: _, h => by cases h
  | .tuple _ :: _, h => by cases h
  | .dict _ :: _, h => by cases h
def noneT : PyData → Bool
  | .tuple [] => true
  | _ => false
def goodRow (n : Nat) (last : Int) (r : Row) : Bool := decide (last < r.1) && decide (r.1 ≤ r.2.1) && decide (r.2.1 ≤ n) && linesD r.2.2 && !(decide (r.1 = r.2.1) && noneT r.2.2)
def goodRows (n : Nat) : Int → List Row → Bool
  | _, [] => true
  | last, r :: rs => goodRow n last r && goodRows n r.2.1 rs
def patchL (xs : List Str) : Nat → List Row → List Str
  | e, [] => xs.drop e
  | e, r :: rs => (xs.drop e).take (r.1.toNat - e) ++ linesOf r.2.2 ++ patchL xs r.2.1.toNat rs
/-- the next row begins no earlier than e -/
def From (e : Nat) : List Row → Prop
  | [] => True
  | r :: _ => (e : Int) ≤ r.1
theorem patch_skip {xs : List Str} {d e : Nat} (h : d ≤ e) : ∀ {rs : List Row}, From e rs → patchL xs d rs = (xs.drop d).take (e - d) ++ patchL xs e rs
  | [], _ => by
    show xs.drop d = (xs.drop d).take (e - d) ++ xs.drop e
    have : xs.drop e = (xs.drop d).drop (e - d) := by rw [List.drop_drop]; congr 1; omega
    rw [this, List.take_append_drop]
  | r :: rs, f => by
    have f : (e : Int) ≤ r.1 := f
    show (xs.drop d).take (r.1.toNat - d) ++ linesOf r.2.2 ++ _ = (xs.drop d).take (e - d) ++ ((xs.drop e).take (r.1.toNat - e) ++ linesOf r.2.2 ++ _)
    have e1 : r.1.toNat - d = (e - d) + (r.1.toNat - e) := by omega
    have e2 : xs.drop e = (xs.drop d).drop (e - d) := by rw [List.drop_drop]; congr 1; omega
    rw [e1, List.take_add, e2]
    simp only [List.append_assoc]
structure GoodR (n : Nat) (last : Int) (r : Row) : Prop where
  lt : last < r.1
  le : r.1 ≤ r.2.1
  top : r.2.1 ≤ n
  lines : linesD r.2.2 = true
  some : ¬ (r.1 = r.2.1 ∧ noneT r.2.2 = true)
theorem goodRow_iff {n : Nat} {last : Int} {r : Row} : goodRow n last r = true ↔ GoodR n last r := by
  unfold goodRow
  constructor
  · intro h
    simp only [Bool.and_eq_true, decide_eq_true_eq, Bool.not_eq_true', Bool.and_eq_false_iff, decide_eq_false_iff_not] at h
    obtain ⟨⟨⟨⟨h1, h2⟩, h3⟩, h4⟩, h5⟩ := h
    exact ⟨h1, h2, h3, h4, fun z => h5.elim (fun y => y z.1) (fun y => by rw [z.2] at y; cases y)⟩
  · rintro ⟨h1, h2, h3, h4, h5⟩
    simp only [Bool.and_eq_true, decide_eq_true_eq, Bool.not_eq_true', Bool.and_eq_false_iff, decide_eq_false_iff_not]
    refine ⟨⟨⟨⟨h1, h2⟩, h3⟩, h4⟩, ?_⟩
    by_cases z : r.1 = r.2.1
    · refine .inr ?_
      cases q : noneT r.2.2 with
      | false => rfl
      | true => exact absurd ⟨z, q⟩ h5
    · exact .inl z
theorem goodRows_from {n : Nat} {last : Int} (h0 : -1 ≤ last) : ∀ {rs : List Row}, goodRows n last rs = true → From (last + 1).toNat rs
  | [], _ => trivial
  | r :: rs, h => by
    have h : (goodRow n last r && goodRows n r.2.1 rs) = true := h
    rw [Bool.and_eq_true] at h
    have := (goodRow_iff.mp h.1).lt
    show (((last + 1).toNat : Nat) : Int) ≤ r.1
    omega
theorem From.mono {d e : Nat} (h : d ≤ e) : ∀ {rs : List Row}, From e rs → From d rs
  | [], _ => trivial
  | r :: rs, f => by
    have f : (e : Int) ≤ r.1 := f
    show (d : Int) ≤ r.1
    omega
theorem goodRows_at {n : Nat} : ∀ {rs : List Row} {last : Int} {j : Nat} {r : Row}, -1 ≤ last → goodRows n last rs = true → rs[j]? = some r → ∃ l', -1 ≤ l' ∧ GoodR n l' r ∧ goodRows n r.2.1 (rs.drop (j + 1)) = true
  | [], _, _, _, _, _, h => by cases h
  | q :: rs, last, 0, r, h0, h, e => by
    have h : (goodRow n last q && goodRows n q.2.1 rs) = true := h
    rw [Bool.and_eq_true] at h
    have e : q = r := Option.some.inj e
    subst e
    exact ⟨last, h0, goodRow_iff.mp h.1, h.2⟩
  | q :: rs, last, j + 1, r, h0, h, e => by
    have h : (goodRow n last q && goodRows n q.2.1 rs) = true := h
    rw [Bool.and_eq_true] at h
    have g := goodRow_iff.mp h.1
    have g1 := g.lt
    have g2 := g.le
    exact goodRows_at (j := j) (by omega) h.2 (by simpa using e)
/-- one cut, from the last row to the first -/
theorem cut_step {xs : List Str} {rs : List Row} {last : Int} {j : Nat} {r : Row} (h0 : -1 ≤ last) (h : goodRows xs.length last rs = true) (e : rs[j]? = some r) :
    (patchL xs 0 (rs.drop (j + 1))).take r.1.toNat ++ linesOf r.2.2 ++ (patchL xs 0 (rs.drop (j + 1))).drop r.2.1.toNat = patchL xs 0 (rs.drop j) ∧ r.1.toNat ≤ (patchL xs 0 (rs.drop (j + 1))).length ∧ r.2.1.toNat ≤ (patchL xs 0 (rs.drop (j + 1))).length := by
  obtain ⟨l', g0, g, hg⟩ := goodRows_at h0 h e
  have g1 := g.lt
  have g2 := g.le
  have g3 := g.top
  have fr : From r.2.1.toNat (rs.drop (j + 1)) := (goodRows_from (by omega) hg).mono (by omega)
  have sk := patch_skip (xs := xs) (Nat.zero_le r.2.1.toNat) fr
  rw [List.drop_zero, Nat.sub_zero] at sk
  have hl : (xs.take r.2.1.toNat).length = r.2.1.toNat := by rw [List.length_take]; omega
  rw [sk]
  refine ⟨?_, by rw [List.length_append, hl]; omega, by rw [List.length_append, hl]; omega⟩
  have hd : rs.drop j = r :: rs.drop (j + 1) := by
    obtain ⟨hj, ej⟩ := List.getElem?_eq_some_iff.mp e
    rw [List.drop_eq_getElem_cons hj, ej]
  rw [hd]
  show _ = (xs.drop 0).take (r.1.toNat - 0) ++ linesOf r.2.2 ++ patchL xs r.2.1.toNat (rs.drop (j + 1))
  rw [List.drop_zero, Nat.sub_zero]
  congr 1
  · congr 1
    rw [List.take_append_of_le_length (by rw [hl]; omega), List.take_take]
    congr 1
    omega
  · rw [List.drop_append_of_le_length (by rw [hl]; omega), List.drop_of_length_le (by rw [hl]; omega), List.nil_append]
/-! ### the spans between two rows of lines -/
def spanR (lo hi : Nat) (ls : List Str) : Row := (lo, hi, .tuple (ls.map .str))
def spanL (xs ys : List Str) : Nat → Nat → List (Nat × Nat) → List Row
  | lo, fi, [] => if lo < xs.length ∨ fi < ys.length then [spanR lo xs.length (ys.drop fi)] else []
  | lo, fi, p :: ps => (if lo < p.1 ∨ fi < p.2 then [spanR lo p.1 ((ys.drop fi).take (p.2 - fi))] else []) ++ spanL xs ys (p.1 + 1) (p.2 + 1) ps
def spans (xs ys : List Str) : List Row := spanL xs ys 0 0 (path xs ys (xs.length + ys.length) 0 0)
theorem span_from {xs ys : List Str} : ∀ {ps : List (Nat × Nat)} {lo fi : Nat}, Rise xs ys lo fi ps → From lo (spanL xs ys lo fi ps)
  | [], lo, fi, _ => by
    unfold spanL
    split
    · exact Int.le_refl _
    · trivial
  | p :: ps, lo, fi, ⟨h1, h2, _, h4⟩ => by
    unfold spanL
    split
    · exact Int.le_refl _
    · exact (span_from h4).mono (by omega)
theorem span_patch {xs ys : List Str} : ∀ {ps : List (Nat × Nat)} {lo fi : Nat}, Rise xs ys lo fi ps → patchL xs lo (spanL xs ys lo fi ps) = ys.drop fi
  | [], lo, fi, _ => by
    unfold spanL
    split
    · show (xs.drop lo).take (((lo : Nat) : Int).toNat - lo) ++ linesOf (.tuple ((ys.drop fi).map .str)) ++ xs.drop ((xs.length : Nat) : Int).toNat = _
      rw [linesOf_strs, Int.toNat_natCast, Nat.sub_self, Int.toNat_natCast, List.take_zero, List.drop_length, List.nil_append, List.append_nil]
    · rename_i h
      show xs.drop lo = ys.drop fi
      rw [List.drop_of_length_le (by omega), List.drop_of_length_le (by omega)]
  | p :: ps, lo, fi, ⟨h1, h2, ⟨x, hx, hy⟩, h4⟩ => by
    have ih := span_patch h4
    have fr := span_from h4
    obtain ⟨xl, xe⟩ := List.getElem?_eq_some_iff.mp hx
    obtain ⟨yl, ye⟩ := List.getElem?_eq_some_iff.mp hy
    have one : patchL xs p.1 (spanL xs ys (p.1 + 1) (p.2 + 1) ps) = ys.drop p.2 := by
      rw [patch_skip (Nat.le_succ p.1) fr, ih]
      have e1 : p.1.succ - p.1 = 1 := by omega
      rw [e1, List.drop_eq_getElem_cons xl, List.drop_eq_getElem_cons yl, xe, ye]
      rfl
    unfold spanL
    split
    · show (xs.drop lo).take (((lo : Nat) : Int).toNat - lo) ++ linesOf (.tuple (((ys.drop fi).take (p.2 - fi)).map .str)) ++ patchL xs ((p.1 : Nat) : Int).toNat (spanL xs ys (p.1 + 1) (p.2 + 1) ps) = _
      rw [linesOf_strs, Int.toNat_natCast, Nat.sub_self, Int.toNat_natCast, List.take_zero, List.nil_append, one]
      have : ys.drop p.2 = (ys.drop fi).drop (p.2 - fi) := by rw [List.drop_drop]; congr 1; omega
      rw [this, List.take_append_drop]
    · rename_i h
      have a1 : lo = p.1 := by omega
      have a2 : fi = p.2 := by omega
      subst a1 a2
      exact one
theorem linesD_strs {ls : List Str} (h : ∀ x ∈ ls, lineB x = true) : linesD (.tuple (ls.map .str)) = true := by
  show (ls.map PyData.str).all lineD = true
  rw [List.all_map, List.all_eq_true]
  exact h
theorem noneT_strs {ls : List Str} (h : noneT (.tuple (ls.map .str)) = true) : ls = [] := by
  cases ls with
  | nil => rfl
  | cons x xs => cases h
theorem span_good {xs ys : List Str} (hy : ∀ y ∈ ys, lineB y = true) : ∀ {ps : List (Nat × Nat)} {lo fi : Nat} {last : Int}, Rise xs ys lo fi ps → last < lo → lo ≤ xs.length → goodRows xs.length last (spanL xs ys lo fi ps) = true
  | [], lo, fi, last, _, h1, h2 => by
    unfold spanL
    split
    · rename_i h
      show (goodRow _ _ _ && true) = true
      rw [Bool.and_true, goodRow_iff]
      refine ⟨h1, (by show (lo : Int) ≤ (xs.length : Int); omega), Int.le_refl _, linesD_strs fun x hx => hy x (List.mem_of_mem_drop hx), ?_⟩
      rintro ⟨z1, z2⟩
      have z1 : (lo : Int) = (xs.length : Int) := z1
      have z2 := List.drop_eq_nil_iff.mp (noneT_strs z2)
      omega
    · rfl
  | p :: ps, lo, fi, last, ⟨a1, a2, ⟨x, hx, hy'⟩, a4⟩, h1, h2 => by
    obtain ⟨xl, xe⟩ := List.getElem?_eq_some_iff.mp hx
    obtain ⟨yl, ye⟩ := List.getElem?_eq_some_iff.mp hy'
    unfold spanL
    split
    · rename_i h
      show (goodRow _ _ _ && goodRows _ ((p.1 : Nat) : Int) _) = true
      rw [Bool.and_eq_true, goodRow_iff]
      refine ⟨⟨h1, (by show (lo : Int) ≤ (p.1 : Int); omega), (by show (p.1 : Int) ≤ (xs.length : Int); omega), linesD_strs fun x hx => hy x (List.mem_of_mem_drop (List.mem_of_mem_take hx)), ?_⟩, span_good hy a4 (by omega) xl⟩
      rintro ⟨z1, z2⟩
      have z1 : (lo : Int) = (p.1 : Int) := z1
      have z2 := congrArg List.length (noneT_strs z2)
      rw [List.length_take, List.length_drop, List.length_nil] at z2
      omega
    · exact span_good hy a4 (by omega) xl
theorem span_self {xs : List Str} : ∀ {f i : Nat}, xs.length - i ≤ f → spanL xs xs i i (path xs xs f i i) = []
  | 0, i, h => by
    show (if i < xs.length ∨ i < xs.length then _ else _) = _
    rw [if_neg (by omega)]
  | f + 1, i, h => by
    by_cases hi : i < xs.length
    · have hx : xs[i]? = some xs[i] := List.getElem?_eq_getElem hi
      rw [path_step hx hx, if_pos rfl]
      unfold spanL
      rw [if_neg (by show ¬ (i < i ∨ i < i); omega), List.nil_append]
      exact span_self (by omega)
    · rw [path_end (.inl (by omega))]
      show (if i < xs.length ∨ i < xs.length then _ else _) = _
      rw [if_neg (by omega)]
theorem spans_self (xs : List Str) : spans xs xs = [] := span_self (by omega)
theorem spans_patch (xs ys : List Str) : patchL xs 0 (spans xs ys) = ys := span_patch (path_rise _ 0 0)
theorem spans_good {xs ys : List Str} (hy : ∀ y ∈ ys, lineB y = true) : goodRows xs.length (-1) (spans xs ys) = true := span_good hy (path_rise _ 0 0) (by decide) (Nat.zero_le _)
def costL : List Row → Int
  | [] => 0
  | r :: rs => 2 + (linesOf r.2.2).length + costL rs
end An12

set_option Elab.async false
set_option linter.all false
/-! the table of common rows: where it lies, and what its makers promise -/
namespace An10
open PySem L2 An
/-- the table's row i -/
def rowV (xs ys : List Str) (i : Nat) : List V := (List.range (ys.length + 1)).map fun k => V.int (tab xs ys i k)
/-- a table lies at t, its rows at as -/
structure TabAt (H : Hp) (xs ys : List Str) (t : Addr) (as : List Addr) : Prop where
  at_ : H t = some (.lst (as.map V.ref))
  len : as.length = xs.length + 1
  row : ∀ i a, as[i]? = some a → H a = some (.lst (rowV xs ys i))
def spTable (K : PySem.W.Frag) : Sp := fun vs H Q _ => ∃ (a b : Addr) (xs ys : List Str), vs = [.ref a, .ref b] ∧ SqT K H a (xs.map V.str) ∧ SqT K H b (ys.map V.str) ∧ xs.length ≤ 100 ∧ ys.length ≤ 100 ∧
  ∀ (t : Addr) (as : List Addr) H', Same H H' → TabAt H' xs ys t as → (t :: as).Nodup → (∀ b ∈ t :: as, H b = none) → Q (.ref t) H'
theorem row_at {xs ys : List Str} {i : Nat} {k : Int} (h0 : 0 ≤ k) (h1 : k ≤ ys.length) : atI (rowV xs ys i) k = some (V.int (tab xs ys i k.toNat)) := by
  obtain ⟨j, rfl⟩ := Int.eq_ofNat_of_zero_le h0
  refine atI_nat ?_
  unfold rowV
  rw [List.getElem?_map, List.getElem?_range (by omega)]
  rfl
theorem rowV_len {xs ys : List Str} {i : Nat} : (rowV xs ys i).length = ys.length + 1 := by unfold rowV; rw [List.length_map, List.length_range]
theorem rowV_ext {xs ys : List Str} {i : Nat} {zs : List V} (hl : zs.length = ys.length + 1) (h : ∀ m, m ≤ ys.length → zs[m]? = some (V.int (tab xs ys i m))) : zs = rowV xs ys i := by
  refine List.ext_getElem? fun m => ?_
  rcases Nat.lt_or_ge m (ys.length + 1) with hm | hm
  · rw [h m (by omega)]
    unfold rowV
    rw [List.getElem?_map, List.getElem?_range hm]
    rfl
  · rw [List.getElem?_eq_none (by omega), List.getElem?_eq_none (by rw [rowV_len]; omega)]
/-- a row of the table, by the row behind it -/
def spTRow (K : PySem.W.Frag) : Sp := fun vs H Q _ => ∃ (x : Str) (b p : Addr) (xs ys : List Str) (i : Nat), vs = [.str x, .ref b, .ref p] ∧ SqT K H b (ys.map V.str) ∧ H p = some (.lst (rowV xs ys (i + 1))) ∧ xs[i]? = some x ∧ ys.length ≤ 100 ∧
  ∀ (l : Addr) H', Same H H' → H l = none → H' l = some (.lst (rowV xs ys i)) → Q (.ref l) H'
theorem flat_rep {α : Type} (x : α) (n : Nat) : (List.replicate n [x]).flatten = List.replicate n x := by
  induction n with
  | zero => rfl
  | succ n ih => rw [List.replicate_succ, List.replicate_succ, List.flatten_cons, ih]; rfl
theorem ixN_nat {n k : Nat} (h : k < n) : ixN n (k : Int) = some k := by
  unfold ixN
  rw [if_pos (by omega), if_pos (by omega)]
  rfl
theorem atI_nat' {xs : List V} {n : Nat} {i : Int} {v : V} (e : i = (n : Int)) (h : xs[n]? = some v) : atI xs i = some v := by
  subst e
  exact atI_nat h
theorem get_one {α : Type} {x c : α} {m : Nat} (h : [x][m]? = some c) : m = 0 ∧ c = x := by
  match m, h with
  | 0, h => exact ⟨rfl, (Option.some.inj h).symm⟩
end An10

set_option Elab.async false
set_option linter.all false
/-! lists of kept pairs: where they lie, and what their maker promises -/
namespace An10
open PySem L2 An
def pairD (p : Nat × Nat) : PyData := .tuple [.int p.1, .int p.2]
/-- a list of pairs lies at l -/
def PairsAt (H : Hp) (l : Addr) (ps : List (Nat × Nat)) : Prop := ∃ ts : List Addr, H l = some (.lst (ts.map V.ref)) ∧ ts.length = ps.length ∧ ∀ (i : Nat) (t : Addr) (p : Nat × Nat), ts[i]? = some t → ps[i]? = some p → H t = some (.tup [V.int p.1, V.int p.2])
theorem PairsAt.same {H H' : Hp} {l : Addr} {ps : List (Nat × Nat)} (h : PairsAt H l ps) (e : Same H H') : PairsAt H' l ps := by
  obtain ⟨ts, h1, h2, h3⟩ := h
  exact ⟨ts, e _ _ h1, h2, fun i t p a b => e _ _ (h3 i t p a b)⟩
theorem dts_pairs {K : PySem.W.Frag} {H : Hp} : ∀ {ps : List (Nat × Nat)} {ts : List Addr}, ts.length = ps.length → (∀ (i : Nat) (t : Addr) (p : Nat × Nat), ts[i]? = some t → ps[i]? = some p → H t = some (.tup [V.int p.1, V.int p.2])) → DtAll K H (ps.map pairD) (ts.map V.ref)
  | [], [], _, _ => rfl
  | [], _ :: _, h, _ => by simp at h
  | _ :: _, [], h, _ => by simp at h
  | p :: ps, t :: ts, h, h2 => ⟨.ref t, ts.map V.ref, rfl, ⟨t, _, rfl, SqT.of (h2 0 t p rfl rfl), _, _, rfl, rfl, _, _, rfl, rfl, rfl⟩, dts_pairs (by simpa using h) fun i t p a b => h2 (i + 1) t p (by simpa using a) (by simpa using b)⟩
theorem PairsAt.dt {K : PySem.W.Frag} {H : Hp} {l : Addr} {ps : List (Nat × Nat)} (h : PairsAt H l ps) : Dt K H (.list (ps.map pairD)) (.ref l) := by
  obtain ⟨ts, h1, h2, h3⟩ := h
  exact ⟨l, _, rfl, SqL.of h1, dts_pairs h2 h3⟩
theorem lay_pairs : ∀ ps : List (Nat × Nat), PyData.canLayAll0 (ps.map pairD) = true ∧ PyData.depthAll (ps.map pairD) ≤ 1 ∧ PyData.eqvAll (ps.map pairD) (ps.map pairD) = true
  | [] => ⟨rfl, Nat.zero_le _, rfl⟩
  | p :: ps => by
    obtain ⟨h1, h2, h3⟩ := lay_pairs ps
    refine ⟨?_, ?_, ?_⟩
    · show (PyData.canLay0 (pairD p) && PyData.canLayAll0 (ps.map pairD)) = true
      rw [h1]; rfl
    · show max (max 0 (max 0 0) + 1) (PyData.depthAll (ps.map pairD)) ≤ 1
      omega
    · show (((((p.1 : Nat) : Int) == p.1) && ((((p.2 : Nat) : Int) == p.2) && true)) && PyData.eqvAll (ps.map pairD) (ps.map pairD)) = true
      rw [h3]; simp
theorem shaped_pairs (ps : List (Nat × Nat)) : SeqAt.shaped (.list (ps.map pairD)) = true := by
  obtain ⟨h1, h2, _⟩ := lay_pairs ps
  show (PyData.canLayAll0 (ps.map pairD) && decide (PyData.depthAll (ps.map pairD) + 1 ≤ 64)) = true
  rw [h1, decide_eq_true (by omega)]; rfl
def spKept (K : PySem.W.Frag) : Sp := fun vs H Q _ => ∃ (a b : Addr) (xs ys : List Str), vs = [.ref a, .ref b] ∧ SqT K H a (xs.map V.str) ∧ SqT K H b (ys.map V.str) ∧ xs.length ≤ 100 ∧ ys.length ≤ 100 ∧ (∀ x ∈ xs, Ok 200 x) ∧ (∀ y ∈ ys, Ok 200 y) ∧
  ∀ (l : Addr) H', Same H H' → H l = none → PairsAt H' l (path xs ys (xs.length + ys.length) 0 0) → Q (.ref l) H'
end An10

set_option Elab.async false
set_option linter.all false
set_option maxRecDepth 100000
set_option maxHeartbeats 4000000
/-! exceptions over the hand layer: raise of an own class, a call that may raise, try with one clause -/
namespace L2
open PySem PySem.Spec PyProof.Rows

theorem ObjOk.there {P : Program} {w : World} {H : Hp} {h : Heap} {a : Addr} {o : HO} (x : ObjOk P w H h a o) : ∃ ob, h.get? a = some ob := by
  cases o with
  | lst xs => obtain ⟨_, _, _, _, e⟩ := x; exact ⟨_, e⟩
  | tup xs => obtain ⟨_, _, _, ob, e, _⟩ := x; exact ⟨_, e⟩
  | dK kvs => obtain ⟨_, _, _, _, ob, _, _, e, _⟩ := x; exact ⟨_, e⟩
  | dT kvs => obtain ⟨_, _, _, _, ob, _, _, e, _⟩ := x; exact ⟨_, e⟩
  | set S n => obtain ⟨ob, _, _, _, e, _⟩ := x; exact ⟨_, e⟩
  | ins C dx fs => obtain ⟨_, _, _, e, _⟩ := x; exact ⟨_, e⟩
  | own y => exact x
  | xd fs => obtain ⟨_, ⟨_, _, _, e, _⟩, _⟩ := x; exact ⟨_, e⟩
  | rng lo hi => obtain ⟨_, _, _, e⟩ := x; exact ⟨_, e⟩
  | frz ob u => obtain ⟨e, _⟩ := x; exact ⟨_, e⟩
  | tbl ps => exact ⟨_, (show h.get? a = some _ from x)⟩
  | met f y => exact ⟨_, (show h.get? a = some _ from x)⟩
  | ext φ => obtain ⟨_, e, _⟩ := x; exact e

/-- an exception at a, its traceback at T -/
def ExcAt (h : Heap) (a T : Addr) (cls : Value) : Prop :=
  ∃ a0 oe vs oT ts, h.get? a = some oe ∧ (oe.cls = cls ∧ vs[0]? = some a0) ∧ oe.data = .fields vs ∧ vs[1]? = some (.ref T) ∧ T ≠ a ∧ h.get? T = some oT ∧ oT.data = .fields ts ∧ ts[3]? = some .none
/-- how an exception lies behind a call -/
def CXF (P : Program) (w : World) : CXT := fun outer H s E e s' => ∃ a T cls H', e = .ref a ∧ s'.os = s.os ∧ AllBare s'.gens ∧ Un (frs outer) [] H H' s.heap s'.heap ∧ HOk P w H' s'.heap ∧
  s.heap.get? a = none ∧ s.heap.get? T = none ∧ H' a = none ∧ H' T = none ∧ ExcAt s'.heap a T cls ∧ E cls none H'

section
variable {X : Cx} {pins : List (Addr × Obj)} {σ : St} {H : Hp} {s : Shared}
theorem Inv.none_of (I : Inv X pins σ H s) {a : Addr} (e : s.heap.get? a = none) : H a = none := by
  cases q : H a with
  | none => rfl
  | some u =>
    obtain ⟨ob, z⟩ := (I.hok a u q).there
    rw [e] at z; cases z
theorem Inv.old_none (I : Inv X pins σ H s) (hex : X.ex = []) {a : Addr} (e : s.heap.get? a = none) : X.s₀.heap.get? a = none := by
  cases q : X.s₀.heap.get? a with
  | none => rfl
  | some o =>
    obtain ⟨ob, z⟩ := I.base.there a o q (by rw [hex]; simp)
    rw [e] at z; cases z
/-- the whole heap but some records and the frames -/
abbrev hidF (h : Heap) (as : List Addr) (l : List Env) : Heap := PySem.W.hideAll h (as ++ frs l)
theorem hidF_frames {h : Heap} {as : List Addr} {base : Heap} {l : List Env} (f : h.FunFrames base l) : h.FunFrames (hidF h as l) l :=
  PySem.W.funFrames_hide f fun env he b hb => List.mem_append_right _ (List.mem_filterMap.mpr ⟨env, he, hb⟩)
theorem hidF_stays {h : Heap} {as : List Addr} {l : List Env} : (hidF h as l).StaysIn h := fun _ _ q => PySem.W.of_hideAll _ q

/-- a made exception leaves the def's frame -/
theorem raise_leaves (hst : X.stack = X.env :: X.outer) (hfr : X.env.frame = some X.env.locals) (hex : X.ex = []) (I : Inv X pins σ H s) {e : Addr} {cls : Value} {args : List Value} {h' : Heap} (hx : Heap.MadeExcOf s.heap h' e cls args) {E : XK} (q : E cls none H)
    {Ex : Value → Shared → Prop} : wpAny (model X.prog X.w) X.A (leaving X.env (.ref e)) (fun _ s'' => CXF X.prog X.w X.outer X.H₀ X.s₀ E (.ref e) s'') Ex { s with heap := h' } := by
  have fr := hidF_frames (as := []) I.stack
  have hA : X.A.frames = some (X.env :: X.outer) := by rw [I.ok.frames, hst]
  obtain ⟨t, he, htn, ht⟩ := hx.there
  have fresh : ∀ b, s.heap.get? b = none → (hidF s.heap [] X.stack).get? b = none := fun b hb => by
    cases hq : (hidF s.heap [] X.stack).get? b with
    | none => rfl
    | some o' => have := hidF_stays b o' hq; rw [hb] at this; cases this
  rw [hst] at fr
  refine wpAny_leaving_firstW (base := hidF s.heap [] X.stack) (a0 := .ref t) hA ((by rw [hst]; exact fr : s.heap.FunFrames (hidF s.heap [] X.stack) (X.env :: X.outer)).of_keeps fun b o hb _ => ⟨o, hx.keeps b o hb, rfl⟩) hfr he (fun b o hb => hx.keeps b o (hidF_stays b o hb)) (fresh e hx.new) rfl rfl rfl fun h2 L => ?_
  obtain ⟨k1, k2, ⟨oe, vs, T, oT, ts, t1, t2, t3, t4, t5, t6, t7, t8, t9⟩, k4⟩ := L
  have stk : ∀ b ∈ frs X.stack, H b = none := I.stkFree
  have kp : ∀ b o, s.heap.get? b = some o → b ∉ frs X.stack → h2.get? b = some o := fun b o e hb => k1 b o (PySem.W.hideAll_get _ e (by simpa using hb))
  have sl : ∀ b o, s.heap.get? b = some o → b ∈ frs X.stack → ∃ sl, h2.get? b = some { o with slots := sl } := fun b o e hb => by
    obtain ⟨_, o', ho', hd⟩ := I.stack.mem hb
    rw [e] at ho'; cases ho'
    exact k4 b o (hx.keeps b o e) hd
  have nL : ∀ b o, X.s₀.heap.get? b = some o → b ≠ X.env.locals := fun b o e => Nat.ne_of_lt (Nat.lt_of_lt_of_le (Heap.lt_size e) I.ok.above)
  have nex : ∀ b, b ∉ X.ex := fun b => by rw [hex]; simp
  have nT : s.heap.get? T = none := by
    cases qT : s.heap.get? T with
    | none => rfl
    | some o =>
      exfalso
      by_cases hT : T ∈ frs X.stack
      · have k2' : h2.FunFrames (hidF s.heap [] X.stack) X.stack := by have z := k2; rw [← hst] at z; exact z
        obtain ⟨_, o', ho', hd⟩ := k2'.mem hT
        rw [t7] at ho'; cases ho'
        exact hd _ t8
      · have z : (hidF s.heap [] X.stack).get? T = some o := PySem.W.hideAll_get _ qT (by simpa using hT)
        rw [t5] at z; cases z
  refine ⟨e, T, cls, H, rfl, I.os, I.bare, ⟨fun b o e1 n hb _ => ?_, fun b o e1 n hb _ => ?_, fun b o e1 n _ => I.base.free b o e1 n (nex b), fun b o e1 _ => ?_, I.base.tups, I.base.frzs, I.base.tbls⟩, fun b u e1 => ?_, I.old_none hex hx.new, I.old_none hex nT, I.none_of hx.new, I.none_of nT, ⟨_, oe, vs, oT, ts, t1, t2, t3, t4, t6, t7, t8, t9⟩, q⟩
  · refine kp b o (I.base.keep b o e1 n hb (nex b)) fun z => ?_
    rcases List.mem_cons.mp (I.stkSub b z) with r | r
    · exact nL b o e1 r
    · exact hb r
  · obtain ⟨sl1, e2⟩ := I.base.slot b o e1 n hb (nex b)
    by_cases hz : b ∈ frs X.stack
    · obtain ⟨sl2, e3⟩ := sl b _ e2 hz
      exact ⟨sl2, e3⟩
    · exact ⟨sl1, kp b _ e2 hz⟩
  · obtain ⟨o', e2⟩ := I.base.there b o e1 (nex b)
    by_cases hz : b ∈ frs X.stack
    · obtain ⟨sl2, e3⟩ := sl b _ e2 hz
      exact ⟨_, e3⟩
    · exact ⟨o', kp b _ e2 hz⟩
  · refine (I.hok b u e1).stay (fun c v hc r => kp c v r fun z => ?_) (fun _ r => r) fun _ _ r => r
    have hz := stk c z
    rcases hc with y | y
    · rw [y, e1] at hz; cases hz
    · rw [y] at hz; cases hz
end

/-! ### raise C(..) -/
/-- an own class of exceptions, straight or by way of others under B, without an __init__ of its own -/
theorem exc_of_in {K : PySem.W.Frag} {h : Heap} {C : Addr} {bmB : List Value} {newId : String} (X : K.In h) (q : PySem.W.excIn K C bmB newId = true) :
    ∃ bm N nm q bs hdct sn sub ab col dd k0 k1 k2 k3 k5 mN, h.get? C = some (excClassObj nm q C N bs bm hdct sn sub ab col dd k0 k1 k2 k3 k5 newId) ∧ h.Ns N mN ∧ mN "__init__" = none ∧ OwnTail h bmB bm := by
  unfold PySem.W.excIn at q
  split at q
  · rename_i dd cd sl ho
    split at q
    · rename_i C' bm k0 k1 k2 k3 n k5 hm hs
      simp only [Bool.and_eq_true, beq_iff_eq, Bool.not_eq_true'] at q
      obtain ⟨⟨⟨⟨⟨rfl, rfl⟩, hdel⟩, ht⟩, hok⟩, hni⟩ := q
      obtain ⟨nm, bs, mro, ns, qn, hd, sn, sub, ab, col, del⟩ := cd
      dsimp only at hm hdel hok hni
      subst hm hdel
      have hsl : sl = #[k0, k1, k2, k3, some (.builtin n), k5] := by
        obtain ⟨l⟩ := sl
        simp only at hs
        rw [hs]
      subst hsl
      exact ⟨bm, ns, nm, qn, bs, hd, sn, sub, ab, col, dd, k0, k1, k2, k3, k5, _, X _ _ ho, .of_isNs (PySem.W.isNs_of_in X hok), PySem.W.nsMap_none_of_in X hok hni, PySem.W.tail_of_in X ht⟩
    · cases q
  · cases q
abbrev mroVE : List Value := [.type "ValueError", .type "Exception", .type "BaseException", .type "object"]
/-- what is wanted where an exception is made here -/
def Throws (X : Cx) (R : St → Hp → Value → Prop) : Prop := ∀ (pins : List (Addr × Obj)) (σ : St) (H : Hp) (s : Shared) (e : Addr) (cls : Value) (args : List Value) (h' : Heap), Inv X pins σ H s → Heap.MadeExcOf s.heap h' e cls args → R σ H cls → X.xe (.ref e) { s with heap := h' }
def tRaise (C : Addr) (R : St → Hp → Value → Prop) (t : TA) : TS := fun _ σ H => t σ H fun vs H1 => vs.length ≤ sizeLine ∧ R σ H1 (.ref C)
section
variable {X : Cx}
theorem ps_raise {x : Str} {C : Addr} {e₀ : Expr} {rest : List Expr} {np cpos pos : Pos} {R : St → Hp → Value → Prop} {t : TA} (hc : X.calm = true) (ht : Throws X R) (hg : Gl X x) (hm : X.mg x = some (.ref C)) (hex : PySem.W.excIn X.K C mroVE "ValueError.__new__" = true) (ha : PA X (e₀ :: rest) t)
    (he : starEach (e₀ :: rest) X.env = (false, eval e₀ X.env) :: starEach rest X.env := by rfl) (hplain : (backTo cpos (starEach rest X.env)).any (·.1) = false := by rfl) (hd : (x == ("__debug__" : Str)) = false := by decide) :
    PS X (.Raise (some (.Call (.Name x np) (e₀ :: rest) [] cpos)) none pos) (tRaise C R t) := by
  intro pins s σ H D I h
  obtain ⟨tl, N, nm, q, bs, hdct, sn, sub, ab, col, dd, k0, k1, k2, k3, k5, mN, hC, hN, hni, T⟩ := exc_of_in I.ok.mod.kin hex
  refine wpAny_Raise_call_subU (C := C) (nm := nm) (q := q) (N := N) (bs := bs) (bm := tl) (hdct := hdct) (sn := sn) (sub := sub) (ab := ab) (col := col) (dd := dd) (k0 := k0) (k1 := k1) (k2 := k2) (k3 := k3) (k5 := k5)
    F.excBase_ValueError (by decide +kernel) F.excBase_ValueError (mN := mN) (T.hasType F.excBase_ValueError.hasBase) (I.ok.hd hc) (by rw [he]; show (false || (backTo cpos (starEach rest X.env)).any (·.1)) = false; rw [hplain]; rfl) hni (ld_glob I hg hm ⟨rfl, ?_⟩ hd)
  have ha' := ha cpos pins s σ H _ I h
  rw [he] at ha' ⊢
  exact Calls.evalArgs_plain (wpAny_mono ha' (fun us s₂ ⟨vs, H2, I2, r2, z2, q2⟩ => ⟨rfl, by rw [← r2.length]; exact z2, I2.bk _ _ hC, hN.keeps I2.bk, T.keeps I2.bk, fun h' e hm' => ht pins σ H2 s₂ e _ _ h' I2 hm' q2⟩) fun _ _ y => y)
/-- a def's body: what it raises leaves it -/
theorem throws_fn {P : Program} {w : World} {K : PySem.W.Frag} {mg : Str → Option Value} {base : Heap} {N : List Str} {qual : Str} {scope : Scope} {f : Addr} {cd : Value} {A : Around} {outer : List Env} {s : Shared} {H : Hp} {E : XK} :
    Throws (cxOf (CXF P w) P w K mg base N qual scope f cd A outer s H E) (fun _ H' cls => E cls none H') :=
  fun _ _ _ _ _ _ _ _ I hx q => raise_leaves rfl rfl rfl I hx q
end

/-! ### a call that may raise -/
def Raises (X : Cx) (R : St → Hp → Value → Prop) : Prop := ∀ (pins : List (Addr × Obj)) (σ : St) (H : Hp) (s : Shared) (e : Value) (s' : Shared), Inv X pins σ H s → CXF X.prog X.w X.stack H s (fun cls _ H' => R σ H' cls) e s' → X.xe e s'
def tCallX (sp : Sp) (R : St → Hp → Value → Prop) (t : TA) : TE := fun σ H Q => t σ H fun vs H1 => sp vs H1 Q (fun cls _ H' => R σ H' cls)
section
variable {X : Cx} {k : Nat} {f : Addr} {fd : FuncData} {ps : List Str} {sp : Sp} {x : Str} {p pos : Pos} {e : Expr} {es : List Expr} {t : TA} {R : St → Hp → Value → Prop}
theorem run_fnX {pins : List (Addr × Obj)} {σ : St} {H : Hp} {s : Shared} {Q : VK} {us : List Value} {vs : List V} (F : FnOk X.prog X.w X.K X.mg X.base (CXF X.prog X.w) k f fd ps sp) (hr : Room k X.A) (hb : Binds X.K fd ps []) (hx : Raises X R)
    (I : Inv X pins σ H s) (r : Vals vs us) (h : sp vs H Q (fun cls _ H' => R σ H' cls)) : wpAny (model X.prog X.w) X.A (call (.ref f) us) (EP X pins σ Q) X.xe s := by
  have hl : us.length = ps.length := by rw [← r.length]; exact F.len _ _ _ _ h
  have hb' := hb s us I.kIn (by simpa using hl)
  rw [List.append_nil] at hb'
  refine wpAny_call (codeAny_mono (F.run X.A X.stack s H ⟨us, []⟩ us vs Q _ hr I.env0 hb' r h) fun r s' hq => ?_)
  cases r with
  | error e => exact hx pins σ H s e s' I hq
  | ok fl =>
    cases fl with
    | ret u => exact I.after hq
    | next => exact False.elim hq
    | brk => exact False.elim hq
    | cont => exact False.elim hq
/-- a def of the text that may raise -/
structure CalX (P : Program) (w : World) (K : PySem.W.Frag) (mg : Str → Option Value) (base : Heap) (k : Nat) (x : Str) (ps : List Str) (sp : Sp) : Prop where
  ex : ∃ (f : Addr) (fd : FuncData), FnOk P w K mg base (CXF P w) k f fd ps sp ∧ mg x = some (.ref f) ∧ PySem.W.keepIn K (.ref f) = true ∧ Binds K fd ps []
theorem pe_callX (C : CalX X.prog X.w X.K X.mg X.base k x ps sp) (hr : Room k X.A) (hx : Raises X R) (ha : PA X (e :: es) t) (hg : Gl X x := by rfl)
    (hdb : (x == ("__debug__" : Str)) = false := by decide) (he : starEach (e :: es) X.env = (false, eval e X.env) :: starEach es X.env := by rfl) (hpl : (backTo pos (starEach es X.env)).any (·.1) = false := by rfl) :
    PE X (.Call (.Name x p) (e :: es) [] pos) (tCallX sp R t) := by
  obtain ⟨f, fd, F, hm, hk, hb⟩ := C.ex
  intro pins s σ H Q I h
  refine wpAny_Call_Name_kw (ld_glob I hg hm ?_ hdb)
  refine PySem.W.callWith_K (h₀ := X.base) I.ok.mod.kin hk (thn (ha pos pins s σ H _ I h) fun us s1 ⟨vs, H1, I1, r, q⟩ => ⟨I1.kIn, ?_⟩) he hpl
  exact run_fnX F hr hb hx I1 r q
end
end L2

set_option Elab.async false
set_option linter.all false
set_option maxRecDepth 100000
set_option maxHeartbeats 4000000
namespace L2
open PySem PySem.Spec PyProof.Rows

/-- a record in nobody's hand that came behind the entry -/
def Fr1 (X : Cx) (pins : List (Addr × Obj)) (H : Hp) (b : Addr) : Prop :=
  H b = none ∧ X.s₀.heap.get? b = none ∧ b ≠ X.env.locals ∧ (∀ x c, X.env.cells.lookup x = some c → c ≠ b) ∧ ∀ p ∈ X.pn ++ pins, p.1 ≠ b
section
variable {X : Cx} {pins pins' : List (Addr × Obj)} {σ : St} {H : Hp} {s : Shared} {h' : Heap} {R : St → Hp → Value → Prop}
theorem Inv.fr1 (I : Inv X pins σ H s) (hex : X.ex = []) {H' : Hp} {b : Addr} (e : s.heap.get? b = none) (n : H' b = none) : Fr1 X pins H' b := by
  refine ⟨n, I.old_none hex e, fun z => ?_, fun x c q z => ?_, fun p hp z => ?_⟩
  · obtain ⟨m, ⟨o, _, _, ho, _⟩, _⟩ := I.loc
    rw [← z, e] at ho; cases ho
  · obtain ⟨v, o, ho, _⟩ := I.cell x c q
    rw [z, e] at ho; cases ho
  · have ho := (I.pin p hp).1
    rw [z, e] at ho; cases ho
/-- records turned, slots of frames changed -/
theorem Inv.land {ch : List Addr} (I : Inv X pins σ H s) (hch : ∀ b ∈ ch, Fr1 X pins H b) (k1 : (hidF s.heap ch X.stack).StaysIn h') (k2 : s.heap.UpToSlots h') (tk : Nat) : Inv X pins σ H { s with heap := h', toks := tk } := by
  have kp : ∀ b o, s.heap.get? b = some o → b ∉ ch → b ∉ frs X.stack → h'.get? b = some o := fun b o e hc hb => k1 b o (PySem.W.hideAll_get _ e (by
    intro z
    rcases List.mem_append.mp z with z | z
    · exact hc z
    · exact hb z))
  have any : ∀ b o, s.heap.get? b = some o → b ∉ ch → ∃ sl, h'.get? b = some { o with slots := sl } := fun b o e hc => by
    by_cases hb : b ∈ frs X.stack
    · obtain ⟨_, o', ho', hd⟩ := I.stack.mem hb
      rw [e] at ho'; cases ho'
      exact k2 b o e hd
    · exact ⟨o.slots, kp b o e hc hb⟩
  have nst : ∀ b, b ≠ X.env.locals → b ∉ X.fs → b ∉ frs X.stack := fun b h1 h2 z => (List.mem_cons.mp (I.stkSub b z)).elim h1 h2
  have nL : ∀ b o, X.s₀.heap.get? b = some o → b ≠ X.env.locals := fun b o e => Nat.ne_of_lt (Nat.lt_of_lt_of_le (Heap.lt_size e) I.ok.above)
  have nch : ∀ b o, X.s₀.heap.get? b = some o → b ∉ ch := fun b o e z => by rw [(hch b z).2.1] at e; cases e
  have cellK : ∀ c v, s.heap.IsCell c v → h'.IsCell c v := fun c v ⟨o, ho, hd⟩ => by
    obtain ⟨sl, e⟩ := k2 c o ho fun vs z => by rw [hd] at z; cases z
    exact ⟨_, e, hd⟩
  refine ⟨I.ok, I.os, I.bare, ⟨fun b o e n hb hx => ?_, fun b o e n hb hx => ?_, I.base.free, fun b o e hx => ?_, I.base.tups, I.base.frzs, I.base.tbls⟩, ?_, fun x c e => ?_, I.free, I.freeC, fun p hp => ?_, fun b u e => ?_, I.len⟩
  · exact kp b o (I.base.keep b o e n hb hx) (nch b o e) (nst b (nL b o e) hb)
  · obtain ⟨sl, e1⟩ := I.base.slot b o e n hb hx
    obtain ⟨sl', e2⟩ := any b _ e1 (nch b o e)
    exact ⟨sl', e2⟩
  · obtain ⟨o', e1⟩ := I.base.there b o e hx
    obtain ⟨sl', e2⟩ := any b _ e1 (nch b o e)
    exact ⟨_, e2⟩
  · obtain ⟨m, hn, hl⟩ := I.loc
    refine ⟨m, k2.ns hn, fun i x v e1 e2 e3 => ?_⟩
    obtain ⟨u, r, l⟩ := hl i x v e1 e2 e3
    refine ⟨u, r, ?_⟩
    rcases l with l | ⟨k, c, e, z⟩
    · exact .inl l
    · exact .inr ⟨k, c, e, cellK c _ z⟩
  · obtain ⟨v, z⟩ := I.cell x c e
    exact ⟨v, cellK c v z⟩
  · obtain ⟨e, n, ne, nf, d⟩ := I.pin p hp
    exact ⟨kp _ _ e (fun z => (hch _ z).2.2.2.2 p hp rfl) (nst _ ne nf), n, ne, nf, d⟩
  · refine (I.hok b u e).stay (fun c v hc r => kp c v r (fun z => ?_) fun z => ?_) (fun _ r => r) fun _ _ r => r
    · have hz := (hch c z).1
      rcases hc with y | y
      · rw [y, e] at hz; cases hz
      · rw [y] at hz; cases hz
    · have hz := I.stkFree c z
      rcases hc with y | y
      · rw [y, e] at hz; cases hz
      · rw [y] at hz; cases hz
theorem Inv.takeUp2 {T : Addr} {o : HO} (I : Inv X pins σ H s) (f : Fr1 X pins H T) (new : ObjOk X.prog X.w (upd H T o) s.heap T o) : Inv X pins σ (upd H T o) s := by
  obtain ⟨n, h0, hL, hc, hp⟩ := f
  refine ⟨I.ok, I.os, I.bare, I.base.adopt2 h0 n, I.loc, I.cell, ?_, fun x c e => ?_, fun p hpp => ?_, I.hok.adopt n new, I.len⟩
  · rw [upd_ne (Ne.symm hL)]; exact I.free
  · rw [upd_ne (hc x c e)]; exact I.freeC x c e
  · obtain ⟨e, n', ne, nf, d⟩ := I.pin p hpp
    exact ⟨e, by rw [upd_ne (hp p hpp)]; exact n', ne, nf, d⟩
/-- the locals are forgotten -/
theorem Inv.forgot (I : Inv X pins σ H s) {m : Str → Option Value} (hn : h'.Ns X.env.locals m) (sb : Heap.SameBut X.env.locals s.heap h') (tk : Nat) : Inv X pins (List.replicate X.N.length none) H { s with heap := h', toks := tk } := by
  have nL : ∀ b o, X.s₀.heap.get? b = some o → b ≠ X.env.locals := fun b o e => Nat.ne_of_lt (Nat.lt_of_lt_of_le (Heap.lt_size e) I.ok.above)
  refine ⟨I.ok, I.os, I.bare, ⟨fun b o e n hb hx => (sb.2 b (nL b o e)).trans (I.base.keep b o e n hb hx), fun b o e n hb hx => ?_, I.base.free, fun b o e hx => ?_, I.base.tups, I.base.frzs, I.base.tbls⟩, ⟨m, hn, fun i x v _ e2 _ => ?_⟩, fun x c e => ?_, I.free, I.freeC, fun p hp => ?_, fun b u e => ?_, by simp⟩
  · obtain ⟨sl, e1⟩ := I.base.slot b o e n hb hx
    exact ⟨sl, (sb.2 b (nL b o e)).trans e1⟩
  · obtain ⟨o', e1⟩ := I.base.there b o e hx
    exact ⟨o', (sb.2 b (nL b o e)).trans e1⟩
  · rw [List.getElem?_replicate] at e2
    split at e2 <;> cases e2
  · obtain ⟨v, z⟩ := I.cell x c e
    exact ⟨v, z.sameBut sb (I.cne x c e)⟩
  · obtain ⟨e, n, ne, nf, d⟩ := I.pin p hp
    exact ⟨(sb.2 p.1 ne).trans e, n, ne, nf, d⟩
  · refine (I.hok b u e).stay (fun c v hc r => (sb.2 c fun z => ?_).trans r) (fun _ r => r) fun _ _ r => r
    have hz := I.free
    rw [← z] at hz
    rcases hc with y | y
    · rw [y, e] at hz; cases hz
    · rw [y] at hz; cases hz

/-- within a try's body -/
def Cx.tryc (X : Cx) (pins : List (Addr × Obj)) (R : St → Hp → Value → Prop) : Cx :=
  { X with pn := X.pn ++ pins, xe := fun e s' => ∃ a T cls σ H, e = .ref a ∧ Inv X pins σ H s' ∧ Fr1 X pins H a ∧ Fr1 X pins H T ∧ ExcAt s'.heap a T cls ∧ R σ H cls }
theorem Inv.into (I : Inv X pins σ H s) (R : St → Hp → Value → Prop) : Inv (X.tryc pins R) [] σ H s :=
  ⟨⟨I.ok.mod, I.ok.kind, I.ok.glob, I.ok.blt, I.ok.above, I.ok.inj, I.ok.has, I.ok.cab, I.ok.hd, I.ok.frames, I.ok.stk, I.ok.exf, I.ok.bs, I.ok.bsz, I.ok.noex, I.ok.exfs, I.ok.funs, I.ok.frf⟩, I.os, I.bare, I.base, I.loc, I.cell, I.free, I.freeC, fun p hp => I.pin p (by
    have hp : p ∈ (X.pn ++ pins) ++ [] := hp
    simpa using hp), I.hok, I.len⟩
theorem Inv.outof (I : Inv (X.tryc pins R) pins' σ H s) : Inv X pins σ H s :=
  ⟨⟨I.ok.mod, I.ok.kind, I.ok.glob, I.ok.blt, I.ok.above, I.ok.inj, I.ok.has, I.ok.cab, I.ok.hd, I.ok.frames, I.ok.stk, I.ok.exf, I.ok.bs, I.ok.bsz, I.ok.noex, I.ok.exfs, I.ok.funs, I.ok.frf⟩, I.os, I.bare, I.base, I.loc, I.cell, I.free, I.freeC, fun p hp => I.pin p (List.mem_append_left _ hp), I.hok, I.len⟩
theorem SP.outof {D : Ends} {f : Flow} {s' : Shared} (h : SP (X.tryc pins R) pins' D f s') : SP X pins D f s' := by
  cases f with
  | next => obtain ⟨σ', H', I, q⟩ := h; exact ⟨σ', H', I.outof, q⟩
  | brk => obtain ⟨σ', H', I, q⟩ := h; exact ⟨σ', H', I.outof, q⟩
  | cont => obtain ⟨σ', H', I, q⟩ := h; exact ⟨σ', H', I.outof, q⟩
  | ret u => obtain ⟨v, σ', H', I, r, q⟩ := h; exact ⟨v, σ', H', I.outof, r, q⟩
theorem raises_tryc (hex : X.ex = []) : Raises (X.tryc pins R) R := by
  intro pins' σ H s e s' I hx
  obtain ⟨a, T, cls, H', rfl, os, bare, un, hok, na, nT, ha, hT, ea, q⟩ := hx
  have I0 : Inv X pins σ H s := I.outof
  have I1 : Inv X pins σ H' s' := I0.call' (ch := []) os un hok bare fun b z => absurd z (by simp)
  exact ⟨a, T, cls, σ, H', rfl, I1, I0.fr1 hex na ha, I0.fr1 hex nT hT, ea, q⟩

/-- within an except suite -/
def Cx.inexc (X : Cx) (e : Value) : Cx := { X with A := X.A.mark (some e), calm := false, xe := fun _ _ => False }
theorem Inv.mark (I : Inv X pins σ H s) (e : Value) : Inv (X.inexc e) pins σ H s :=
  ⟨⟨I.ok.mod, I.ok.kind, I.ok.glob, I.ok.blt, I.ok.above, I.ok.inj, I.ok.has, I.ok.cab, fun z => (by cases z), I.ok.frames, I.ok.stk, I.ok.exf, I.ok.bs, I.ok.bsz, I.ok.noex, I.ok.exfs, I.ok.funs, I.ok.frf⟩, I.os, I.bare, I.base, I.loc, I.cell, I.free, I.freeC, I.pin, I.hok, I.len⟩
theorem Inv.unmark {e : Value} (ok : X.Ok) (I : Inv (X.inexc e) pins σ H s) : Inv X pins σ H s :=
  ⟨ok, I.os, I.bare, I.base, I.loc, I.cell, I.free, I.freeC, I.pin, I.hok, I.len⟩
end

/-- an exception that is in hand -/
def IsExc (a : Addr) (cls : Value) : HO := .ext fun h => ∃ o vs, h.get? a = some o ∧ o.cls = cls ∧ o.data = .fields vs
def tTry (K : PySem.W.Frag) (C : Addr) (i : Nat) (tb : (St → Hp → Value → Prop) → TS) (th : TS) : TS := fun D σ H => ∃ R : St → Hp → Value → Prop, tb R D σ H ∧
  ∀ σ' H' cls a, R σ' H' cls → H' a = none → PySem.W.exmOne K cls (.ref C) = some true ∧ th { nx := fun _ _ => False, rt := D.rt } (σ'.set i (some (.ref a))) (upd H' a (IsExc a cls))
section
variable {X : Cx}
theorem ps_try {body suite : List Stmt} {b₀ : Stmt} {c n : Str} {C : Addr} {i : Nat} {np hpos pos : Pos} {tb : (St → Hp → Value → Prop) → TS} {th : TS} (hst : X.stack = X.env :: X.outer) (hfr : X.env.frame = some X.env.locals) (hex : X.ex = [])
    (hb : ∀ pins R, PSs (X.tryc pins R) body (tb R)) (hg : Gl X c) (hm : X.mg c = some (.ref C)) (hN : X.N.Nodup) (hi : X.N[i]? = some n) (hl : X.env.scope.names.lookup n = some .local) (hs : ∀ e, PSs (X.inexc e) (b₀ :: suite) th)
    (hd : (c == ("__debug__" : Str)) = false := by decide) : PS X (.Try body [.ExceptHandler (some (.Name c np)) (some n) (b₀ :: suite) hpos] [] [] pos) (tTry X.K C i tb th) := by
  intro pins s σ H D I h
  obtain ⟨R, hb1, hh⟩ := h
  refine wpAny_Try_except (wpAny_mono (hb pins R [] s σ H D (I.into R) hb1) (fun f s1 q => ?_) fun e s1 q => ?_)
  · have q' : SP X pins D f s1 := q.outof
    cases f with
    | next => exact wpAny_execs_nil q'
    | brk => exact q'
    | cont => exact q'
    | ret u => exact q'
  · obtain ⟨a, T, cls, σ1, H1, rfl, I1, fa, fT, ⟨a0, oe, vs, oT, ts, e1, e2, e3, e4, e5, e6, e7, e8⟩, r1⟩ := q
    obtain ⟨hx, hth⟩ := hh σ1 H1 cls a r1 fa.1
    have hA : X.A.frames = some (X.env :: X.outer) := by rw [I1.ok.frames, hst]
    have hch : ∀ b ∈ [a, T], Fr1 X pins H1 b := fun b z => by
      rcases List.mem_cons.mp z with z | z
      · rw [z]; exact fa
      · rw [List.mem_singleton.mp z]; exact fT
    have fly : Heap.FlyingW (hidF s1.heap [a, T] X.stack) (X.env :: X.outer) a cls a0 s1.heap :=
      ⟨hidF_stays, PySem.W.hideAll_none _ (by simp), by have z := hidF_frames (as := [a, T]) I1.stack; rw [hst] at z ⊢; exact z, oe, vs, T, oT, ts, e1, e2, e3, e4, PySem.W.hideAll_none _ (by simp), e5, e6, e7, e8⟩
    refine wpAny_looks_onW hA hfr fly fun h2 held2 sm2 => ?_
    refine wpAny_landsW held2 fun h3 fly3 sm3 => ?_
    have I3 : Inv X pins σ1 H1 { s1 with heap := h3 } := I1.land hch fly3.1 (sm2.trans sm3) s1.toks
    refine wpAny_handleBy_cons (codeAny_handlers_test ?_) (by intro z; cases z)
    refine ld_glob (X := X.inexc (.ref a)) (I3.mark _) hg hm ?_ hd
    obtain ⟨ob, hob, hobc⟩ := fly3.there
    have LT : PySem.W.Looks (model X.prog X.w) h3 (typeOf (.ref a)) cls := hobc ▸ (PySem.W.Looks.ld hob).andThen .now
    refine (PySem.W.exm_one (K := X.K) (h := h3) I3.kIn LT hx).here ?_
    refine codeAny_handlers_suite_as (lands_againW fly3 fun h4 fly4 sm4 => ?_)
    have I4 : Inv X pins σ1 H1 { s1 with heap := h4 } := I1.land hch fly4.1 ((sm2.trans sm3).trans sm4) s1.toks
    have new : ObjOk X.prog X.w (upd H1 a (IsExc a cls)) h4 a (IsExc a cls) := by
      obtain ⟨oe4, vs4, g1, g2, g3, _⟩ := fly4.first
      exact ⟨⟨oe4, vs4, g1, g2, g3⟩, ⟨oe4, g1⟩, fun u1 u2 ⟨o, v, z1, z2, z3⟩ k => ⟨o, v, k o z1, z2, z3⟩⟩
    have I5 : Inv X pins σ1 (upd H1 a (IsExc a cls)) { s1 with heap := h4 } := I4.takeUp2 fa new
    refine store_ok (X := X.inexc (.ref a)) (v := .ref a) (I5.mark _) hN hi (Or.inl hl) rfl (fun s6 I6 => ?_) (Or.inr hl)
    refine wpAny_mono (hs (.ref a) pins s6 _ _ _ I6 hth) (fun f s7 q7 => ?_) fun _ _ z => z.elim
    cases f with
    | ret u =>
      obtain ⟨v, σ7, H7, I7, rv, q⟩ := q7
      have I7' : Inv X pins σ7 H7 s7 := I7.unmark I1.ok
      obtain ⟨m, hn, _⟩ := I7'.loc
      refine wpAny_nameGoes hl hn (by rw [I7'.ok.kind]; rfl) fun h8 m8 hn8 sb8 => ?_
      exact ⟨v, _, H7, I7'.forgot hn8 sb8 _, rv, q⟩
    | next => obtain ⟨_, _, _, z⟩ := q7; exact z.elim
    | brk => obtain ⟨_, _, _, z⟩ := q7; exact z.elim
    | cont => obtain ⟨_, _, _, z⟩ := q7; exact z.elim
/-! a clause without a name, the first of any number -/
def tTry0 (K : PySem.W.Frag) (C : Addr) (tb : (St → Hp → Value → Prop) → TS) (th : TS) : TS := fun D σ H => ∃ R : St → Hp → Value → Prop, tb R D σ H ∧
  ∀ σ' H' cls a, R σ' H' cls → H' a = none → PySem.W.exmOne K cls (.ref C) = some true ∧ th D σ' (upd H' a (IsExc a cls))
theorem ps_try0 {body suite : List Stmt} {hs' : List ExceptHandler} {b₀ : Stmt} {c : Str} {C : Addr} {np hpos pos : Pos} {tb : (St → Hp → Value → Prop) → TS} {th : TS} (hst : X.stack = X.env :: X.outer) (hfr : X.env.frame = some X.env.locals) (hex : X.ex = [])
    (hb : ∀ pins R, PSs (X.tryc pins R) body (tb R)) (hg : Gl X c) (hm : X.mg c = some (.ref C)) (hs : ∀ e, PSs (X.inexc e) (b₀ :: suite) th)
    (hd : (c == ("__debug__" : Str)) = false := by decide) : PS X (.Try body (.ExceptHandler (some (.Name c np)) none (b₀ :: suite) hpos :: hs') [] [] pos) (tTry0 X.K C tb th) := by
  intro pins s σ H D I h
  obtain ⟨R, hb1, hh⟩ := h
  refine wpAny_Try_except (wpAny_mono (hb pins R [] s σ H D (I.into R) hb1) (fun f s1 q => ?_) fun e s1 q => ?_)
  · have q' : SP X pins D f s1 := q.outof
    cases f with
    | next => exact wpAny_execs_nil q'
    | brk => exact q'
    | cont => exact q'
    | ret u => exact q'
  · obtain ⟨a, T, cls, σ1, H1, rfl, I1, fa, fT, ⟨a0, oe, vs, oT, ts, e1, e2, e3, e4, e5, e6, e7, e8⟩, r1⟩ := q
    obtain ⟨hx, hth⟩ := hh σ1 H1 cls a r1 fa.1
    have hA : X.A.frames = some (X.env :: X.outer) := by rw [I1.ok.frames, hst]
    have hch : ∀ b ∈ [a, T], Fr1 X pins H1 b := fun b z => by
      rcases List.mem_cons.mp z with z | z
      · rw [z]; exact fa
      · rw [List.mem_singleton.mp z]; exact fT
    have fly : Heap.FlyingW (hidF s1.heap [a, T] X.stack) (X.env :: X.outer) a cls a0 s1.heap :=
      ⟨hidF_stays, PySem.W.hideAll_none _ (by simp), by have z := hidF_frames (as := [a, T]) I1.stack; rw [hst] at z ⊢; exact z, oe, vs, T, oT, ts, e1, e2, e3, e4, PySem.W.hideAll_none _ (by simp), e5, e6, e7, e8⟩
    refine wpAny_looks_onW hA hfr fly fun h2 held2 sm2 => ?_
    refine wpAny_landsW held2 fun h3 fly3 sm3 => ?_
    have I3 : Inv X pins σ1 H1 { s1 with heap := h3 } := I1.land hch fly3.1 (sm2.trans sm3) s1.toks
    refine wpAny_handleBy_cons (codeAny_handlers_test ?_) (by intro z; cases z)
    refine ld_glob (X := X.inexc (.ref a)) (I3.mark _) hg hm ?_ hd
    obtain ⟨ob, hob, hobc⟩ := fly3.there
    have LT : PySem.W.Looks (model X.prog X.w) h3 (typeOf (.ref a)) cls := hobc ▸ (PySem.W.Looks.ld hob).andThen .now
    refine (PySem.W.exm_one (K := X.K) (h := h3) I3.kIn LT hx).here ?_
    refine codeAny_handlers_suite (lands_againW fly3 fun h4 fly4 sm4 => ?_)
    have I4 : Inv X pins σ1 H1 { s1 with heap := h4 } := I1.land hch fly4.1 ((sm2.trans sm3).trans sm4) s1.toks
    have new : ObjOk X.prog X.w (upd H1 a (IsExc a cls)) h4 a (IsExc a cls) := by
      obtain ⟨oe4, vs4, g1, g2, g3, _⟩ := fly4.first
      exact ⟨⟨oe4, vs4, g1, g2, g3⟩, ⟨oe4, g1⟩, fun u1 u2 ⟨o, v, z1, z2, z3⟩ k => ⟨o, v, k o z1, z2, z3⟩⟩
    have I5 : Inv X pins σ1 (upd H1 a (IsExc a cls)) { s1 with heap := h4 } := I4.takeUp2 fa new
    refine wpAny_mono (hs (.ref a) pins _ _ _ _ (I5.mark _) hth) (fun f s7 q7 => ?_) fun _ _ z => z.elim
    cases f with
    | ret u => obtain ⟨v, σ7, H7, I7, rv, q⟩ := q7; exact ⟨v, σ7, H7, I7.unmark I1.ok, rv, q⟩
    | next => obtain ⟨σ7, H7, I7, q⟩ := q7; exact ⟨σ7, H7, I7.unmark I1.ok, q⟩
    | brk => obtain ⟨σ7, H7, I7, q⟩ := q7; exact ⟨σ7, H7, I7.unmark I1.ok, q⟩
    | cont => obtain ⟨σ7, H7, I7, q⟩ := q7; exact ⟨σ7, H7, I7.unmark I1.ok, q⟩
end
end L2

set_option Elab.async false
set_option linter.all false
set_option maxRecDepth 100000
set_option maxHeartbeats 4000000
namespace L2
open PySem PySem.Spec PyProof.Rows
section
variable {P : Program} {w : World} {K : PySem.W.Frag} {mg : Str → Option Value} {base : Heap}
/-- a def that may raise -/
theorem Fun.okX {x qual : Str} {st : Stmt} {f : Addr} {fd : FuncData} {N ps : List Str} {k : Nat} {sp : Sp} (F : Fun K x qual st f fd) (S : FnScope N ps (defScope st)) (len : ∀ vs H Q E, sp vs H Q E → vs.length = ps.length)
    (hbody : ∀ (cdv : Value) (A : Around) (outer : List Env) (s : Shared) (H : Hp) (vs : List V) (Q : VK) (E : XK), Room k (A.deeper (envOfC qual (defScope st) s.heap.objs.size f cdv)) → sp vs H Q E →
      ∃ t, PSs (cxOf (CXF P w) P w K mg base N qual (defScope st) f cdv A outer s H E) (defBody st) t ∧ t { nx := fun _ H' => Q .non H', rt := Q } (start N vs) H) : FnOk P w K mg base (CXF P w) (k + 1) f fd ps sp := by
  obtain ⟨oc, od, kV, doc, pm, an, cdv, ct, osl, rfl, lk, hcd⟩ := F.ex
  refine fn_of lk hcd S len fun A outer s H vs Q E hr hsp => ?_
  obtain ⟨t, h, q⟩ := hbody cdv A outer s H vs Q E hr hsp
  exact ⟨t, h, q⟩
end
end L2

set_option Elab.async false
set_option linter.all false
set_option maxRecDepth 100000
set_option maxHeartbeats 4000000
/-! more rules: range(a, b, -1) -/
namespace L2
open PySem PySem.Spec PyProof.Rows

/-- lo, lo - 1, .., n of them -/
def Itd (lo : Int) (n : Nat) : It := ⟨fun i _ => i < n, fun i H x H' => H' = H ∧ x = .int (lo - i), fun i _ => n ≤ i⟩
theorem turn_rangeD {P : Program} {w : World} {K : PySem.W.Frag} {tg : Expr} (it : Addr) (lo : Int) (n : Nat) : Turn P w K tg (Itd lo n) [it] it (fun i h => IsRangeIter h it (lo + (i : Nat) * (-1)) ((n : Int) - (i : Nat)) (-1)) where
  mem := by simp
  obj := fun i h st b hb => by
    have e : b = it := by simpa using hb
    subst e
    exact ⟨_, st, fun v z => by
      have z' : Data.fields _ = Data.cell v := z
      cases z'⟩
  keep := fun i h h' st k => k it (by simp) _ st
  item := by
    intro X hP hw hK hc i pins s σ H E I hf st hg
    subst hP hw hK
    obtain ⟨f0, f1, f2, f3, f4, f5⟩ := hf it (by simp)
    have W := Walks.range (prog := X.prog) (w := X.w) (I.ok.hd hc) it lo (-1) n
    refine W.item i s _ _ hg st fun v h' tk hv st' kk => ?_
    obtain ⟨t, rfl⟩ := hv
    have I1 : Inv X pins σ H { s with heap := h', toks := tk } := I.turned (fun b o hb e => kk b o (by simpa using hb) e) f0 f1 f3 f4 f5
    refine ⟨_, rfl, go_of (s := { s with heap := h', toks := tk }) (n := "range_iterator") st' rfl rfl (by decide) ⟨.int (lo - i), H, I1, ⟨t, ?_⟩, ⟨rfl, rfl⟩, st', fun b hb => (hf b hb).1⟩⟩
    congr 1
    omega
  done := by
    intro X hP hw hK hc i pins s σ H E I hf st hg
    subst hP hw hK
    obtain ⟨f0, f1, f2, f3, f4, f5⟩ := hf it (by simp)
    exact wpAny_pyNext_range_end (I.ok.hd hc) st (by have : n ≤ i := hg; omega) fun h' eb => ⟨rfl, I.turned (t' := s.toks) (fun b o hb e => eb b o hb e) f0 f1 f3 f4 f5⟩
  self := fun _ _ _ _ _ st h => wpAny_pyIter_rangeiter st h
theorem rangeSize_down (a b : Int) : Builtin.Range.rangeSize a b (-1) = if a > b then a - b else 0 := by
  unfold Builtin.Range.rangeSize
  rw [if_neg (by decide)]
  by_cases h : a > b
  · rw [if_pos h, if_pos h]; simp
  · rw [if_neg h, if_neg h]
theorem small_down {a b : Int} (ha : -(2 ^ 62) ≤ a) (ha' : a < 2 ^ 62) (hb : -(2 ^ 62) ≤ b) (hb' : b < 2 ^ 62) : Builtin.Range.small a b (-1) = true := by
  unfold Builtin.Range.small
  rw [rangeSize_down]
  simp only [Builtin.Range.rangeFitsLong, Bool.and_eq_true, Bool.or_eq_true, decide_eq_true_eq, beq_iff_eq, show ¬ ((-1 : Int) > 0) by decide, if_false]
  split <;> omega
section
variable {X : Cx} {tg : Expr}
def iRngD (ta : TA) : TI := fun σ H R => ta σ H fun vs H1 => ∃ i j : Int, vs = [.int i, .int j, .int (-1)] ∧ (-(2 ^ 28) ≤ i ∧ i < 2 ^ 28 ∧ -(2 ^ 28) ≤ j ∧ j < 2 ^ 28) ∧ R (Itd i (i - j).toNat) H1
theorem pi_rangeD {a b c : Expr} {ta : TA} {p pos : Pos} (hg : Gl X "range") (hm : X.mg "range" = none) (ha : PA X [a, b, c] ta) (hs : starEach [a, b, c] X.env = [(false, eval a X.env), (false, eval b X.env), (false, eval c X.env)] := by rfl)
    (hs2 : starEach [b, c] X.env = [(false, eval b X.env), (false, eval c X.env)] := by rfl) : PI X tg (.Call (.Name "range" p) [a, b, c] [] pos) (iRngD ta) := by
  intro pins s σ H R I h
  refine Call_ (ld_blt I hg hm boot_range (PyProof.Rows.callWith_type1 (thn (ha pos pins s σ H _ I h) fun us s1 ⟨vs, H1, I1, r1, q1⟩ => ?_) (by rw [hs, hs2]) (by rw [hs2]; rfl)))
  obtain ⟨i, j, e, ⟨q1, q2, q3, q4⟩, q⟩ := q1
  subst e
  cases r1 with
  | cons r rr =>
    cases rr with
    | cons r' rr =>
      cases rr with
      | cons r'' rr =>
        cases rr
        obtain ⟨t, rfl⟩ := r
        obtain ⟨u, rfl⟩ := r'
        obtain ⟨v, rfl⟩ := r''
        refine call_range_3 (by decide) ?_ (Or.inl (PyProof.noPylong_small (by decide)))
        refine wpAny_pyIter_range (IsRange.new ..) (small_down (by omega) (by omega) (by omega) (by omega)) ?_
        have I2 : Inv X pins σ H1 { s1 with heap := s1.heap.push { cls := .type "range", data := .fields #[.int i t, .int j u, .int (-1) v] }, toks := s1.toks } := I1.kept fun b o e => Heap.get?_push_of_some _ e
        refine ⟨(s1.heap.push { cls := .type "range", data := .fields #[.int i t, .int j u, .int (-1) v] }).objs.size, [(s1.heap.push { cls := .type "range", data := .fields #[.int i t, .int j u, .int (-1) v] }).objs.size], _, _, H1, rfl,
          I2.kept (t' := s1.toks) fun b o e => Heap.get?_push_of_some _ e, turn_rangeD _ i (i - j).toNat, ?_, fun b hb => ?_, q⟩
        · have e1 : i + ((0 : Nat) : Int) * (-1) = i := by simp
          have e2 : (((i - j).toNat : Nat) : Int) - ((0 : Nat) : Int) = Builtin.Range.rangeSize i j (-1) := by rw [rangeSize_down]; split <;> omega
          show IsRangeIter _ _ (i + ((0 : Nat) : Int) * (-1)) ((((i - j).toNat : Nat) : Int) - ((0 : Nat) : Int)) (-1)
          rw [e1, e2]
          exact Heap.get?_push_size _ rfl
        · have e : b = (s1.heap.push { cls := .type "range", data := .fields #[.int i t, .int j u, .int (-1) v] }).objs.size := by simpa using hb
          subst e
          exact I2.fpOk (Nat.le_refl _) (I2.hok.fresh (Nat.le_refl _))
theorem for_rangeD {lo : Int} {n : Nat} {g : TG} {tb : TS} {D : Ends} {σ : St} {H : Hp} (Pv : Nat → St → Hp → Prop) (h0 : Pv 0 σ H)
    (hs : ∀ i σ H, i < n → Pv i σ H → g (.int (lo - i)) σ H fun σ2 H2 => tb { D with nx := Pv (i + 1), ct := Pv (i + 1), bk := D.nx } σ2 H2) (hd : ∀ σ H, Pv n σ H → D.nx σ H) : ForW (Itd lo n) g tb D σ H :=
  for_n n Pv h0 (fun _ _ _ => Nat.le_refl _) (fun _ _ _ hi _ => hi) (fun i σ H hi p v H' y => by
    obtain ⟨e, ev⟩ := y
    subst e ev
    exact hs i σ _ hi p) hd
end
end L2

set_option Elab.async false
set_option linter.all false
set_option maxRecDepth 100000
set_option maxHeartbeats 4000000
/-! tuples: +, * -/
namespace AxT
open PySem PySem.Spec PyProof.Rows PySem.SeqAt
open AutoSeq1 (wpAny_loadPart')
theorem noFill_tuple_mul : fillsNumberSlot (.type "tuple") "mul" = pure false :=
  PySem.fillsNumberSlot_seq (id := "tuple.__mul__") (r := some (.builtin "tuple.__rmul__")) F.slot_tuple_mul.lookup (by decide +kernel) F.slot_tuple_rmul.lookup (by decide +kernel)
theorem repeat_tuple : seqRepeat? (.type "tuple") = pure (some (.builtin "tuple.__mul__")) := by
  unfold seqRepeat?
  rw [PySem.seqSlot_of (T := "tuple") (name := "__mul__") (id := "tuple.__mul__") F.slot_tuple_mul.lookup (by decide +kernel), PySem.seqSlot_of (T := "tuple") (name := "__rmul__") (id := "tuple.__rmul__") F.slot_tuple_rmul.lookup (by decide +kernel)]
  rfl
theorem int_rmul_tuple (a : Int) (t : Tok) (l : Addr) (items : Array Value) (n : Nat) (dd : Option Addr) (sl : Array (Option Value)) :
    Meets (Builtin.«int.__rmul__» ⟨[.int a t, .ref l], []⟩) (fun _ R s => s.heap.get? l = some { cls := .type "tuple", dict := dd, data := .seq items n, slots := sl } ∧ R (.ok (.ret Value.notImplemented)) s) :=
  .of_wp fun prog w A R s h => by obtain ⟨hp, g, d, tk, os⟩ := s; obtain ⟨hl, h⟩ := h; wp_walk using wpAny_loadPart' hl; exact ⟨_, rfl, h⟩
theorem tuple_mulW (l : Addr) (items : Array Value) (n : Nat) (dd : Option Addr) (sl : Array (Option Value)) (x : Int) (u : Tok) (hc0 : ¬(decide (x < -2 ^ 63) || decide (x ≥ 2 ^ 63)) = true) (hc1 : ¬(items.isEmpty || x == 1) = true)
    (hc2 : ¬(decide (x ≤ 0) || items.isEmpty) = true) (hc3 : ¬ ((items.size : Nat) : Int) * x > (2 ^ 63 - 1) / 8) (hc4 : ¬ Builtin.Tuple.tupleTooMany (((items.size : Nat) : Int) * x) = true)
    (hsz : (List.foldl (fun x1 x2 => x1 ++ x2) #[] (List.replicate x.toNat items)).size ≤ sizeLine) :
    Meets (Builtin.«tuple.__mul__» ⟨[.ref l, .int x u], []⟩) (fun _ R s => s.heap.get? l = some { cls := .type "tuple", dict := dd, data := .seq items n, slots := sl } ∧
      R (.ok (.ret (Value.ref s.heap.objs.size))) { s with heap := s.heap.push { cls := Value.type "tuple", data := Data.seq (List.foldl (fun x1 x2 => x1 ++ x2) #[] (List.replicate x.toNat items)) }, toks := s.toks }) :=
  .of_wp fun prog w A R s h => by
    obtain ⟨hp, g, d, tk, os⟩ := s; obtain ⟨hl, h⟩ := h
    wp_walk using wpAny_loadPart' hl
    rw [if_neg hc0]
    wp_walk using wpAny_loadPart' hl
    first | rw [if_neg hc1] | skip
    wp_walk using wpAny_loadPart' hl
    first | rw [if_neg hc2] | skip
    wp_walk using wpAny_loadPart' hl
    first | rw [if_neg hc3] | skip
    wp_walk using wpAny_loadPart' hl
    first | rw [if_neg hc4] | skip
    wp_walk using wpAny_loadPart' hl
    exact ⟨_, rfl, h⟩
end AxT
namespace L2
open PySem PySem.Spec PyProof.Rows
section
variable {X : Cx}
/-- a + b, two tuples -/
def rCatT2 (K : PySem.W.Frag) : R2 := fun x y H Q => ∃ a b xs ys, x = .ref a ∧ y = .ref b ∧ SqT K H a xs ∧ SqT K H b ys ∧ xs.length + ys.length ≤ sizeLine ∧ ∀ p H', Same H H' → SqT K H' p (xs ++ ys) → Q (.ref p) H'
theorem op_catT2 : OpR X (binaryOp .Add) (rCatT2 X.K) := by
  intro pins s σ H x y v u Q I rx ry h
  obtain ⟨a, b, xs, ys, rfl, rfl, ha, hb, hz, q⟩ := h
  by_cases hx : xs = []
  · subst hx
    cases rx
    cases ry
    obtain ⟨its, r1, p1, _⟩ := I.tuple ha
    obtain ⟨its2, r2, p2, _⟩ := I.tuple hb
    have hi : its = [] := r1.nil_iff.mpr rfl
    subst hi
    obtain ⟨⟨cls, dd, data, sl⟩, ho, hc, n, hd⟩ := id p1
    obtain ⟨⟨cls2, dd2, data2, sl2⟩, ho2, hc2, n2, hd2⟩ := id p2
    simp only at hc hd hc2 hd2
    subst hc hd hc2 hd2
    exact concat_meets ⟨_, ho, rfl⟩ ⟨_, ho2, rfl⟩ noFill_tuple_add seq_tuple_add PySem.F.slot_tuple_add PySem.F.entry_tuple_add (PySem.F.args_tuple_add_2 _ _)
      (tuple_addW0 a b ([] : List Value).toArray its2.toArray n n2 dd dd2 sl sl2 (by simp)) ⟨ho, ho2, ⟨.ref b, H, I, rfl, q b H (Same.refl _) hb⟩⟩
  · exact op_catT pins s σ H _ _ v u Q I rx ry ⟨a, b, xs, ys, rfl, rfl, ha, hb, hx, hz, fun e => q a H (Same.refl _) (by rw [e, List.append_nil]; exact ha), fun _ p np => q p _ (An.same_upd np) (SqT.of upd_same)⟩
/-- t * k -/
def rRepT (K : PySem.W.Frag) : R2 := fun x y H Q => ∃ a k xs, x = .ref a ∧ y = .int k ∧ SqT K H a xs ∧ xs ≠ [] ∧ 2 ≤ k ∧ k ≤ 1000 ∧ xs.length ≤ 1000 ∧ ∀ p, H p = none → Q (.ref p) (upd H p (.tup (List.replicate k.toNat xs).flatten))
theorem op_repT : OpR X (binaryOp .Mult) (rRepT X.K) := by
  intro pins s σ H x y v u Q I rx ry h
  obtain ⟨a, k, xs, rfl, rfl, ha, hne, k2, k3, hl, q⟩ := h
  cases rx
  obtain ⟨t, rfl⟩ := ry
  obtain ⟨its, r, p, hz⟩ := I.tuple ha
  obtain ⟨⟨cls, dd, data, sl⟩, ho, hc, n, hd⟩ := id p
  simp only at hc hd
  subst hc hd
  have il : its.length = xs.length := r.length.symm
  have ine : its ≠ [] := fun z => hne (r.nil_iff.mp z)
  have f0 : List.foldl (fun x1 x2 => x1 ++ x2) #[] (List.replicate k.toNat its.toArray) = (List.replicate k.toNat its).flatten.toArray := by
    have := foldl_rep its k.toNat []
    rw [List.nil_append] at this
    exact this
  have hmul : its.toArray.size * k.toNat ≤ 1000000 := by
    rw [List.size_toArray, il]
    exact Nat.mul_le_mul hl (show k.toNat ≤ 1000 by omega)
  have hmulI : ((its.toArray.size : Nat) : Int) * k ≤ 1000000 := by
    have e : k = ((k.toNat : Nat) : Int) := by omega
    rw [e, ← Int.natCast_mul]
    show ((its.toArray.size * k.toNat : Nat) : Int) ≤ ((1000000 : Nat) : Int)
    exact Int.ofNat_le.mpr hmul
  have hlen : (List.replicate k.toNat its).flatten.length ≤ 1000000 := by
    rw [len_rep, Nat.mul_comm]; rw [List.size_toArray] at hmul; exact hmul
  refine wpAny_binaryOp_repeat_ref (T := "tuple") (U := "int") (by decide) ⟨_, ho, rfl⟩ (fun s' => typeIs_int s' k t) AxT.noFill_tuple_mul F.fills_int_mul F.slot_int_rmul AxT.repeat_tuple F.slot_int_index.lookup
    (call_meets F.slot_int_rmul (typeIs_int s k t) F.entry_int_rmul (F.args_int_rmul_2 _ _) (AxT.int_rmul_tuple k t a its.toArray n dd sl)
      ⟨ho, rfl, ⟨_, ho, rfl⟩, call_meets F.slot_tuple_mul ⟨_, ho, rfl⟩ F.entry_tuple_mul (F.args_tuple_mul_2 _ _) (AxT.tuple_mulW a its.toArray n dd sl k t ?_ ?_ ?_ ?_ ?_ ?_) ⟨ho, ?_⟩⟩)
  · simp; omega
  · simp [ine]; omega
  · simp [ine]; omega
  · omega
  · intro z
    have z : decide (((its.toArray.size : Nat) : Int) * k > ((sizeLine : Nat) : Int)) = true := z
    have z := of_decide_eq_true z
    rw [sizeLine_eq] at z
    omega
  · rw [f0, List.size_toArray]; exact An.le_line (by omega)
  · rw [f0]
    refine ⟨.ref s.heap.objs.size, _, I.laid (t' := s.toks) (o := .tup (List.replicate k.toNat xs).flatten) (fun b ob q => Heap.get?_push_of_some _ q) (Nat.le_refl _) ?_, rfl, q _ (I.hok.fresh (Nat.le_refl _))⟩
    refine ⟨?_, _, r.rep k.toNat, IsTup.new _ _⟩
    rw [len_rep, Nat.mul_comm, ← il]
    rw [len_rep, Nat.mul_comm] at hlen
    exact An.le_line (by omega)
end
end L2

set_option Elab.async false
set_option linter.all false
set_option maxRecDepth 100000
set_option maxHeartbeats 4000000
/-! reversed(a tuple), walked -/
namespace AxR
open PySem PySem.Spec PyProof.Rows
open AutoSeq1 (wpAny_loadPart')
theorem owner_rev : Manifest.owners.lookup (String.ofList ['d', 'e', 's', 'r', 'e', 'v', 'e', 'r'].reverse) = some Manifest.sig_reversed := by kernel_rfl
theorem slot_next : Slot "reversed" "__next__" "reversed.__next__" :=
  .of (owner := "reversed") (n := "__next__") (by rw [typeLookup_type, builtinLookup_eq_fast]; kernel_rfl) (by decide +kernel) (by decide +kernel) (by decide +kernel)
    (by first | exact .inl (by decide +kernel) | exact .inr (by decide +kernel)) (by rw [isSubtype_type]; kernel_rfl)
theorem entry_next : entryFor table "reversed.__next__" = some Builtin.«reversed.__next__» := entryFor_of_tree (by kernel_rfl)
theorem args_next (a : Value) : argsOk "reversed.__next__" ⟨[a], []⟩ := by
  unfold argsOk; rw [signature?_of (id := "reversed.__next__") (n := ['_', '_', 't', 'x', 'e', 'n', '_', '_']) (o := ['d', 'e', 's', 'r', 'e', 'v', 'e', 'r']) (by kernel_rfl) owner_rev]; kernel_rfl
theorem slot_iter : Slot "reversed" "__iter__" "reversed.__iter__" :=
  .of (owner := "reversed") (n := "__iter__") (by rw [typeLookup_type, builtinLookup_eq_fast]; kernel_rfl) (by decide +kernel) (by decide +kernel) (by decide +kernel)
    (by first | exact .inl (by decide +kernel) | exact .inr (by decide +kernel)) (by rw [isSubtype_type]; kernel_rfl)
theorem args_iter (a : Value) : argsOk "reversed.__iter__" ⟨[a], []⟩ := by
  unfold argsOk; rw [signature?_of (id := "reversed.__iter__") (n := ['_', '_', 'r', 'e', 't', 'i', '_', '_']) (o := ['d', 'e', 's', 'r', 'e', 'v', 'e', 'r']) (by kernel_rfl) owner_rev]; kernel_rfl
theorem entry_iter : entryFor table "reversed.__iter__" = some Builtin.«dict_keyiterator.__iter__» :=
  entryFor_alias (id' := "dict_keyiterator.__iter__") (by kernel_rfl) (by first | rfl | decide +kernel | (unfold String.splitOn; simp +decide [String.splitOnAux])) (by decide +kernel) (by kernel_rfl)
theorem slot_init : Slot "reversed" "__init__" "object.__init__" :=
  .of (owner := "object") (n := "__init__") (by rw [typeLookup_type, builtinLookup_eq_fast]; kernel_rfl) (by decide +kernel) (by decide +kernel) (by decide +kernel)
    (by first | exact .inl (by decide +kernel) | exact .inr (by decide +kernel)) (by rw [isSubtype_type]; kernel_rfl)
theorem called : TypeCalled "reversed" "reversed.__new__" "object.__init__" := ⟨by decide +kernel, F.create_reversed, ⟨_, _, F.mro_reversed⟩, F.made_reversed, F.plain_reversed_new, F.sub_reversed_self, slot_init⟩
theorem no_reversed : typeLookup (.type "tuple") "__reversed__" = pure none := by rw [typeLookup_type, builtinLookup_eq_fast]; kernel_rfl
def revO (l : Addr) (i : Int) : Obj := { cls := .type "reversed", data := .fields #[.ref l, rawInt i] }
def IsRev (h : Heap) (a l : Addr) (i : Int) : Prop := h.get? a = some (revO l i)
theorem sub_tuple_dict : isSubtype (.type "tuple") (.type "dict") = pure false := by rw [isSubtype_type]; kernel_rfl
theorem meets_new (l : Addr) (items : Array Value) (hz : items.size ≤ sizeLine) :
    Meets (Builtin.«reversed.__new__» ⟨[.type "reversed", .ref l], []⟩) (fun _ R s => IsTup s.heap l items ∧ ∀ tk, R (.ok (.ret (.ref s.heap.objs.size))) { s with heap := s.heap.push (revO l ((items.size : Int) - 1)), toks := tk }) :=
  .of_wp fun prog w A R s h => by
    obtain ⟨ht, h⟩ := h
    unfold Builtin.«reversed.__new__»
    refine wpAny_bind (wpAny_of_eq (newClass_reversed _) ?_)
    try dsimp only
    refine wpAny_bind (wpAny_of_eq (a := ()) (by first | rfl | kernel_rfl) ?_)
    refine wpAny_bind (wpAny_of_eq (a := ()) (by first | rfl | kernel_rfl) ?_)
    try dsimp only
    refine wpAny_bind (wpAny_specialOf ht.typeIs no_reversed ?_)
    try dsimp only
    have hT : s.TypeIs (.ref l) "tuple" := ht.typeIs
    have f1 := sub_tuple_dict
    have f2 := PyProof.Rows.slot_tuple_getitem.lookup
    refine wpAny_bind (wpAny_mono (Q := fun (b : Bool) s' => b = true ∧ s' = s) (E := fun _ _ => False) ?_ (fun b s' hb => ?_) (fun _ _ z => z.elim))
    · wp_walk
      exact ⟨rfl, rfl⟩
    · obtain ⟨rfl, rfl⟩ := hb
      rw [if_neg (by decide)]
      have hn := L2.line63
      refine wpAny_bind (len_tuple ht (by omega) ?_)
      refine wpAny_bind (wpAny_of_eq (a := some ((items.size : Nat) : Int)) rfl ?_)
      try dsimp only
      unfold Builtin.SmallTypes.newRecord
      refine wpAny_bind (wpAny_newObj_type ?_)
      exact wpAny_pure ⟨_, rfl, h _⟩
section
variable {prog : Program} {w : World} {A : Around} {E : Value → Shared → Prop} {s : Shared}
theorem call_rev {l : Addr} {items : Array Value} (hz : items.size ≤ sizeLine) {Q : Value → Shared → Prop} (ht : IsTup s.heap l items) (h : ∀ tk, Q (.ref s.heap.objs.size) { s with heap := s.heap.push (revO l ((items.size : Int) - 1)), toks := tk }) :
    wpAny (model prog w) A (call (.type "reversed") [.ref l]) Q E s :=
  callType_new called (by decide) (F.typeCall_reversed_1 _) (F.newCall_reversed_1 _) (fun obj => F.args_object_init_2 obj _) F.entry_reversed_new (meets_new l items hz) ⟨ht, fun tk => ⟨⟨_, Heap.get?_push_size _ rfl, rfl⟩, h tk⟩⟩
theorem typeIs {a l : Addr} {i : Int} (x : IsRev s.heap a l i) : s.TypeIs (.ref a) "reversed" := ⟨_, x, rfl⟩
theorem next_item {it l : Addr} {i : Nat} {items : Array Value} {x : Value} {Q : Option Value → Shared → Prop} (hit : IsRev s.heap it l (i : Int)) (ht : IsTup s.heap l items) (hne : l ≠ it) (hz : items.size ≤ sizeLine) (hx : items[i]? = some x)
    (hQ : ∀ h' tk, IsRev h' it l ((i : Int) - 1) → Heap.SameBut it s.heap h' → Q (some x) { s with heap := h', toks := tk }) : wpAny (model prog w) A (pyNext (.ref it)) Q E s := by
  have ho : s.heap.get? it = some (revO l i) := hit
  have hi : i < items.size := (Array.getElem?_eq_some_iff.mp hx).1
  unfold pyNext
  refine wpAny_bind (wpAny_attempt (wpAny_callSpecial?_slot (name := Str.ofString "__next__") (typeIs hit) slot_next
    (wpAny_call_entry slot_next (typeIs hit) entry_next ?_ (args_next _))))
  unfold Builtin.«reversed.__next__»
  refine wpAny_bind (wpAny_of_eq (a := (Value.ref it, [])) rfl ?_)
  try dsimp only
  refine wpAny_bind (wpAny_field ho (x := .ref l) rfl rfl ?_)
  refine wpAny_bind (wpAny_field ho (x := rawInt (i : Int)) rfl rfl ?_)
  show wpAny _ _ (if (i : Int) < 0 then _ else _) _ _ s
  rw [if_neg (by omega)]
  refine wpAny_bind (wpAny_specialOf ht.typeIs PyProof.Rows.slot_tuple_getitem.lookup ?_)
  rw [if_neg (by decide)]
  have hn := L2.line63
  refine wpAny_bind (wpAny_mkInt ?_)
  have ht1 : IsTup ({ s with toks := s.toks + 1 } : Shared).heap l items := ht
  refine wpAny_bind (wpAny_attempt (getItem_tuple (j := i) ht1 (by omega) (by omega) (by unfold seqIndex?; simp; omega) hx ?_))
  try dsimp only
  refine wpAny_bind (wpAny_field ho (x := rawInt (i : Int)) rfl rfl ?_)
  show wpAny _ _ (setField (.ref it) 1 (rawInt ((i : Int) - 1)) >>= _) _ _ _
  refine wpAny_bind (wpAny_setField ho rfl (by simp) ?_)
  refine wpAny_pure ⟨x, rfl, wpAny_pure (hQ _ _ ?_ (Heap.SameBut.update ..))⟩
  have e := Heap.get?_update_self (Obj.mapFields (·.setIfInBounds 1 (rawInt ((i : Int) - 1)))) ho rfl
  exact e
theorem next_end {it l : Addr} {Q : Option Value → Shared → Prop} (hh : A.handled = none) (hit : IsRev s.heap it l (-1))
    (hQ : ∀ h', Heap.ExtBut it s.heap h' → Q none { s with heap := h' }) : wpAny (model prog w) A (pyNext (.ref it)) Q E s := by
  have ho : s.heap.get? it = some (revO l (-1)) := hit
  unfold pyNext
  refine wpAny_bind (wpAny_attempt (wpAny_callSpecial?_slot (name := Str.ofString "__next__") (typeIs hit) slot_next
    (wpAny_call_entry slot_next (typeIs hit) entry_next ?_ (args_next _))))
  unfold Builtin.«reversed.__next__»
  refine wpAny_bind (wpAny_of_eq (a := (Value.ref it, [])) rfl ?_)
  try dsimp only
  refine wpAny_bind (wpAny_field ho (x := .ref l) rfl rfl ?_)
  refine wpAny_bind (wpAny_field ho (x := rawInt (-1)) rfl rfl ?_)
  show wpAny _ _ (if (-1 : Int) < 0 then _ else _) _ _ s
  rw [if_pos (by decide)]
  refine wpAny_bind (wpAny_rule ?_)
  refine wpAny_bind ?_
  show wpAny _ _ (setField (.ref it) 1 (rawInt (-1)) >>= fun _ => setField (.ref it) 0 .none) _ _ s
  refine wpAny_bind (wpAny_setField ho rfl (by simp) ?_)
  have ho1 : (s.heap.update it (Obj.mapFields (·.setIfInBounds 1 (rawInt (-1))))).get? it = some (revO l (-1)) := Heap.get?_update_self (Obj.mapFields (·.setIfInBounds 1 (rawInt (-1)))) ho rfl
  refine wpAny_setField ho1 rfl (by simp) ?_
  refine wpAny_bind ?_
  unfold Builtin.SmallTypes.stopIteration
  refine wpAny_bind ?_
  simp only [newExc, newTuple]
  refine wpAny_bind (wpAny_newObj_type ?_ (by size_fits))
  refine wpAny_bind (m := firstArgMember _ _) (wpAny_of_eq (a := Value.none) (by first | rfl | (simp only [firstArgMember]; rfl)) ?_)
  refine wpAny_newObj_type ?_ (by size_fits)
  simp only [raiseNew]
  refine wpAny_bind (wpAny_handled ?_)
  first | rw [show A.in1.handled = none from hh] | rw [hh]
  refine wpAny_bind (wpAny_pure (wpAny_throw ?_))
  refine wpAny_bind (wpAny_isInstance (T := "StopIteration") (b := true) ⟨_, Heap.get?_push_size _ rfl, rfl⟩ isSubtype_stop ?_)
  refine wpAny_pure (hQ _ ?_)
  refine ((Heap.ExtBut.push ?_ _).push _)
  exact fun b o hb e => by rw [Heap.get?_update_other _ _ (Ne.symm hb), Heap.get?_update_other _ _ (Ne.symm hb)]; exact e
theorem iter_self {it l : Addr} {i : Int} {Q : Value → Shared → Prop} (hit : IsRev s.heap it l i) (h : Q (.ref it) s) : wpAny (model prog w) A (pyIter (.ref it)) Q E s := by
  refine wpAny_pyIter_slot (typeIs hit) slot_iter (wpAny_call_entry slot_iter (typeIs hit) entry_iter ?_ (args_iter _))
  show wpAny _ _ (ret (.ref it)) _ _ s
  exact wpAny_pure ⟨_, rfl, "reversed", _, typeIs hit, slot_next.lookup, h⟩
end
end AxR
namespace L2
open PySem PySem.Spec PyProof.Rows
/-- the items of a tuple from the last one to the first -/
def ItRev (K : PySem.W.Frag) (a : Addr) (n : Nat) : It :=
  ⟨fun i H => ∃ xs, SqT K H a xs ∧ xs.length = n ∧ i < n, fun i H v H' => H' = H ∧ ∀ xs, SqT K H a xs → xs[n - 1 - i]? = some v, fun i _ => i = n⟩
theorem turn_rev {P : Program} {w : World} {K : PySem.W.Frag} {tg : Expr} (a it : Addr) (n : Nat) :
    Turn P w K tg (ItRev K a n) [it] it (fun i h => i ≤ n ∧ AxR.IsRev h it a ((n : Int) - 1 - (i : Int))) where
  mem := by simp
  obj := fun i h st b hb => by
    have e : b = it := by simpa using hb
    subst e
    exact ⟨_, st.2, fun v z => by cases z⟩
  keep := fun i h h' st k => ⟨st.1, k it (by simp) _ st.2⟩
  item := by
    intro X hP hw hK hc i pins s σ H E I hf st hg
    subst hP hw hK
    obtain ⟨xs, hq, hl, hi⟩ := hg
    obtain ⟨its, rv, p, hz⟩ := I.tuple hq
    have hx : xs[n - 1 - i]? = some (xs[n - 1 - i]'(by omega)) := List.getElem?_eq_getElem (by omega)
    obtain ⟨u, hu, ru⟩ := rv.get hx
    obtain ⟨f0, f1, f2, f3, f4, f5⟩ := hf it (by simp)
    have st1 := st.2
    have e : (n : Int) - 1 - (i : Int) = ((n - 1 - i : Nat) : Int) := by omega
    rw [e] at st1
    have hne : a ≠ it := fun z => by
      obtain ⟨o, ho, hcl, _⟩ := p
      have st2 : s.heap.get? it = some _ := st1
      rw [z, st2] at ho
      cases ho
      have hcl : Value.type "reversed" = Value.type "tuple" := hcl
      exact absurd hcl (by decide)
    refine AxR.next_item st1 p hne (by rw [List.size_toArray, ← rv.length]; exact hz) (x := u) (by simpa using hu) fun h' tk st' sb => ?_
    have I1 : Inv X pins σ H { s with heap := h', toks := tk } := I.turned (fun b o hb e => (sb.2 b hb).trans e) f0 f1 f3 f4 f5
    have e2 : ((n - 1 - i : Nat) : Int) - 1 = (n : Int) - 1 - ((i + 1 : Nat) : Int) := by omega
    rw [e2] at st'
    exact ⟨u, rfl, go_of (s := { s with heap := h', toks := tk }) (n := "reversed") st' rfl rfl (by decide) ⟨_, H, I1, ru, ⟨rfl, fun ys hy => by rw [I.tuple_inj hy hq]; exact hx⟩, ⟨hi, st'⟩, fun b hb => (hf b hb).1⟩⟩
  done := by
    intro X hP hw hK hc i pins s σ H E I hf st hg
    subst hP hw hK
    have hg : i = n := hg
    subst hg
    obtain ⟨f0, f1, f2, f3, f4, f5⟩ := hf it (by simp)
    have st1 := st.2
    have e : (i : Int) - 1 - (i : Int) = -1 := by omega
    rw [e] at st1
    exact AxR.next_end (I.ok.hd hc) st1 fun h' eb => ⟨rfl, I.turned (t' := s.toks) (fun b o hb e => eb b o hb e) f0 f1 f3 f4 f5⟩
  self := fun _ _ _ _ _ st h => AxR.iter_self st.2 h
section
variable {X : Cx} {tg : Expr}
def iRev (K : PySem.W.Frag) (ta : TA) : TI := fun σ H R => ta σ H fun vs H1 => ∃ a xs, vs = [.ref a] ∧ SqT K H1 a xs ∧ R (ItRev K a xs.length) H1
theorem boot_reversed : bootBuiltins "reversed" = some (.type "reversed") := by decide +kernel
theorem pi_rev {a : Expr} {ta : TA} {p pos : Pos} (hg : Gl X "reversed") (hm : X.mg "reversed" = none) (ha : PA X [a] ta) (hs : starEach [a] X.env = [(false, eval a X.env)] := by rfl) : PI X tg (.Call (.Name "reversed" p) [a] [] pos) (iRev X.K ta) := by
  intro pins s σ H R I h
  refine Call_ (ld_blt I hg hm boot_reversed (PyProof.Rows.callWith_type1 (thn (ha pos pins s σ H _ I h) fun us s1 ⟨vs, H1, I1, r1, q1⟩ => ?_) hs rfl))
  obtain ⟨a', xs, e, hq, q⟩ := q1
  subst e
  obtain ⟨u, rfl, ru⟩ := vals1 r1
  cases ru
  obtain ⟨its, rv, p', hz⟩ := I1.tuple hq
  refine AxR.call_rev (by rw [List.size_toArray, ← rv.length]; exact hz) p' fun tk => AxR.iter_self (l := a') (i := ((its.toArray.size : Nat) : Int) - 1) (Heap.get?_push_size _ rfl) ?_
  have hl : its.toArray.size = xs.length := by rw [List.size_toArray]; exact rv.length.symm
  refine ⟨s1.heap.objs.size, [s1.heap.objs.size], _, _, H1, rfl, I1.kept (t' := tk) fun b o e => Heap.get?_push_of_some _ e, turn_rev a' _ xs.length, ⟨Nat.zero_le _, ?_⟩, fun b hb => ?_, q⟩
  · rw [hl]
    have e : (xs.length : Int) - 1 - ((0 : Nat) : Int) = (xs.length : Int) - 1 := by omega
    rw [e]
    exact Heap.get?_push_size _ rfl
  · have e : b = s1.heap.objs.size := by simpa using hb
    subst e
    exact I1.fpOk (Nat.le_refl _) (I1.hok.fresh (Nat.le_refl _))
theorem for_rev {K : PySem.W.Frag} {a : Addr} {xs : List V} {g : TG} {tb : TS} {D : Ends} {σ : St} {H : Hp} (Pv : Nat → St → Hp → Prop) (h0 : Pv 0 σ H) (hl : ∀ i σ H, i ≤ xs.length → Pv i σ H → SqT K H a xs)
    (hs : ∀ i x σ H, i < xs.length → xs[xs.length - 1 - i]? = some x → Pv i σ H → g x σ H fun σ2 H2 => tb { D with nx := Pv (i + 1), ct := Pv (i + 1), bk := D.nx } σ2 H2) (hd : ∀ σ H, Pv xs.length σ H → D.nx σ H) : ForW (ItRev K a xs.length) g tb D σ H :=
  for_n xs.length Pv h0 (fun _ _ _ => rfl) (fun i σ H hi p => ⟨xs, hl i σ H (Nat.le_of_lt hi) p, rfl, hi⟩) (fun i σ H hi p v H' y => by
    obtain ⟨e, hx⟩ := y
    subst e
    exact hs i v σ _ hi (hx xs (hl i σ _ (Nat.le_of_lt hi) p)) p) hd
end
end L2

set_option Elab.async false
set_option linter.all false
set_option maxRecDepth 100000
set_option maxHeartbeats 4000000
/-! more rules: a < b < c < d, text * number, in a list or tuple of data, sum of a list of numbers, reversed(a list) -/
namespace L2
open PySem PySem.Spec PyProof.Rows
section
variable {X : Cx} {K : PySem.W.Frag} {a b c d : Expr} {ta tb tc td : TE} {pos : Pos}
def rLen (K : PySem.W.Frag) : List V → Hp → VK → Prop := fun xs H Q => ∃ p ys, xs = [.ref p] ∧ (SqL K H p ys ∨ SqT K H p ys) ∧ Q (.int ((ys.length : Nat) : Int)) H
theorem call_lenK (hK : X.K = K := by rfl) : CallR X (.builtin "len") (rLen K) := by
  subst hK
  exact call_len_seq
/-- a op1 b op2 c op3 d -/
def tChain3 (r r' r'' : R2) (ta tb tc td : TE) : TE := fun σ H Q => ta σ H fun x H1 => tb σ H1 fun y H2 => r x y H2 fun z H3 => ∃ k, z = .bl k ∧
  (if k = true then tc σ H3 fun u H4 => r' y u H4 fun z' H5 => ∃ k', z' = .bl k' ∧ (if k' = true then td σ H5 fun v H6 => r'' u v H6 Q else Q (.bl false) H5) else Q (.bl false) H3)
theorem pt_chain3 {op op' op'' : CmpOp} {r r' r'' : R2} (ho : OpR X (compareOp op) r) (ho' : OpR X (compareOp op') r') (ho'' : OpR X (compareOp op'') r'') (ha : PE X a ta) (hb : PE X b tb) (hc : PE X c tc) (hd : PE X d td)
    (hm : lastMarks [op, op', op''] [b, c, d] = false := by with_unfolding_all rfl) : PT X (.Compare a [op, op', op''] [b, c, d] pos) (tTest (tChain3 r r' r'' ta tb tc td)) := by
  intro pins s σ H Q I h
  refine isTrue_chain (thn (ha pins s σ H _ I h) fun v s1 ⟨x, H1, I1, r1, q1⟩ => test_link (thn (hb pins s1 σ H1 _ I1 q1) fun u s2 ⟨y, H2, I2, r2, q2⟩ =>
    thn (ho pins s2 σ H2 x y v u _ I2 r1 r2 q2) fun d s3 ⟨z, H3, I3, r3, k, e, q3⟩ => ?_)) hm
  subst e
  cases r3
  refine wpAny_truthy_bool ?_
  cases k with
  | false =>
    obtain ⟨k', e', q'⟩ := q3
    cases e'
    exact ite_ff ⟨H3, I3, q'⟩
  | true =>
    refine ite_tt (test_link (thn (hc pins s3 σ H3 _ I3 q3) fun w' s4 ⟨z', H4, I4, r4, q4⟩ => thn (ho' pins s4 σ H4 y z' u w' _ I4 r2 r4 q4) fun d' s5 ⟨z2, H5, I5, r5, k2, e2, q5⟩ => ?_))
    subst e2
    cases r5
    refine wpAny_truthy_bool ?_
    cases k2 with
    | false =>
      obtain ⟨k', e', q'⟩ := q5
      cases e'
      exact ite_ff ⟨H5, I5, q'⟩
    | true =>
      refine ite_tt (test_last (thn (hd pins s5 σ H5 _ I5 q5) fun w2 s6 ⟨z3, H6, I6, r6, q6⟩ => thn (ho'' pins s6 σ H6 z' z3 w' w2 _ I6 r4 r6 q6) fun d2 s7 ⟨z4, H7, I7, r7, k4, e4, q7⟩ => ?_))
      subst e4
      cases r7
      exact wpAny_truthy_bool ⟨H7, I7, q7⟩
def rMulS : R2 := fun x y H Q => ∃ (i : Str) (n : Int), x = .str i ∧ y = .int n ∧ MulOk i n ∧ Q (.str (Txt.mul i n)) H
theorem op_mulS : OpR X (binaryOp .Mult) rMulS := by
  intro pins s σ H x y v u Q I rx ry h
  obtain ⟨i, n, rfl, rfl, ok, q⟩ := h
  obtain ⟨t, rfl⟩ := rx
  obtain ⟨t', rfl⟩ := ry
  exact SB.mul ok fun t' k => ⟨.str _, H, I.tok _, ⟨_, rfl⟩, q⟩
def rInD (K : PySem.W.Frag) (tup neg : Bool) : R2 := fun x y H Q => ∃ (d : PyData) (xs : List PyData), Dt K H d x ∧ Dt K H (if tup then .tuple xs else .list xs) y ∧ PyData.canLayAll0 xs = true ∧ d.canLay0 = true ∧ d.depth ≤ 60 ∧ Q (.bl (neg != xs.any fun y => PyData.eqv y d)) H
theorem op_inD (hu : X.A.units + 64 < cLine) (hK : X.K = K := by rfl) : OpR X (compareOp .In) (rInD K false false) := by
  subst hK
  intro pins s σ H x y v u Q I rx ry h
  obtain ⟨d, xs, h1, h2, h3, h4, h5, q⟩ := h
  obtain ⟨as, r1⟩ := Dt.reads I d x v h1 rx
  obtain ⟨bs, r2⟩ := Dt.reads I _ y u h2 ry
  have hm : min (PyData.depthAll xs) d.depth ≤ d.depth := Nat.min_le_right _ _
  exact SeqAt.in_list_reads r2 r1 h3 h4 (by omega) ⟨.bl _, H, I, rfl, by simpa using q⟩
theorem op_inDT (hu : X.A.units + 64 < cLine) (hK : X.K = K := by rfl) : OpR X (compareOp .In) (rInD K true false) := by
  subst hK
  intro pins s σ H x y v u Q I rx ry h
  obtain ⟨d, xs, h1, h2, h3, h4, h5, q⟩ := h
  obtain ⟨as, r1⟩ := Dt.reads I d x v h1 rx
  obtain ⟨bs, r2⟩ := Dt.reads I _ y u h2 ry
  have hm : min (PyData.depthAll xs) d.depth ≤ d.depth := Nat.min_le_right _ _
  exact SeqAt.in_tuple_reads r2 r1 h3 h4 (by omega) ⟨.bl _, H, I, rfl, by simpa using q⟩
theorem vals_int : ∀ {ns : List Int} {us : List Value}, Vals (ns.map V.int) us → IntsAre us ns
  | [], us, h => by cases h; exact .nil
  | n :: ns, us, h => by
    cases h with
    | cons r1 r2 => obtain ⟨t, rfl⟩ := r1; exact .cons _ _ (vals_int r2)
def rSum (K : PySem.W.Frag) : List V → Hp → VK → Prop := fun xs H Q => ∃ (a : Addr) (ns : List Int), xs = [.ref a] ∧ SqL K H a (ns.map V.int) ∧ Q (.int ns.sum) H
theorem call_sum (hc : X.calm = true) (hK : X.K = K := by rfl) : CallR X (.builtin "sum") (rSum K) := by
  subst hK
  intro pins s σ H xs us Q I r h
  obtain ⟨a, ns, rfl, ha, q⟩ := h
  obtain ⟨u, rfl, ru⟩ := vals1 r
  cases ru
  obtain ⟨its, rv, pl, hz⟩ := I.list ha
  have hi := vals_int rv
  obtain ⟨xs, hx⟩ := hi.allInts.items
  have hl' : s.heap.IsList a (intItems xs) := hx ▸ pl.isList
  refine sum_intListG (I.ok.hd hc) hl' fun h' tk t' hk => ?_
  have e1 : ns = xs.toList.map (·.1) := by
    rw [← nums_intItems, ← hx]
    exact (show numsOf its.toArray.toList = ns from hi.numsOf).symm
  have e2 : preSum (numAt xs) xs.size = ns.sum := by
    rw [preSum_eq, List.take_of_length_le (by simp), e1]
  rw [e2]
  exact ⟨.int _, H, I.kept hk, ⟨_, rfl⟩, q⟩
end
/-- the items of a list from the last one to the first -/
def ItRevL (K : PySem.W.Frag) (a : Addr) (n : Nat) : It :=
  ⟨fun i H => ∃ xs, SqL K H a xs ∧ xs.length = n ∧ i < n, fun i H v H' => H' = H ∧ ∀ xs, SqL K H a xs → xs[n - 1 - i]? = some v, fun i _ => i = n⟩
theorem turn_revL {P : Program} {w : World} {K : PySem.W.Frag} {tg : Expr} (a it : Addr) (n : Nat) :
    Turn P w K tg (ItRevL K a n) [it] it (fun i h => i ≤ n ∧ h.IsRevIter it a ((n : Int) - 1 - (i : Int))) where
  mem := by simp
  obj := fun i h st b hb => by
    have e : b = it := by simpa using hb
    subst e
    obtain ⟨_, o, ho, _, hd⟩ := st
    exact ⟨_, ho, fun v z => by rw [hd] at z; cases z⟩
  keep := fun i h h' st k => ⟨st.1, st.2.at fun o e => k it (by simp) _ e⟩
  item := by
    intro X hP hw hK hc i pins s σ H E I hf st hg
    subst hP hw hK
    obtain ⟨xs, hq, hl, hi⟩ := hg
    obtain ⟨its, rv, p, hz⟩ := I.list hq
    have hx : xs[n - 1 - i]? = some (xs[n - 1 - i]'(by omega)) := List.getElem?_eq_getElem (by omega)
    obtain ⟨u, hu, ru⟩ := rv.get hx
    obtain ⟨f0, f1, f2, f3, f4, f5⟩ := hf it (by simp)
    have st1 := st.2
    have e : (n : Int) - 1 - (i : Int) = ((n - 1 - i : Nat) : Int) := by omega
    rw [e] at st1
    refine wpAny_pyNext_rev_item st1 p.isList (x := u) (by simpa using hu) fun h' st' sb => ?_
    have I1 : Inv X pins σ H { s with heap := h', toks := s.toks } := I.turned (fun b o hb e => (sb.2 b hb).trans e) f0 f1 f3 f4 f5
    have e2 : ((n - 1 - i : Nat) : Int) - 1 = (n : Int) - 1 - ((i + 1 : Nat) : Int) := by omega
    rw [e2] at st'
    obtain ⟨o', ho', hc', hd'⟩ := id st'
    exact ⟨u, rfl, go_of (s := { s with heap := h', toks := s.toks }) (n := "list_reverseiterator") ho' hc' hd' (by decide) ⟨_, H, I1, ru, ⟨rfl, fun ys hy => by rw [I.list_inj hy hq]; exact hx⟩, ⟨hi, st'⟩, fun b hb => (hf b hb).1⟩⟩
  done := by
    intro X hP hw hK hc i pins s σ H E I hf st hg
    subst hP hw hK
    have hg : i = n := hg
    subst hg
    obtain ⟨f0, f1, f2, f3, f4, f5⟩ := hf it (by simp)
    have st1 := st.2
    have e : (i : Int) - 1 - (i : Int) = -1 := by omega
    rw [e] at st1
    exact wpAny_pyNext_rev_end (I.ok.hd hc) st1 fun h' eb => ⟨rfl, I.turned (t' := s.toks) (fun b o hb e => eb b o hb e) f0 f1 f3 f4 f5⟩
  self := fun _ _ _ _ _ st h => wpAny_pyIter_revIter st.2 h
section
variable {X : Cx} {tg : Expr}
def iRevL (K : PySem.W.Frag) (ta : TA) : TI := fun σ H R => ta σ H fun vs H1 => ∃ a xs, vs = [.ref a] ∧ SqL K H1 a xs ∧ R (ItRevL K a xs.length) H1
theorem pi_revL {a : Expr} {ta : TA} {p pos : Pos} (hg : Gl X "reversed") (hm : X.mg "reversed" = none) (ha : PA X [a] ta) (hs : starEach [a] X.env = [(false, eval a X.env)] := by rfl) : PI X tg (.Call (.Name "reversed" p) [a] [] pos) (iRevL X.K ta) := by
  intro pins s σ H R I h
  refine Call_ (ld_blt I hg hm boot_reversed (PyProof.Rows.callWith_type1 (thn (ha pos pins s σ H _ I h) fun us s1 ⟨vs, H1, I1, r1, q1⟩ => ?_) hs rfl))
  obtain ⟨a', xs, e, hq, q⟩ := q1
  subst e
  obtain ⟨u, rfl, ru⟩ := vals1 r1
  cases ru
  obtain ⟨its, rv, p', hz⟩ := I1.list hq
  have hl : its.toArray.size = xs.length := by rw [List.size_toArray]; exact rv.length.symm
  have hr : (s1.heap.push (revObj a' ((its.toArray.size : Int) - 1))).IsRevIter s1.heap.objs.size a' ((its.toArray.size : Int) - 1) := ⟨_, Heap.get?_push_size _ rfl, rfl, rfl⟩
  refine call_reversed_list p'.isList (wpAny_pyIter_revIter hr ?_)
  refine ⟨s1.heap.objs.size, [s1.heap.objs.size], _, _, H1, rfl, I1.kept (t' := s1.toks) fun b o e => Heap.get?_push_of_some _ e, turn_revL a' _ xs.length, ⟨Nat.zero_le _, ?_⟩, fun b hb => ?_, q⟩
  · have e : (xs.length : Int) - 1 - ((0 : Nat) : Int) = (its.toArray.size : Int) - 1 := by rw [hl]; omega
    rw [e]
    exact hr
  · have e : b = s1.heap.objs.size := by simpa using hb
    subst e
    exact I1.fpOk (Nat.le_refl _) (I1.hok.fresh (Nat.le_refl _))
theorem for_revL {K : PySem.W.Frag} {a : Addr} {xs : List V} {g : TG} {tb : TS} {D : Ends} {σ : St} {H : Hp} (Pv : Nat → St → Hp → Prop) (h0 : Pv 0 σ H) (hl : ∀ i σ H, i ≤ xs.length → Pv i σ H → SqL K H a xs)
    (hs : ∀ i x σ H, i < xs.length → xs[xs.length - 1 - i]? = some x → Pv i σ H → g x σ H fun σ2 H2 => tb { D with nx := Pv (i + 1), ct := Pv (i + 1), bk := D.nx } σ2 H2) (hd : ∀ σ H, Pv xs.length σ H → D.nx σ H) : ForW (ItRevL K a xs.length) g tb D σ H :=
  for_n xs.length Pv h0 (fun _ _ _ => rfl) (fun i σ H hi p => ⟨xs, hl i σ H (Nat.le_of_lt hi) p, rfl, hi⟩) (fun i σ H hi p v H' y => by
    obtain ⟨e, hx⟩ := y
    subst e
    exact hs i v σ _ hi (hx xs (hl i σ _ (Nat.le_of_lt hi) p)) p) hd
end
end L2

set_option Elab.async false
set_option linter.all false
set_option maxRecDepth 100000
set_option maxHeartbeats 4000000
/-! an exception of a call that goes on through the def; a list with a tuple's items put behind it -/
namespace L2
open PySem PySem.Spec PyProof.Rows
section
variable {X : Cx} {pins : List (Addr × Obj)} {σ : St} {H : Hp} {s : Shared}
/-- an exception that a call let out leaves the def's frame, too -/
theorem raises_leaves (hst : X.stack = X.env :: X.outer) (hfr : X.env.frame = some X.env.locals) (hex : X.ex = []) (I : Inv X pins σ H s) {a T : Addr} {cls : Value} (na : X.s₀.heap.get? a = none) (nT : X.s₀.heap.get? T = none) (ha : H a = none) (hT : H T = none) (ea : ExcAt s.heap a T cls) {E : XK} (q : E cls none H)
    {Ex : Value → Shared → Prop} : wpAny (model X.prog X.w) X.A (leaving X.env (.ref a)) (fun _ s'' => CXF X.prog X.w X.outer X.H₀ X.s₀ E (.ref a) s'') Ex s := by
  have fr := hidF_frames (as := [a, T]) I.stack
  have hA : X.A.frames = some (X.env :: X.outer) := by rw [I.ok.frames, hst]
  have hid : ∀ b, b = a ∨ b = T → (hidF s.heap [a, T] X.stack).get? b = none := fun b hb => by
    cases hq : (hidF s.heap [a, T] X.stack).get? b with
    | none => rfl
    | some o =>
      exfalso
      have z := PySem.W.hideAll_none ([a, T] ++ frs X.stack) (h := s.heap) (b := b) (List.mem_append_left _ (by simpa using hb))
      rw [z] at hq; cases hq
  obtain ⟨a0, oe, vs, oT, ts, t1, t2, t3, t4, t6, t7, t8, t9⟩ := ea
  have tw : s.heap.TracedW (hidF s.heap [a, T] X.stack) a cls a0 := ⟨oe, vs, T, oT, ts, t1, t2, t3, t4, hid T (.inr rfl), t6, t7, t8, t9⟩
  refine wpAny_leaving_nextW (base := hidF s.heap [a, T] X.stack) hA (by rw [← hst]; exact fr) hfr tw hidF_stays (hid a (.inl rfl)) fun h2 L => ?_
  obtain ⟨k1, k2, ⟨oe', vs', T', oT', ts', u1, u2, u3, u4, u5, u6, u7, u8, u9⟩, k4⟩ := L
  have stk : ∀ b ∈ frs X.stack, H b = none := I.stkFree
  have kp : ∀ b o, s.heap.get? b = some o → b ≠ a → b ≠ T → b ∉ frs X.stack → h2.get? b = some o := fun b o e h3 h4 hb => k1 b o (PySem.W.hideAll_get _ e (by
    intro z
    rcases List.mem_append.mp z with z | z
    · have z : b = a ∨ b = T := by simpa using z
      exact z.elim h3 h4
    · exact hb z))
  have sl : ∀ b o, s.heap.get? b = some o → b ∈ frs X.stack → ∃ sl, h2.get? b = some { o with slots := sl } := fun b o e hb => by
    obtain ⟨_, o', ho', hd⟩ := I.stack.mem hb
    rw [e] at ho'; cases ho'
    exact k4 b o e hd
  have nL : ∀ b o, X.s₀.heap.get? b = some o → b ≠ X.env.locals := fun b o e => Nat.ne_of_lt (Nat.lt_of_lt_of_le (Heap.lt_size e) I.ok.above)
  have nex : ∀ b, b ∉ X.ex := fun b => by rw [hex]; simp
  have nA : ∀ b o, X.s₀.heap.get? b = some o → b ≠ a := fun b o e z => by rw [z, na] at e; cases e
  have nTT : ∀ b o, X.s₀.heap.get? b = some o → b ≠ T := fun b o e z => by rw [z, nT] at e; cases e
  have nT' : T' = T ∨ s.heap.get? T' = none := by
    by_cases hq : T' = T
    · exact .inl hq
    · refine .inr ?_
      cases qT : s.heap.get? T' with
      | none => rfl
      | some o =>
        exfalso
        by_cases hf : T' ∈ frs X.stack
        · have k2' : h2.FunFrames (hidF s.heap [a, T] X.stack) X.stack := by have z := k2; rw [← hst] at z; exact z
          obtain ⟨_, o', ho', hd⟩ := k2'.mem hf
          rw [u7] at ho'; cases ho'
          exact hd _ u8
        · have z : (hidF s.heap [a, T] X.stack).get? T' = some o := PySem.W.hideAll_get _ qT (by
            intro z
            rcases List.mem_append.mp z with z | z
            · have z : T' = a ∨ T' = T := by simpa using z
              exact z.elim u6 hq
            · exact hf z)
          rw [u5] at z; cases z
  have oT1 : X.s₀.heap.get? T' = none := nT'.elim (fun z => by rw [z]; exact nT) fun z => I.old_none hex z
  have oT2 : H T' = none := nT'.elim (fun z => by rw [z]; exact hT) fun z => I.none_of z
  refine ⟨a, T', cls, H, rfl, I.os, I.bare, ⟨fun b o e1 n hb _ => ?_, fun b o e1 n hb _ => ?_, fun b o e1 n _ => I.base.free b o e1 n (nex b), fun b o e1 _ => ?_, I.base.tups, I.base.frzs, I.base.tbls⟩, fun b u e1 => ?_, na, oT1, ha, oT2, ⟨_, oe', vs', oT', ts', u1, u2, u3, u4, u6, u7, u8, u9⟩, q⟩
  · refine kp b o (I.base.keep b o e1 n hb (nex b)) (nA b o e1) (nTT b o e1) fun z => ?_
    rcases List.mem_cons.mp (I.stkSub b z) with r | r
    · exact nL b o e1 r
    · exact hb r
  · obtain ⟨sl1, e2⟩ := I.base.slot b o e1 n hb (nex b)
    by_cases hz : b ∈ frs X.stack
    · obtain ⟨sl2, e3⟩ := sl b _ e2 hz
      exact ⟨sl2, e3⟩
    · exact ⟨sl1, kp b _ e2 (nA b o e1) (nTT b o e1) hz⟩
  · obtain ⟨o', e2⟩ := I.base.there b o e1 (nex b)
    by_cases hz : b ∈ frs X.stack
    · obtain ⟨sl2, e3⟩ := sl b _ e2 hz
      exact ⟨_, e3⟩
    · exact ⟨o', kp b _ e2 (nA b o e1) (nTT b o e1) hz⟩
  · have off : ∀ c, (c = b ∨ H c = some (.own b)) → H c ≠ none := fun c hc z => by
      rcases hc with y | y
      · rw [y, e1] at z; cases z
      · rw [y] at z; cases z
    refine (I.hok b u e1).stay (fun c v hc r => kp c v r (fun z => ?_) (fun z => ?_) fun z => ?_) (fun _ r => r) fun _ _ r => r
    · rw [z] at hc
      rcases hc with y | y
      · rw [← y, ha] at e1; cases e1
      · rw [ha] at y; cases y
    · rw [z] at hc
      rcases hc with y | y
      · rw [← y, hT] at e1; cases e1
      · rw [hT] at y; cases y
    · have hz := stk c z
      rcases hc with y | y
      · rw [y, e1] at hz; cases hz
      · rw [y] at hz; cases hz
end
theorem raises_fn {P : Program} {w : World} {K : PySem.W.Frag} {mg : Str → Option Value} {base : Heap} {N : List Str} {qual : Str} {scope : Scope} {f : Addr} {cd : Value} {A : Around} {outer : List Env} {s : Shared} {H : Hp} {E : XK} :
    Raises (cxOf (CXF P w) P w K mg base N qual scope f cd A outer s H E) (fun _ H' cls => E cls none H') := by
  intro pins σ H1 s1 e s' I hx
  obtain ⟨a, T, cls, H', rfl, os, bare, un, hok, na, nT, ha, hT, ea, q⟩ := hx
  have I1 := I.call' (ch := []) os un hok bare fun b z => absurd z (by simp)
  exact raises_leaves rfl rfl rfl I1 (I.old_none rfl na) (I.old_none rfl nT) ha hT ea q
theorem meets_extendT (l b : Addr) (items : Array Value) (n : Nat) (items2 : Array Value) (hlong : ¬ (!items.isEmpty && Builtin.List.listTooLong (items.size + items2.size)) = true) (h1 : items.size ≤ sizeLine) (h2 : items.size + items2.size ≤ sizeLine + 1) :
    Meets (Builtin.«list.extend» ⟨[.ref l, .ref b], []⟩) (fun _ R s => s.heap.get? l = some { cls := .type "list", data := .seq items n } ∧ IsTup s.heap b items2 ∧ R (.ok (.ret .none)) { s with heap := s.heap.update l (Obj.mapSeq fun x => x ++ items2) }) :=
  .of_wp fun prog w A R s h => by
    obtain ⟨hl, ht, h⟩ := h
    have hT : s.TypeIs (.ref b) "tuple" := ht.typeIs
    unfold Builtin.«list.extend» Builtin.List.listExtendWith
    refine wpAny_bind (wpAny_of_eq (a := (.ref l, .ref b)) rfl ?_)
    dsimp only
    refine wpAny_bind (wpAny_typeOf hT ?_)
    rw [if_pos (by rw [show (Value.type "tuple" == Value.type "tuple") = true by decide +kernel, Bool.or_true])]
    obtain ⟨o, ho, hc, m, hd⟩ := ht
    refine wpAny_bind (wpAny_listItems ho hd ?_)
    refine wpAny_bind (wpAny_listItems hl rfl ?_)
    rw [if_neg hlong]
    refine wpAny_bind (listUpdate_at hl rfl ?_ h1 (by rw [Array.size_append]; exact h2))
    exact wpAny_pure ⟨_, rfl, h⟩
section
variable {X : Cx}
def rExtendT (K : PySem.W.Frag) : V → List V → Hp → VK → Prop := fun x vs H Q => ∃ l b xs zs, x = .ref l ∧ vs = [.ref b] ∧ H l = some (.lst xs) ∧ SqT K H b zs ∧ xs.length + zs.length ≤ sizeLine ∧ Q .non (upd H l (.lst (xs ++ zs)))
theorem mt_extendT : MtM X "list.extend" (rExtendT X.K) := by
  intro pins s σ H x vs v us Q I rx rv h
  obtain ⟨l, b, xs, zs, rfl, rfl, hH, hB, hz, q⟩ := h
  cases rx
  obtain ⟨u, rfl, ru⟩ := rv.one
  cases ru
  obtain ⟨z, its, n, r, hl, e⟩ := I.lstM hH
  obtain ⟨its2, r2, p2, hz2⟩ := I.tuple hB
  have hl2 := r2.length
  have hsz : its.toArray.size + its2.toArray.size ≤ sizeLine := by rw [List.size_toArray, List.size_toArray]; omega
  have hlong : ¬ (!its.toArray.isEmpty && Builtin.List.listTooLong (its.toArray.size + its2.toArray.size)) = true := by
    rw [notLongL hsz, Bool.and_false]
    exact Bool.false_ne_true
  refine call_meets F.slot_list_extend ⟨_, e, rfl⟩ F.entry_list_extend (F.args_list_extend_2 _ _)
    (meets_extendT l b its.toArray n its2.toArray hlong (by rw [List.size_toArray]; omega) (by omega)) ⟨e, p2, ?_⟩
  refine ⟨.non, _, I.lset (its' := its ++ its2) hH e (by simp) (r.append r2) ?_, rfl, q⟩
  rw [List.length_append]
  omega
end
theorem CalX.mk' {P : Program} {w : World} {K : PySem.W.Frag} {mg : Str → Option Value} {base : Heap} {k : Nat} {x qual : Str} {st : Stmt} {f : Addr} {fd : FuncData} {ps : List Str} {sp : Sp} (F : Fun K x qual st f fd) (G : FnOk P w K mg base (CXF P w) k f fd ps sp) (hm : mg x = some (.ref f))
    (b : Binds K fd ps []) : CalX P w K mg base k x ps sp := ⟨f, fd, G, hm, F.kp, b⟩
end L2

set_option Elab.async false
set_option linter.all false
set_option maxRecDepth 100000
set_option maxHeartbeats 4000000
/-! spans: where they lie, and what their makers promise -/
namespace An12
open PySem L2 An An10
/-! ### heaps with a list left out -/
def hide (H : Hp) (o : Addr) : Hp := fun b => if b = o then none else H b
theorem hide_ne {H : Hp} {o b : Addr} (h : b ≠ o) : hide H o b = H b := if_neg h
theorem hide_same (H : Hp) (o : Addr) : Same (hide H o) H := fun b u e => by
  by_cases h : b = o
  · rw [h] at e
    have : hide H o o = none := if_pos rfl
    rw [this] at e; cases e
  · rwa [hide_ne h] at e
theorem same_hide {H H' : Hp} (o : Addr) (e : Same H H') : Same (hide H o) (hide H' o) := fun b u q => by
  by_cases h : b = o
  · rw [h] at q
    have : hide H o o = none := if_pos rfl
    rw [this] at q; cases q
  · rw [hide_ne h] at q ⊢
    exact e b u q
theorem hide_upd {H : Hp} {o : Addr} {x : HO} : hide (upd H o x) o = hide H o := by
  funext b
  by_cases h : b = o
  · rw [h]
    exact (if_pos rfl).trans (if_pos rfl).symm
  · rw [hide_ne h, hide_ne h, upd_ne h]
theorem tup_hide {K : PySem.W.Frag} {H : Hp} {o a : Addr} {zs ys : List V} (h : H o = some (.lst zs)) (t : SqT K H a ys) : SqT K (hide H o) a ys := by
  rcases t with (t | ⟨ob, t⟩) | t
  · refine .inl (.inl ?_)
    have t : H a = some (.tup ys) := t
    have : a ≠ o := fun z => by rw [z, h] at t; cases t
    exact (hide_ne this).trans t
  · refine .inl (.inr ⟨ob, ?_⟩)
    have t : H a = some (.frz ob (.tup ys)) := t
    have : a ≠ o := fun z => by rw [z, h] at t; cases t
    exact (hide_ne this).trans t
  · exact .inr t
theorem cut_any {K : PySem.W.Frag} {H H' : Hp} {a : Addr} {xs : List V} {lo hi : Option Int} {v : V} (hs : SqT K H a xs) (h : (v = .ref a ∧ H' = H ∧ cutV xs lo hi = xs) ∨ (∃ p, H p = none ∧ v = .ref p ∧ H' = upd H p (.tup (cutV xs lo hi)))) :
    ∃ p : Addr, v = .ref p ∧ Same H H' ∧ SqT K H' p (cutV xs lo hi) := by
  rcases h with ⟨rfl, rfl, e2⟩ | ⟨p, np, rfl, rfl⟩
  · exact ⟨a, rfl, Same.refl _, by rw [e2]; exact hs⟩
  · exact ⟨p, rfl, same_upd np, SqT.of upd_same⟩
theorem cut_mid {ys : List Str} {f k : Nat} (hf : f ≤ ys.length) (hk : k ≤ ys.length) : cutV (ys.map V.str) (some (f : Int)) (some (k : Int)) = ((ys.drop f).take (k - f)).map V.str := by
  unfold cutV
  rw [HT.sIx_nat, HT.sIx_nat, List.length_map, List.map_take, List.map_drop, Nat.min_eq_left hf, Nat.min_eq_left hk]
/-- spans up to a last pair -/
def spanT (ys : List Str) : Nat → Nat → List (Nat × Nat) → List Row
  | _, _, [] => []
  | lo, fi, p :: ps => (if lo < p.1 ∨ fi < p.2 then [spanR lo p.1 ((ys.drop fi).take (p.2 - fi))] else []) ++ spanT ys (p.1 + 1) (p.2 + 1) ps
theorem spanT_all {xs ys : List Str} : ∀ {ps : List (Nat × Nat)} {lo fi : Nat}, spanT ys lo fi (ps ++ [(xs.length, ys.length)]) = spanL xs ys lo fi ps
  | [], lo, fi => by
    show (if lo < xs.length ∨ fi < ys.length then [spanR lo xs.length ((ys.drop fi).take (ys.length - fi))] else []) ++ [] = _
    rw [List.append_nil, List.take_of_length_le (by rw [List.length_drop]; omega)]
    rfl
  | p :: ps, lo, fi => by
    show _ ++ spanT ys (p.1 + 1) (p.2 + 1) (ps ++ [(xs.length, ys.length)]) = _
    rw [spanT_all]
    rfl
theorem rise_le {xs ys : List Str} : ∀ {ps : List (Nat × Nat)} {i k : Nat}, Rise xs ys i k ps → ∀ p ∈ ps, p.1 < xs.length ∧ p.2 < ys.length
  | [], _, _, _, _, h => by cases h
  | q :: ps, i, k, ⟨_, _, ⟨x, h1, h2⟩, h4⟩, p, h => by
    rcases List.mem_cons.mp h with rfl | h
    · exact ⟨(List.getElem?_eq_some_iff.mp h1).1, (List.getElem?_eq_some_iff.mp h2).1⟩
    · exact rise_le h4 p h
theorem spanT_len {ys : List Str} : ∀ {ps : List (Nat × Nat)} {lo fi : Nat}, (spanT ys lo fi ps).length ≤ ps.length
  | [], _, _ => Nat.le_refl _
  | p :: ps, lo, fi => by
    have := spanT_len (ys := ys) (ps := ps) (lo := p.1 + 1) (fi := p.2 + 1)
    unfold spanT
    rw [List.length_append, List.length_cons]
    split <;> simp <;> omega
def spDue (K : PySem.W.Frag) : Sp := fun vs H Q _ => ∃ (a b l : Addr) (xs ys : List Str) (ps : List (Nat × Nat)), vs = [.ref a, .ref b, .ref l] ∧ SqT K H a (xs.map V.str) ∧ SqT K H b (ys.map V.str) ∧ PairsAt H l ps ∧ Rise xs ys 0 0 ps ∧ xs.length ≤ 100 ∧ ys.length ≤ 100 ∧ ps.length ≤ 100 ∧
  ∀ (d : Addr) H', Same H H' → Dt K H' (.list ((spanL xs ys 0 0 ps).map rowDat)) (.ref d) → Q (.ref d) H'
/-! ### rows that are drawn -/
def odds : List PyData := [.list [], .none, .tuple [.str "a\n"], .tuple [.str "aaaaaaaaaaaaaaaaaaaaa"], .tuple [.int 7], .tuple [.str "a", .str "a\t"], .tuple [.str "", .str "b\n"]]
def Third (d : PyData) : Prop := (∃ ls : List Str, d = .tuple (ls.map .str) ∧ ls.length ≤ 3 ∧ ∀ l ∈ ls, lineB l = true) ∨ d ∈ odds
/-- what came behind H -/
def fresh (H H' : Hp) : Hp := fun b => match H b with
  | none => H' b
  | some _ => none
theorem fresh_new {H H' : Hp} {b : Addr} (h : H b = none) : fresh H H' b = H' b := by unfold fresh; rw [h]
theorem fresh_same (H H' : Hp) : Same (fresh H H') H' := fun b u e => by
  unfold fresh at e
  cases q : H b with
  | none => rw [q] at e; exact e
  | some o => rw [q] at e; cases e
theorem fresh_mono {H H1 H2 : Hp} (s : Same H1 H2) : Same (fresh H H1) (fresh H H2) := fun b u e => by
  unfold fresh at e ⊢
  cases q : H b with
  | none => rw [q] at e; exact s _ _ e
  | some o => rw [q] at e; cases e
theorem fresh_hide {H H1 : Hp} {o : Addr} {u : HO} (h : H o = some u) : Same (fresh H H1) (hide H1 o) := fun b u' e => by
  have hb : b ≠ o := fun z => by
    have : fresh H H1 o = none := by unfold fresh; rw [h]
    rw [z, this] at e; cases e
  rw [hide_ne hb]
  exact fresh_same H H1 _ _ e
def spDrawn (K : PySem.W.Frag) : Sp := fun vs H Q _ => ∃ (c last : Int) (a lp : Addr) (xs ps : List Str), vs = [.int c, .ref a, .ref lp, .int last] ∧ SqT K H a (xs.map V.str) ∧ SqL K H lp (ps.map V.str) ∧ ps.length = 5 ∧ xs.length ≤ 100 ∧ (∀ p ∈ ps, lineB p = true) ∧
  ∀ (t : Addr) H' (r : Row), Same H H' → Third r.2.2 → Dt K (fresh H H') (rowDat r) (.ref t) → Q (.ref t) H'
theorem mul21 : Txt.mul "a" 21 = ("aaaaaaaaaaaaaaaaaaaaa" : Str) := by decide +kernel
theorem mul_ok : MulOk "a" 21 := ⟨by decide, fun _ _ => by decide +kernel, fun _ _ => by decide +kernel⟩
def spRows (K : PySem.W.Frag) : Sp := fun vs H Q _ => ∃ (a b lp : Addr) (ns : List Int) (xs ps : List Str), vs = [.ref a, .ref b, .ref lp] ∧ SqL K H a (ns.map V.int) ∧ SqT K H b (xs.map V.str) ∧ SqL K H lp (ps.map V.str) ∧ ps.length = 5 ∧ xs.length ≤ 100 ∧ (∀ p ∈ ps, lineB p = true) ∧
  ∀ (l : Addr) H' (rs : List Row), Same H H' → rs.length ≤ 100 → (∀ r ∈ rs, Third r.2.2) → Dt K H' (.list (rs.map rowDat)) (.ref l) → Q (.ref l) H'
/-! ### how rows fit -/
theorem third_any {d : PyData} {ls : List Str} (hd : d = .tuple (ls.map .str)) (hl : ∀ l ∈ ls, lineB l = true) : ([PyData.tuple [.str "a\n"], .tuple [.str "aaaaaaaaaaaaaaaaaaaaa"], .tuple [.int 7], .tuple [.str "a", .str "a\t"], .tuple [.str "", .str "b\n"]].any fun y => PyData.eqv y d) = false := by
  subst hd
  have one : ∀ as : List Str, (∃ a ∈ as, lineB a = false) → PyData.eqv (.tuple (as.map .str)) (.tuple (ls.map .str)) = false := fun as ⟨a, ha, hb⟩ => by
    show PyData.eqvAll (as.map .str) (ls.map .str) = false
    rw [eqv_strs, decide_eq_false]
    intro z
    have := hl a (z ▸ ha)
    rw [hb] at this; cases this
  have seven : PyData.eqv (.tuple [.int 7]) (.tuple (ls.map .str)) = false := by
    cases ls with
    | nil => rfl
    | cons x ls => rfl
  have e1 : PyData.eqv (.tuple [.str "a\n"]) (.tuple (ls.map .str)) = false := one ["a\n"] ⟨"a\n", by simp, by decide +kernel⟩
  have e2 : PyData.eqv (.tuple [.str "aaaaaaaaaaaaaaaaaaaaa"]) (.tuple (ls.map .str)) = false := one ["aaaaaaaaaaaaaaaaaaaaa"] ⟨"aaaaaaaaaaaaaaaaaaaaa", by simp, by decide +kernel⟩
  have e3 : PyData.eqv (.tuple [.str "a", .str "a\t"]) (.tuple (ls.map .str)) = false := one ["a", "a\t"] ⟨"a\t", by simp, by decide +kernel⟩
  have e4 : PyData.eqv (.tuple [.str "", .str "b\n"]) (.tuple (ls.map .str)) = false := one ["", "b\n"] ⟨"b\n", by simp, by decide +kernel⟩
  rw [List.any_cons, List.any_cons, List.any_cons, List.any_cons, List.any_cons, List.any_nil, e1, e2, seven, e3, e4]
  rfl
theorem odds_case {d : PyData} (h : d ∈ odds) : linesD d = false ∧ d.canLay0 = true ∧ d.depth ≤ 60 ∧ ((nameD d == "tuple") = false ∨ ((nameD d == "tuple") = true ∧ ([PyData.tuple [.str "a\n"], .tuple [.str "aaaaaaaaaaaaaaaaaaaaa"], .tuple [.int 7], .tuple [.str "a", .str "a\t"], .tuple [.str "", .str "b\n"]].any fun y => PyData.eqv y d) = true)) := by
  simp only [odds, List.mem_cons, List.not_mem_nil, or_false] at h
  rcases h with rfl | rfl | rfl | rfl | rfl | rfl | rfl
  · exact ⟨by decide +kernel, by decide +kernel, by decide +kernel, .inl (by decide +kernel)⟩
  · exact ⟨by decide +kernel, by decide +kernel, by decide +kernel, .inl (by decide +kernel)⟩
  · exact ⟨by decide +kernel, by decide +kernel, by decide +kernel, .inr ⟨by decide +kernel, by decide +kernel⟩⟩
  · exact ⟨by decide +kernel, by decide +kernel, by decide +kernel, .inr ⟨by decide +kernel, by decide +kernel⟩⟩
  · exact ⟨by decide +kernel, by decide +kernel, by decide +kernel, .inr ⟨by decide +kernel, by decide +kernel⟩⟩
  · exact ⟨by decide +kernel, by decide +kernel, by decide +kernel, .inr ⟨by decide +kernel, by decide +kernel⟩⟩
  · exact ⟨by decide +kernel, by decide +kernel, by decide +kernel, .inr ⟨by decide +kernel, by decide +kernel⟩⟩
theorem lineB_ok {x : Str} (h : lineB x = true) : PyData.strOk x = true := by
  unfold lineB at h
  rw [Bool.and_eq_true] at h
  rw [strOk_iff]
  intro c hc
  have := List.all_eq_true.mp h.2 c hc
  unfold signB at this
  simp only [Bool.and_eq_true, decide_eq_true_eq] at this
  omega
theorem lines_lay {ls : List Str} (h : ∀ l ∈ ls, lineB l = true) : (PyData.tuple (ls.map .str)).canLay0 = true ∧ (PyData.tuple (ls.map .str)).depth ≤ 60 := by
  obtain ⟨h1, h2⟩ := lay_strs ls fun p hp => lineB_ok (h p hp)
  refine ⟨h1, ?_⟩
  show PyData.depthAll (ls.map .str) + 1 ≤ 60
  rw [h2]; decide
theorem iteND {c A B : Prop} [Decidable c] (hc : ¬ c) (h : A) : if (!decide c) = true then A else B := by
  rw [decide_eq_false hc]
  exact iteT h
/-- what comes of rows: the lines, or nothing -/
def FitV (K : PySem.W.Frag) (H : Hp) (xs : List Str) (rs : List Row) (v : V) : Prop :=
  if goodRows xs.length (-1) rs = true then ∃ p : Addr, v = .ref p ∧ SqT K H p ((patchL xs 0 rs).map V.str) else v = .non
def spFit (K : PySem.W.Frag) : Sp := fun vs H Q _ => ∃ (a l : Addr) (xs : List Str) (rs : List Row), vs = [.ref a, .ref l] ∧ SqT K H a (xs.map V.str) ∧ Dt K H (.list (rs.map rowDat)) (.ref l) ∧ xs.length ≤ 100 ∧ rs.length ≤ 100 ∧ (∀ r ∈ rs, Third r.2.2) ∧
  ∀ (v : V) H', Same H H' → FitV K H' xs rs v → Q v H'
theorem rows_get {K : PySem.W.Frag} {H : Hp} {rs : List Row} {vs : List V} {i : Nat} {x : V} (h : DtAll K H (rs.map rowDat) vs) (e : vs[i]? = some x) : ∃ (r : Row) (t : Addr) (v : V), rs[i]? = some r ∧ x = .ref t ∧ SqT K H t [V.int r.1, V.int r.2.1, v] ∧ Dt K H r.2.2 v := by
  obtain ⟨d, e1, hd⟩ := h.get e
  rw [List.getElem?_map] at e1
  cases q : rs[i]? with
  | none => rw [q] at e1; cases e1
  | some r =>
    rw [q] at e1
    have e1 : rowDat r = d := Option.some.inj e1
    subst e1
    obtain ⟨t, vt, rfl, ht, x0, r0, rfl, e6, x7, r7, rfl, e8, x9, r9, rfl, d9, e10⟩ := hd
    have e6 : x0 = V.int r.1 := e6
    have e8 : x7 = V.int r.2.1 := e8
    have e10 : r9 = [] := e10
    subst e6 e8 e10
    exact ⟨r, t, x9, rfl, rfl, ht, d9⟩
/-- the high end of the last of the first i rows -/
def lastOf (last : Int) (rs : List Row) : Nat → Int
  | 0 => last
  | i + 1 => ((rs[i]?).map (·.2.1)).getD 0
theorem goodRows_snoc {n : Nat} : ∀ {rs : List Row} {last : Int} {i : Nat} {r : Row}, rs[i]? = some r → goodRows n last (rs.take (i + 1)) = (goodRows n last (rs.take i) && goodRow n (lastOf last rs i) r)
  | [], _, _, _, h => by cases h
  | q :: rs, last, 0, r, e => by
    have e : q = r := Option.some.inj e
    subst e
    show (goodRow n last q && true) = (true && goodRow n last q)
    rw [Bool.and_true, Bool.true_and]
  | q :: rs, last, i + 1, r, e => by
    have ih := goodRows_snoc (n := n) (last := q.2.1) (i := i) (r := r) (rs := rs) (by simpa using e)
    show (goodRow n last q && goodRows n q.2.1 (rs.take (i + 1))) = ((goodRow n last q && goodRows n q.2.1 (rs.take i)) && _)
    rw [ih, Bool.and_assoc]
    cases i <;> rfl
theorem goodRows_cut {n : Nat} : ∀ {rs : List Row} {last : Int} (i : Nat), goodRows n last rs = true → goodRows n last (rs.take i) = true
  | [], _, i, _ => by cases i <;> rfl
  | _ :: _, _, 0, _ => rfl
  | q :: rs, last, i + 1, h => by
    have h : (goodRow n last q && goodRows n q.2.1 rs) = true := h
    rw [Bool.and_eq_true] at h
    show (goodRow n last q && goodRows n q.2.1 (rs.take i)) = true
    rw [Bool.and_eq_true]
    exact ⟨h.1, goodRows_cut i h.2⟩
/-! ### what is asked of the program -/
def spSpans (K : PySem.W.Frag) : Sp := fun vs H Q _ => ∃ (a b : Addr) (xs ys : List Str), vs = [.ref a, .ref b] ∧ SqT K H a (xs.map V.str) ∧ SqT K H b (ys.map V.str) ∧ xs.length ≤ 100 ∧ ys.length ≤ 100 ∧ (∀ x ∈ xs, lineB x = true) ∧ (∀ y ∈ ys, lineB y = true) ∧
  ∀ (l : Addr) H', Same H H' → H l = none → Dt K H' (.list ((spans xs ys).map rowDat)) (.ref l) → Q (.ref l) H'
def spPatched (K : PySem.W.Frag) (aN : Addr) : Sp := fun vs H Q E => ∃ (a l : Addr) (xs : List Str) (rs : List Row), vs = [.ref a, .ref l] ∧ SqT K H a (xs.map V.str) ∧ Dt K H (.list (rs.map rowDat)) (.ref l) ∧ xs.length ≤ 100 ∧ rs.length ≤ 200 ∧ (∀ x ∈ xs, lineB x = true) ∧ (∀ r ∈ rs, small r.2.2 = true) ∧
  (goodRows xs.length (-1) rs = true → ∀ (p : Addr) H', Same H H' → SqT K H' p ((patchL xs 0 rs).map V.str) → Q (.ref p) H') ∧ (goodRows xs.length (-1) rs = false → ∀ H', Same H H' → E (.ref aN) none H')
def spCost (K : PySem.W.Frag) : Sp := fun vs H Q _ => ∃ (l : Addr) (rs : List Row), vs = [.ref l] ∧ Dt K H (.list (rs.map rowDat)) (.ref l) ∧ rs.length ≤ 200 ∧ (∀ r ∈ rs, ∃ ls : List Str, r.2.2 = .tuple (ls.map .str) ∧ ls.length ≤ 200) ∧ ∀ H', Same H H' → Q (.int (costL rs)) H'
theorem smallAll_strs : ∀ {ls : List Str}, (∀ l ∈ ls, l.length ≤ 1000) → smallAll (ls.map .str) = true
  | [], _ => rfl
  | x :: ls, h => by
    show (decide (x.length ≤ 1000) && smallAll (ls.map .str)) = true
    rw [decide_eq_true (h x List.mem_cons_self), smallAll_strs fun l hl => h l (List.mem_cons_of_mem _ hl)]; rfl
theorem lineB_len {x : Str} (h : lineB x = true) : x.length ≤ 20 := by
  unfold lineB at h
  rw [Bool.and_eq_true] at h
  exact of_decide_eq_true h.1
theorem small_lines {ls : List Str} (h1 : ls.length ≤ 1000) (h : ∀ l ∈ ls, lineB l = true) : small (.tuple (ls.map .str)) = true := by
  show (decide ((ls.map PyData.str).length ≤ 1000) && smallAll (ls.map .str)) = true
  rw [decide_eq_true (by rw [List.length_map]; exact h1), smallAll_strs fun l hl => by have := lineB_len (h l hl); omega]; rfl
theorem third_small {d : PyData} (h : Third d) : small d = true := by
  rcases h with ⟨ls, rfl, h1, h2⟩ | h
  · exact small_lines (by omega) h2
  · simp only [odds, List.mem_cons, List.not_mem_nil, or_false] at h
    rcases h with rfl | rfl | rfl | rfl | rfl | rfl | rfl <;> decide +kernel
theorem lineB_Ok {x : Str} (h : lineB x = true) : Ok 200 x := ⟨by have := lineB_len h; omega, lineB_ok h⟩
/-- a datum that one may compare -/
def Fine (d : PyData) : Prop := d.canLay0 = true ∧ d.depth ≤ 60 ∧ PyData.eqv d d = true
theorem fine_lines {ls : List Str} (h : ∀ l ∈ ls, lineB l = true) : Fine (.tuple (ls.map .str)) := ⟨(lines_lay h).1, (lines_lay h).2, by
  show PyData.eqvAll (ls.map .str) (ls.map .str) = true
  rw [eqv_strs]; exact decide_eq_true rfl⟩
theorem fine_third {d : PyData} (h : Third d) : Fine d := by
  rcases h with ⟨ls, rfl, _, h⟩ | h
  · exact fine_lines h
  · simp only [odds, List.mem_cons, List.not_mem_nil, or_false] at h
    rcases h with rfl | rfl | rfl | rfl | rfl | rfl | rfl <;> exact ⟨by decide +kernel, by decide +kernel, by decide +kernel⟩
theorem fine_rows : ∀ {rs : List Row}, (∀ r ∈ rs, Fine r.2.2) → PyData.canLayAll0 (rs.map rowDat) = true ∧ PyData.depthAll (rs.map rowDat) ≤ 61 ∧ PyData.eqvAll (rs.map rowDat) (rs.map rowDat) = true
  | [], _ => ⟨rfl, Nat.zero_le _, rfl⟩
  | r :: rs, h => by
    obtain ⟨h1, h2, h3⟩ := fine_rows fun q hq => h q (List.mem_cons_of_mem _ hq)
    obtain ⟨f1, f2, f3⟩ := h r List.mem_cons_self
    refine ⟨?_, ?_, ?_⟩
    · show ((r.2.2.canLay0 && true) && PyData.canLayAll0 (rs.map rowDat)) = true
      rw [h1, f1]; rfl
    · show max (max 0 (max 0 (max r.2.2.depth 0)) + 1) (PyData.depthAll (rs.map rowDat)) ≤ 61
      omega
    · show (((r.1 == r.1) && ((r.2.1 == r.2.1) && (PyData.eqv r.2.2 r.2.2 && true))) && PyData.eqvAll (rs.map rowDat) (rs.map rowDat)) = true
      rw [h3, f3]; simp
theorem shaped_rows {rs : List Row} (h : ∀ r ∈ rs, Fine r.2.2) : SeqAt.shaped (.list (rs.map rowDat)) = true ∧ PyData.eqv (.list (rs.map rowDat)) (.list (rs.map rowDat)) = true := by
  obtain ⟨h1, h2, h3⟩ := fine_rows h
  refine ⟨?_, h3⟩
  show (PyData.canLayAll0 (rs.map rowDat) && decide (PyData.depthAll (rs.map rowDat) + 1 ≤ 64)) = true
  rw [h1, decide_eq_true (by omega)]; rfl
theorem spanT_lines {xs ys : List Str} : ∀ {ps : List (Nat × Nat)} {lo fi : Nat}, ∀ r ∈ spanL xs ys lo fi ps, ∃ (i k : Nat) (ls : List Str), r = spanR i k ls ∧ ls.length ≤ ys.length ∧ ∀ l ∈ ls, l ∈ ys
  | [], lo, fi, r, h => by
    unfold spanL at h
    split at h
    · rw [List.mem_singleton] at h
      exact ⟨lo, xs.length, ys.drop fi, h, by rw [List.length_drop]; omega, fun l hl => List.mem_of_mem_drop hl⟩
    · cases h
  | p :: ps, lo, fi, r, h => by
    unfold spanL at h
    rcases List.mem_append.mp h with h | h
    · split at h
      · rw [List.mem_singleton] at h
        exact ⟨lo, p.1, _, h, by rw [List.length_take, List.length_drop]; omega, fun l hl => List.mem_of_mem_drop (List.mem_of_mem_take hl)⟩
      · cases h
    · exact spanT_lines r h
theorem spans_len {xs ys : List Str} (hx : xs.length ≤ 50) : (spans xs ys).length ≤ 101 := by
  have h := spanT_len (ys := ys) (ps := path xs ys (xs.length + ys.length) 0 0 ++ [(xs.length, ys.length)]) (lo := 0) (fi := 0)
  rw [spanT_all, List.length_append] at h
  have e := path_len (xs := xs) (ys := ys) (xs.length + ys.length) 0 0 (by omega)
  have t := tab_le (xs := xs) (ys := ys) (i := 0) (k := 0)
  unfold spans
  simp only [List.length_singleton] at h
  omega
theorem patch_mem {xs : List Str} {z : Str} : ∀ {rs : List Row} {e : Nat}, z ∈ patchL xs e rs → z ∈ xs ∨ ∃ r ∈ rs, z ∈ linesOf r.2.2
  | [], e, h => .inl (List.mem_of_mem_drop h)
  | r :: rs, e, h => by
    rcases List.mem_append.mp h with h | h
    · rcases List.mem_append.mp h with h | h
      · exact .inl (List.mem_of_mem_drop (List.mem_of_mem_take h))
      · exact .inr ⟨r, List.mem_cons_self, h⟩
    · rcases patch_mem h with h | ⟨q, hq, hz⟩
      · exact .inl h
      · exact .inr ⟨q, List.mem_cons_of_mem _ hq, hz⟩
theorem raises_none {X : Cx} : Raises X (fun _ _ _ => False) := by
  intro pins σ H s e s' I hx
  obtain ⟨a, T, cls, H', _, _, _, _, _, _, _, _, _, _, q⟩ := hx
  exact q.elim
def spFitP (K : PySem.W.Frag) : Sp := fun vs H Q _ => ∃ (a l : Addr) (xs : List Str) (rs : List Row), vs = [.ref a, .ref l] ∧ (∀ x ∈ xs, lineB x = true) ∧ SqT K H a (xs.map V.str) ∧ Dt K H (.list (rs.map rowDat)) (.ref l) ∧ xs.length ≤ 100 ∧ rs.length ≤ 100 ∧ (∀ r ∈ rs, Third r.2.2) ∧
  ∀ (v : V) H', Same H H' → FitV K H' xs rs v → Q v H'
theorem fine_spans {xs ys : List Str} (hy : ∀ y ∈ ys, lineB y = true) : ∀ r ∈ spans xs ys, Fine r.2.2 := fun r hr => by
  obtain ⟨i, k, ls, rfl, _, hl⟩ := spanT_lines r hr
  exact fine_lines fun l h => hy l (hl l h)
theorem neD_false {K : PySem.W.Frag} {H : Hp} {x y : V} {d : PyData} {Q : VK} (h1 : Dt K H d x) (h2 : Dt K H d y) (h3 : SeqAt.shaped d = true) (h4 : PyData.eqv d d = true) (q : Q (.bl false) H) : rNeD K x y H Q := ⟨d, d, h1, h2, h3, h3, by rw [h4]; exact q⟩
theorem fit_dt {K : PySem.W.Frag} {xs : List Str} {rs : List Row} (hx : ∀ x ∈ xs, lineB x = true) : ∃ d : PyData, SeqAt.shaped d = true ∧ PyData.eqv d d = true ∧ (nameD d == "list" || (nameD d == "bool" && "list" == "int")) = false ∧ ∀ H v, FitV K H xs rs v → Dt K H d v := by
  by_cases g : goodRows xs.length (-1) rs = true
  · have hl : ∀ z ∈ patchL xs 0 rs, lineB z = true := fun z hz => by
      rcases patch_mem hz with h | ⟨r, hr, h⟩
      · exact hx z h
      · obtain ⟨j, hj⟩ := List.getElem?_of_mem hr
        obtain ⟨_, _, q, _⟩ := goodRows_at (by decide) g hj
        have ql := q.lines
        cases e : r.2.2 with
        | tuple ds =>
          rw [e] at ql h
          obtain ⟨d, hd, rfl⟩ := List.mem_map.mp h
          have := List.all_eq_true.mp ql d hd
          cases d with
          | str x => exact this
          | none => cases this
          | bool _ => cases this
          | int _ => cases this
          | list _ => cases this
          | tuple _ => cases this
          | dict _ => cases this
        | none => rw [e] at ql; cases ql
        | bool _ => rw [e] at ql; cases ql
        | int _ => rw [e] at ql; cases ql
        | str _ => rw [e] at ql; cases ql
        | list _ => rw [e] at ql; cases ql
        | dict _ => rw [e] at ql; cases ql
    refine ⟨.tuple ((patchL xs 0 rs).map .str), (shaped_strs fun p hp => lineB_ok (hl p hp)).2, (fine_lines hl).2.2, rfl, fun H v h => ?_⟩
    unfold FitV at h
    rw [if_pos g] at h
    obtain ⟨p, rfl, hp⟩ := h
    exact ⟨p, _, rfl, hp, DtAll.strs _⟩
  · refine ⟨.none, by decide +kernel, by decide +kernel, rfl, fun H v h => ?_⟩
    unfold FitV at h
    rw [if_neg g] at h
    exact h
theorem cost_sum : ∀ rs : List Row, (rs.map fun r => 2 + ((linesOf r.2.2).length : Int)).sum = costL rs
  | [] => rfl
  | r :: rs => by
    rw [List.map_cons, List.sum_cons, cost_sum rs]; rfl
/-! ### spans done to lines -/
/-- rows whose ends rise from e on, up to n, with texts -/
def Ends (n : Nat) : Nat → List Row → Prop
  | _, [] => True
  | e, r :: rs => (e : Int) ≤ r.1 ∧ r.1 ≤ r.2.1 ∧ r.2.1 ≤ n ∧ (∃ ls : List Str, r.2.2 = .tuple (ls.map .str) ∧ ls.length ≤ 1000) ∧ Ends n r.2.1.toNat rs
theorem Ends.mono {n d e : Nat} (h : d ≤ e) : ∀ {rs : List Row}, Ends n e rs → Ends n d rs
  | [], _ => trivial
  | r :: rs, ⟨h1, h2⟩ => ⟨by omega, h2⟩
theorem lines_strs {d : PyData} (h : linesD d = true) : ∃ ls : List Str, d = .tuple (ls.map .str) ∧ ∀ l ∈ ls, lineB l = true := by
  cases d with
  | tuple ds =>
    have h : ds.all lineD = true := h
    have e := strs_of_lines h
    refine ⟨ds.map strD, by rw [← e], fun l hl => ?_⟩
    rw [e] at h
    exact List.all_eq_true.mp h _ (List.mem_map_of_mem hl)
  | none => cases h
  | bool _ => cases h
  | int _ => cases h
  | list _ => cases h
  | str _ => cases h
  | dict _ => cases h
theorem ends_good {n : Nat} : ∀ {rs : List Row} {last : Int}, -1 ≤ last → goodRows n last rs = true → (∀ r ∈ rs, small r.2.2 = true) → Ends n (last + 1).toNat rs
  | [], _, _, _, _ => trivial
  | r :: rs, last, h0, h, sm => by
    have h : (goodRow n last r && goodRows n r.2.1 rs) = true := h
    rw [Bool.and_eq_true] at h
    have g := goodRow_iff.mp h.1
    have g1 := g.lt
    have g2 := g.le
    obtain ⟨ls, el, _⟩ := lines_strs g.lines
    have s1 := sm r List.mem_cons_self
    rw [el] at s1
    have s1 := (small_tuple s1).1
    rw [List.length_map] at s1
    exact ⟨by omega, g2, g.top, ⟨ls, el, s1⟩, (ends_good (last := r.2.1) (by omega) h.2 fun q hq => sm q (List.mem_cons_of_mem _ hq)).mono (by omega)⟩
def spNeedSpans (K : PySem.W.Frag) (aN : Addr) : Sp := fun vs H Q E => ∃ (a l : Addr) (xs : List Str) (rs : List Row), vs = [.ref a, .ref l] ∧ SqT K H a (xs.map V.str) ∧ Dt K H (.list (rs.map rowDat)) (.ref l) ∧ xs.length ≤ 100 ∧ rs.length ≤ 200 ∧ (∀ r ∈ rs, small r.2.2 = true) ∧
  (goodRows xs.length (-1) rs = true → ∀ H', Same H H' → Q .non H') ∧ (goodRows xs.length (-1) rs = false → ∀ H', Same H H' → E (.ref aN) none H')
def spDone (K : PySem.W.Frag) : Sp := fun vs H Q _ => ∃ (a l : Addr) (xs : List Str) (rs : List Row), vs = [.ref a, .ref l] ∧ SqT K H a (xs.map V.str) ∧ Dt K H (.list (rs.map rowDat)) (.ref l) ∧ xs.length ≤ 1000 ∧ rs.length ≤ 200 ∧ Ends xs.length 0 rs ∧
  ∀ (p : Addr) H', Same H H' → H p = none → SqT K H' p ((patchL xs 0 rs).map V.str) → Q (.ref p) H'
theorem Ends.at {n : Nat} : ∀ {rs : List Row} {e i : Nat} {r : Row}, Ends n e rs → rs[i]? = some r → (0 ≤ r.1 ∧ r.1 ≤ r.2.1 ∧ r.2.1 ≤ n ∧ (∃ ls : List Str, r.2.2 = .tuple (ls.map .str) ∧ ls.length ≤ 1000))
  | q :: rs, e, 0, r, ⟨h1, h2, h3, h4, h5⟩, hq => by
    cases hq
    exact ⟨by omega, h2, h3, h4⟩
  | q :: rs, e, i + 1, r, ⟨h1, h2, h3, h4, h5⟩, hq => h5.at (i := i) (by simpa using hq)
theorem cut_rest {ys : List Str} {f : Nat} (hf : f ≤ ys.length) : cutV (ys.map V.str) (some (f : Int)) none = (ys.drop f).map V.str := by
  rw [cut_from (by omega), Int.toNat_natCast, List.map_drop]
end An12

set_option Elab.async false
set_option linter.all false
set_option maxRecDepth 100000
set_option maxHeartbeats 4000000
namespace An12
open PySem L2 An An10
seal L2.PS L2.PSs L2.PE L2.PT L2.PW L2.PA L2.PG L2.PGs L2.PI L2.PFi L2.PC
def top (i : Nat) : Stmt := PySem.Challenge.pw_annals_k12_spans_and_patched.main.body.getD i (.Pass ⟨0, 0, 0, 0⟩)
def kinds : List String := ["NoneType", "bool", "int", "str", "list", "tuple", "dict"]
/-- what the walk asks of the text's top -/
structure Txt (K : PySem.W.Frag) (mg : Str → Option Value) (aN : Addr) (t1 t4 t5 : Tok) : Prop where
  len : mg "len" = none
  list : mg "list" = none
  tuple : mg "tuple" = none
  range : mg "range" = none
  isinstance : mg "isinstance" = none
  int : mg "int" = none
  bool : mg "bool" = none
  max : mg "max" = none
  sum : mg "sum" = none
  reversed : mg "reversed" = none
  all : mg "all" = none
  ord : mg "ord" = none
  str : mg "str" = none
  LONGEST_LINE : mg "LONGEST_LINE" = some (.int 20 t1)
  PERCENT : mg "PERCENT" = some (.int 37 t4)
  COST_OF_A_SPAN : mg "COST_OF_A_SPAN" = some (.int 2 t5)
  NoFit : mg "NoFit" = some (.ref aN)
  xNoFit : PySem.W.excIn K aN mroVE "ValueError.__new__" = true
  hib : PySem.W.kitOne K (.type "int") (.type "bool") = some false
  kit : ∀ a ∈ kinds, ∀ b ∈ kinds, PySem.W.kitOne K (.type a) (.type b) = some (a == b || (a == "bool" && b == "int"))
  exm : PySem.W.exmOne K (.ref aN) (.ref aN) = some true
theorem nameD_in (d : PyData) : nameD d ∈ kinds := by cases d <;> simp [nameD, kinds]
theorem Txt.is {K : PySem.W.Frag} {mg : Str → Option Value} {aN : Addr} {t1 t4 t5 : Tok} {d : PyData} {T : String} (t : Txt K mg aN t1 t4 t5) (hT : T ∈ kinds) : PySem.W.kitOne K (.type (nameD d)) (.type T) = some (nameD d == T || (nameD d == "bool" && T == "int")) := t.kit _ (nameD_in d) _ hT
/-! ### promises -/
def spWhole : Sp := fun vs H Q _ => ∃ i, vs = [.int i] ∧ Q (.bl true) H
def spCell (K : PySem.W.Frag) : Sp := fun vs H Q _ => ∃ (a : Addr) (ns : List Int) (k : Int), vs = [.ref a, .int k] ∧ SqL K H a (ns.map V.int) ∧ 0 ≤ k ∧ ∀ i, Q (.int i) H
def spMixed : Sp := fun vs H Q _ => ∃ c k : Int, vs = [.int c, .int k] ∧ 0 ≤ k ∧ k ≤ 1000 ∧ ∀ m, Q (.int m) H
def spText : Sp := fun vs H Q _ => ∃ c, vs = [.int c] ∧ ∀ x H', Ok 19 x → (cs x).all signB = true → 1 ≤ x.length → Same H H' → Q (.str x) H'
def spPool : Sp := fun vs H Q _ => ∃ c, vs = [.int c] ∧ ∀ (l : Addr) (ps : List Str) H', Same H H' → H l = none → H' l = some (.lst (ps.map V.str)) → ps.length = 5 → (∀ p ∈ ps, lineB p = true) → (∀ p ∈ ps, Ok 60 p) → Q (.ref l) H'
def spRow (K : PySem.W.Frag) : Sp := fun vs H Q _ => ∃ (c m : Int) (a : Addr) (ps : List Str), vs = [.int c, .ref a, .int m] ∧ SqL K H a (ps.map V.str) ∧ ps.length = 5 ∧ 0 ≤ m ∧ m ≤ 100 ∧
  ∀ (l : Addr) (rs : List Str) H', Same H H' → H l = none → H' l = some (.lst (rs.map V.str)) → (rs.length : Int) ≤ m → (∀ r ∈ rs, r ∈ ps) → Q (.ref l) H'
def spPutIn (K : PySem.W.Frag) : Sp := fun vs H Q _ => ∃ (c : Int) (a b : Addr) (rs ms : List Str), vs = [.ref a, .ref b, .int c] ∧ SqL K H a (rs.map V.str) ∧ SqL K H b (ms.map V.str) ∧ rs.length ≤ 100 ∧ ms.length ≤ 100 ∧
  ∀ (l : Addr) (qs : List Str) H', Same H H' → H l = none → H' l = some (.lst (qs.map V.str)) → qs.length = rs.length + ms.length → List.Sublist ms qs → (∀ q ∈ qs, q ∈ rs ∨ q ∈ ms) → Q (.ref l) H'
def spLaw (K : PySem.W.Frag) : Sp := fun vs H Q _ => ∃ (a : Addr) (ns : List Int), vs = [.ref a] ∧ SqL K H a (ns.map V.int) ∧ ∀ H', Q (.bl true) H'
section
variable {P : Program} {w : World} {K : PySem.W.Frag} {mg : Str → Option Value} {base : Heap} {aN : Addr} {t1 t4 t5 : Tok}
namespace f_table_row
abbrev st : Stmt := top 12
theorem sc : FnScope ["line", "new", "behind", "row", "k"] ["line", "new", "behind"] (defScope st) := ⟨rfl, rfl, rfl, by decide +kernel, rfl, by decide +kernel, by decide +kernel⟩
theorem ok {f : Addr} {fd : FuncData} (F : Fun K "table_row" "table_row" st f fd) (T : Txt K mg aN t1 t4 t5) : FnOk P w K mg base CX0 1 f fd ["line", "new", "behind"] (An10.spTRow K) := by
  refine F.ok sc (fun vs H Q E h => ?_) (fun cdv A outer s H vs Q E hr h => ?_)
  · obtain ⟨x, b, p, xs, ys, i, rfl, _⟩ := h
    rfl
  · obtain ⟨x, b, p, xs, ys, i, rfl, hb, hp, hx, y1, k⟩ := h
    refine ⟨_, (pss_cons (ps_set (i := 3) sc.nd rfl (Or.inl rfl) (pe_op op_rep (pe_lst (pa_cons pe_int pa_nil)) (pe_op op_add (pe_callB call_len_seq (by rfl) T.len PySem.boot_len (pa_cons (pv 1) pa_nil)) pe_int)))
      (pss_cons (ps_for PassesOwn.never rfl (pi_rangeD rfl T.range (pa_cons (pe_op op_sub (pe_callB call_len_seq (by rfl) T.len PySem.boot_len (pa_cons (pv 1) pa_nil)) pe_int) (pa_cons (pe_un un_neg pe_int) (pa_cons (pe_un un_neg pe_int) pa_nil)))) (pg_name (i := 4) sc.nd rfl (Or.inl rfl))
        (pss_one (ps_if (pt_cmpR op_eq (pv 0) (pe_ix (ix_tup : IxR _ (rIxT K)) (pv 1) (pv 4) (fun _ _ => rfl)) (nomark _))
          (pss_one (ps_asg (pe_op op_add (pe_ix (ix_list : IxR _ (rIxL K)) (pv 2) (pe_op op_add (pv 4) pe_int) (fun _ _ => rfl)) pe_int) (pg_sub (pv 3) (pv 4) set_list)))
          (pss_one (ps_asg (pe_callB (call_max2 rfl) (by rfl) T.max PyProof.Rows.boot_max (pa_cons (pe_ix (ix_list : IxR _ (rIxL K)) (pv 2) (pv 4) (fun _ _ => rfl)) (pa_cons (pe_ix (ix_list : IxR _ (rIxL K)) (pv 3) (pe_op op_add (pv 4) pe_int) (fun _ _ => rfl)) pa_nil))) (pg_sub (pv 3) (pv 4) set_list))))))
      (pss_one (ps_ret (pv 3))))), ?_⟩
    refine ⟨lineN 1, fun l0 n0 => ?_⟩
    have s0 := same_upd (o := .lst [V.int 0]) n0
    refine ⟨_, rfl, b, _, rfl, .inr (s0.tupS hb), _, _, rfl, rfl, l0, _, _, rfl, rfl, upd_same, by rw [List.length_map]; omega, by rw [List.length_map]; omega, le_line ?_, fun l nl => ?_⟩
    · rw [List.length_map]
      simp only [List.length_cons, List.length_nil]; omega
    have s1 := s0.trans (same_upd (o := .lst (List.replicate ((((ys.map V.str).length : Nat) : Int) + 1).toNat [V.int 0]).flatten) nl)
    have lz : (List.replicate ((((ys.map V.str).length : Nat) : Int) + 1).toNat [V.int 0]).flatten = List.replicate (ys.length + 1) (V.int 0) := by
      rw [List.length_map]
      have e : Int.toNat ((ys.length : Int) + 1) = ys.length + 1 := by omega
      rw [e]
      exact An10.flat_rep _ _
    rw [lz] at s1 ⊢
    generalize upd H l0 (.lst [V.int 0]) = H0 at s0 nl s1 ⊢
    refine ⟨_, rfl, b, _, rfl, .inr (s1.tupS hb), _, _, rfl, rfl, _, rfl, _, rfl, _, _, rfl, ⟨by rw [List.length_map]; omega, by rw [List.length_map]; omega, by omega, by omega⟩, ?_⟩
    rw [List.length_map]
    have en : ((ys.length : Int) - 1 - -1).toNat = ys.length := by omega
    rw [en]
    refine for_rangeD (n := ys.length) (fun j σ H2 => ∃ (o4 : Option V) (zs : List V), σ = [some (.str x), some (.ref b), some (.ref p), some (.ref l), o4] ∧ H2 = upd H0 l (.lst zs) ∧ zs.length = ys.length + 1 ∧ ∀ m, ys.length ≤ m + j → m ≤ ys.length → zs[m]? = some (V.int (An10.tab xs ys i m))) ⟨none, _, rfl, rfl, List.length_replicate, fun m h1 h2 => ?_⟩ ?_ ?_
    · rw [List.getElem?_replicate, if_pos (by omega), An10.tab_end_r (by omega)]
      rfl
    · rintro j σ H2 hj ⟨o4, zs, rfl, rfl, zl, hz⟩
      have hs2 : Same H (upd H0 l (.lst zs)) := fun c u q => (by rw [upd_ne (ne_of_none (s0 c u q) nl)]; exact s0 c u q)
      obtain ⟨q, eq⟩ : ∃ q : Nat, (ys.length : Int) - 1 - (j : Int) = (q : Int) := ⟨ys.length - 1 - j, by omega⟩
      rw [eq]
      have q1 : q + j + 1 = ys.length := by omega
      obtain ⟨y, hy, hyat⟩ := at_map (f := V.str) (xs := ys) (i := (q : Int)) (by omega) (by omega)
      have hy : ys[q]? = some y := by rw [← hy]; congr 1
      have st := An10.tab_step hx hy
      have hpl : p ≠ l := ne_of_none (s0 _ _ hp) nl
      refine ⟨_, rfl, _, rfl, _, rfl, b, _, _, _, rfl, rfl, hs2.tupS hb, hyat, rfl, _, rfl, ite2 (fun h3 => ?_) (fun h3 => ?_)⟩
      · have h3 : V.str x = V.str y := of_decide_eq_true h3
        injection h3 with h3
        refine ⟨_, rfl, _, rfl, _, _, rfl, rfl, p, _, _, _, rfl, rfl, SqL.of (hs2 _ _ hp), An10.row_at (by omega) (by omega), _, _, rfl, rfl, _, rfl, _, rfl, l, _, _, q, rfl, rfl, upd_same, An10.ixN_nat (by omega), _, _, rfl, by rw [upd_upd], by rw [List.length_set]; exact zl, fun m h1 h2 => ?_⟩
        rcases Nat.lt_or_ge q m with hm | hm
        · rw [List.getElem?_set_ne (by omega)]
          exact hz m (by omega) h2
        · have : m = q := by omega
          subst this
          rw [List.getElem?_set_self (by omega), st, if_pos h3]
          have e2 : Int.toNat ((m : Int) + 1) = m + 1 := by omega
          rw [e2]
          show some (V.int (((An10.tab xs ys (i + 1) (m + 1) : Nat) : Int) + 1)) = _
          congr 2
          omega
      · have h3 : ¬ x = y := fun z => h3 (decide_eq_true (by rw [z]))
        refine ⟨_, rfl, _, rfl, p, _, _, _, rfl, rfl, SqL.of (hs2 _ _ hp), An10.row_at (by omega) (by omega), _, rfl, _, rfl, _, _, rfl, rfl, l, _, _, _, rfl, rfl, SqL.of upd_same, An10.atI_nat' (n := q + 1) (by omega) (hz (q + 1) (by omega) (by omega)), _, _, rfl, ?_⟩
        refine ⟨_, rfl, _, rfl, l, _, _, q, rfl, rfl, upd_same, An10.ixN_nat (by omega), _, _, rfl, by rw [upd_upd], by rw [List.length_set]; exact zl, fun m h1 h2 => ?_⟩
        rcases Nat.lt_or_ge q m with hm | hm
        · rw [List.getElem?_set_ne (by omega)]
          exact hz m (by omega) h2
        · have : m = q := by omega
          subst this
          rw [List.getElem?_set_self (by omega), st, if_neg h3]
          have e1 : Int.toNat (m : Int) = m := by omega
          rw [e1]
          have em : (if ((An10.tab xs ys i (m + 1) : Nat) : Int) > ((An10.tab xs ys (i + 1) m : Nat) : Int) then ((An10.tab xs ys i (m + 1) : Nat) : Int) else ((An10.tab xs ys (i + 1) m : Nat) : Int)) = ((max (An10.tab xs ys (i + 1) m) (An10.tab xs ys i (m + 1)) : Nat) : Int) := by
            split <;> omega
          rw [← em]
    · rintro σ H2 ⟨o4, zs, rfl, rfl, zl, hz⟩
      have e := An10.rowV_ext zl fun m hm => hz m (by omega) hm
      subst e
      exact ⟨_, rfl, k l _ (fun c u q => (by rw [upd_ne (ne_of_none (s0 c u q) nl)]; exact s0 c u q)) (s0.free nl) upd_same⟩
end f_table_row
namespace f_common_table
abbrev st : Stmt := top 11
theorem sc : FnScope ["old", "new", "behind", "table", "line"] ["old", "new"] (defScope st) := ⟨rfl, rfl, rfl, by decide +kernel, rfl, by decide +kernel, by decide +kernel⟩
theorem ok {f : Addr} {fd : FuncData} (F : Fun K "common_table" "common_table" st f fd) (T : Txt K mg aN t1 t4 t5) (C_table_row : Cal P w K mg base 1 "table_row" ["line", "new", "behind"] (An10.spTRow K)) : FnOk P w K mg base CX0 4 f fd ["old", "new"] (An10.spTable K) := by
  refine F.ok sc (fun vs H Q E h => ?_) (fun cdv A outer s H vs Q E hr h => ?_)
  · obtain ⟨a, b, xs, ys, rfl, _⟩ := h
    rfl
  · obtain ⟨a, b, xs, ys, rfl, ha, hb, x1, y1, k⟩ := h
    refine ⟨_, (pss_cons (ps_set (i := 2) sc.nd rfl (Or.inl rfl) (pe_op op_rep (pe_lst (pa_cons pe_int pa_nil)) (pe_op op_add (pe_callB call_len_seq (by rfl) T.len PySem.boot_len (pa_cons (pv 1) pa_nil)) pe_int)))
      (pss_cons (ps_set (i := 3) sc.nd rfl (Or.inl rfl) (pe_lst (pa_cons (pv 2) pa_nil)))
      (pss_cons (ps_for PassesOwn.never rfl (pi_rev rfl T.reversed (pa_cons (pv 0) pa_nil)) (pg_name (i := 4) sc.nd rfl (Or.inl rfl))
        (pss_cons (ps_set (i := 2) sc.nd rfl (Or.inl rfl) (pe_callC C_table_row (hr.mono (by decide)) (pa_cons (pv 4) (pa_cons (pv 1) (pa_cons (pv 2) pa_nil)))))
        (pss_one (ps_expr (pe_bm PySem.F.plainAttrs_list PySem.F.slot_list_append PySem.F.type_list_append mt_append (pv 3) (pa_cons (pv 2) pa_nil))))))
      (pss_cons (ps_expr (pe_bm0 PySem.F.plainAttrs_list PySem.F.slot_list_reverse PySem.F.type_list_reverse mt_reverse (pv 3)))
      (pss_one (ps_ret (pv 3))))))), ?_⟩
    refine ⟨lineN 1, fun l0 n0 => ?_⟩
    have s0 := same_upd (o := .lst [V.int 0]) n0
    refine ⟨_, rfl, b, _, rfl, .inr (s0.tupS hb), _, _, rfl, rfl, l0, _, _, rfl, rfl, upd_same, by rw [List.length_map]; omega, by rw [List.length_map]; omega, le_line ?_, fun l nl => ?_⟩
    · rw [List.length_map]
      simp only [List.length_cons, List.length_nil]; omega
    have lz : (List.replicate ((((ys.map V.str).length : Nat) : Int) + 1).toNat [V.int 0]).flatten = An10.rowV xs ys xs.length := by
      rw [List.length_map]
      have e : Int.toNat ((ys.length : Int) + 1) = ys.length + 1 := by omega
      rw [e, An10.flat_rep]
      refine An10.rowV_ext List.length_replicate fun m hm => ?_
      rw [List.getElem?_replicate, if_pos (by omega), An10.tab_end_l (Nat.le_refl _)]
      rfl
    rw [lz]
    have s1 := s0.trans (same_upd (o := .lst (An10.rowV xs ys xs.length)) nl)
    have nl0 := s0.free nl
    refine ⟨_, rfl, lineN 1, fun t nt => ?_⟩
    have hl1 : upd (upd H l0 (.lst [V.int 0])) l (.lst (An10.rowV xs ys xs.length)) l = some (.lst (An10.rowV xs ys xs.length)) := upd_same
    have nt0 := s1.free nt
    have lt : l ≠ t := ne_of_none hl1 nt
    generalize upd (upd H l0 (.lst [V.int 0])) l (.lst (An10.rowV xs ys xs.length)) = H1 at s1 nt hl1 ⊢
    have s2 := s1.trans (same_upd (o := .lst [V.ref l]) nt)
    refine ⟨_, rfl, a, _, rfl, s2.tupS ha, for_rev (K := K) (a := a) (xs := xs.map V.str) (fun j σ H2 => ∃ (as : List Addr) (bh : Addr) (o4 : Option V), σ = [some (.ref a), some (.ref b), some (.ref bh), some (.ref t), o4] ∧ Same H H2 ∧ H2 t = some (.lst (as.map V.ref)) ∧ as.length = j + 1 ∧ as[j]? = some bh ∧ (∀ m c, as[m]? = some c → H2 c = some (.lst (An10.rowV xs ys (xs.length - m)))) ∧ (t :: as).Nodup ∧ ∀ c ∈ t :: as, H c = none)
      ⟨[l], l, none, rfl, s2, upd_same, rfl, rfl, ?_, ?_, ?_⟩ (fun j σ H2 _ ⟨_, _, _, _, e, _⟩ => e.tupS ha) ?_ ?_⟩
    · intro m c hm
      obtain ⟨rfl, rfl⟩ := An10.get_one hm
      rw [upd_ne lt]
      exact hl1
    · simp [Ne.symm lt]
    · intro c hc
      have hc : c = t ∨ c = l := by simpa using hc
      rcases hc with rfl | rfl
      · exact nt0
      · exact nl0
    · rintro j v σ H2 hj hv ⟨as, bh, o4, rfl, s3, ht, asl, abh, rows, nd, fr⟩
      rw [List.length_map] at hj hv
      rw [List.getElem?_map] at hv
      cases q : xs[xs.length - 1 - j]? with
      | none => rw [q] at hv; cases hv
      | some x =>
        rw [q] at hv
        have hv : V.str x = v := Option.some.inj hv
        subst hv
        have hbh := rows j bh abh
        have ej : xs.length - j = xs.length - 1 - j + 1 := by omega
        rw [ej] at hbh
        refine ⟨_, rfl, _, rfl, _, rfl, x, b, bh, xs, ys, _, rfl, s3.tupS hb, hbh, q, y1, fun r H3 s4 nr hr3 => ?_⟩
        have ht3 := s4 _ _ ht
        have rt : r ≠ t := fun z => ne_of_none ht nr z.symm
        refine ⟨_, rfl, .inl ⟨rfl, _, SqL.of ht3⟩, _, rfl, t, _, _, rfl, rfl, ht3, lt_line (by rw [List.length_map]; omega), as ++ [r], r, _, rfl, ?_, ?_, ?_, ?_, ?_, ?_, ?_⟩
        · exact An.Same.updF (s3.trans s4) (fr t List.mem_cons_self)
        · rw [upd_same, List.map_append]; rfl
        · rw [List.length_append, asl]; rfl
        · rw [List.getElem?_append_right (by omega), asl, Nat.sub_self]; rfl
        · intro m c hm
          rcases Nat.lt_or_ge m as.length with hm1 | hm1
          · rw [List.getElem?_append_left hm1] at hm
            have ct : c ≠ t := fun z => (List.nodup_cons.mp nd).1 (z ▸ List.mem_of_getElem? hm)
            rw [upd_ne ct]
            exact s4 _ _ (rows m c hm)
          · rw [List.getElem?_append_right hm1] at hm
            obtain ⟨e0, rfl⟩ := An10.get_one hm
            have em : xs.length - m = xs.length - 1 - j := by omega
            rw [upd_ne rt, em]
            exact hr3
        · have nra : r ∉ as := fun z => by
            obtain ⟨m, hm⟩ := List.getElem?_of_mem z
            exact ne_of_none (rows m r hm) nr rfl
          rw [← List.cons_append]
          refine List.nodup_append.mpr ⟨nd, by simp, ?_⟩
          intro c hc d hd
          rw [List.mem_singleton.mp hd]
          rcases List.mem_cons.mp hc with rfl | hc
          · exact Ne.symm rt
          · exact fun z => nra (z ▸ hc)
        · intro c hc
          rcases List.mem_cons.mp hc with rfl | hc
          · exact fr _ List.mem_cons_self
          · rcases List.mem_append.mp hc with hc | hc
            · exact fr c (List.mem_cons_of_mem _ hc)
            · rw [List.mem_singleton.mp hc]; exact s3.free nr
    · rintro σ H2 ⟨as, bh, o4, rfl, s3, ht, asl, abh, rows, nd, fr⟩
      rw [List.length_map] at asl
      refine ⟨_, rfl, .inl ⟨rfl, _, SqL.of ht⟩, t, _, rfl, rfl, ht, _, rfl, k t as.reverse _ (An.Same.updF s3 (fr t List.mem_cons_self)) ⟨?_, by rw [List.length_reverse]; exact asl, ?_⟩ ?_ ?_⟩
      · rw [upd_same, List.map_reverse]
      · intro i c hc
        have hi : i < as.length := by
          have := (List.getElem?_eq_some_iff.mp hc).1
          rwa [List.length_reverse] at this
        rw [List.getElem?_reverse hi] at hc
        have ct : c ≠ t := fun z => (List.nodup_cons.mp nd).1 (z ▸ List.mem_of_getElem? hc)
        rw [upd_ne ct, rows _ c hc]
        have e : xs.length - (as.length - 1 - i) = i := by omega
        rw [e]
      · rw [List.nodup_cons] at nd ⊢
        exact ⟨fun z => nd.1 (List.mem_reverse.mp z), List.pairwise_reverse.mpr (nd.2.imp fun h => Ne.symm h)⟩
      · intro c hc
        rcases List.mem_cons.mp hc with rfl | hc
        · exact fr _ List.mem_cons_self
        · exact fr c (List.mem_cons_of_mem _ (List.mem_reverse.mp hc))
end f_common_table
namespace f_kept_pairs
abbrev st : Stmt := top 13
theorem sc : FnScope ["old", "new", "table", "pairs", "i", "k"] ["old", "new"] (defScope st) := ⟨rfl, rfl, rfl, by decide +kernel, rfl, by decide +kernel, by decide +kernel⟩
theorem ok {f : Addr} {fd : FuncData} (F : Fun K "kept_pairs" "kept_pairs" st f fd) (T : Txt K mg aN t1 t4 t5) (C_common_table : Cal P w K mg base 4 "common_table" ["old", "new"] (An10.spTable K)) : FnOk P w K mg base CX0 5 f fd ["old", "new"] (An10.spKept K) := by
  refine F.ok sc (fun vs H Q E h => ?_) (fun cdv A outer s H vs Q E hr h => ?_)
  · obtain ⟨a, b, xs, ys, rfl, _⟩ := h
    rfl
  · obtain ⟨a, b, xs, ys, rfl, ha, hb, x1, y1, _, _, k⟩ := h
    refine ⟨_, (pss_cons (ps_set (i := 2) sc.nd rfl (Or.inl rfl) (pe_callC C_common_table (hr.mono (by decide)) (pa_cons (pv 0) (pa_cons (pv 1) pa_nil))))
      (pss_cons (ps_set (i := 3) sc.nd rfl (Or.inl rfl) (pe_lst pa_nil))
      (pss_cons (ps_set (i := 4) sc.nd rfl (Or.inl rfl) pe_int)
      (pss_cons (ps_set (i := 5) sc.nd rfl (Or.inl rfl) pe_int)
      (pss_cons (ps_while PassesOwn.never (PW.pt (pw_and (pt_cmpR op_lt (pv 4) (pe_callB call_len_seq (by rfl) T.len PySem.boot_len (pa_cons (pv 0) pa_nil)) (nomark _)) (pw_and1 (pt_cmpR op_lt (pv 5) (pe_callB call_len_seq (by rfl) T.len PySem.boot_len (pa_cons (pv 1) pa_nil)) (nomark _)))))
        (pss_one (ps_if (pt_cmpR op_eq (pe_ix (ix_tup : IxR _ (rIxT K)) (pv 0) (pv 4) (fun _ _ => rfl)) (pe_ix (ix_tup : IxR _ (rIxT K)) (pv 1) (pv 5) (fun _ _ => rfl)) (nomark _))
          (pss_cons (ps_expr (pe_bm PySem.F.plainAttrs_list PySem.F.slot_list_append PySem.F.type_list_append mt_append (pv 3) (pa_cons (pe_tup (pa_cons (pv 4) (pa_cons (pv 5) pa_nil))) pa_nil)))
          (pss_cons (ps_aug (i := 4) sc.nd rfl (Or.inl rfl) pe_int ip_add)
          (pss_one (ps_aug (i := 5) sc.nd rfl (Or.inl rfl) pe_int ip_add))))
          (pss_one (ps_if (pt_cmpR op_ge (pe_ix (ix_list : IxR _ (rIxL K)) (pe_ix (ix_list : IxR _ (rIxL K)) (pv 2) (pe_op op_add (pv 4) pe_int) (fun _ _ => rfl)) (pv 5) (fun _ _ => rfl)) (pe_ix (ix_list : IxR _ (rIxL K)) (pe_ix (ix_list : IxR _ (rIxL K)) (pv 2) (pv 4) (fun _ _ => rfl)) (pe_op op_add (pv 5) pe_int) (fun _ _ => rfl)) (nomark _))
            (pss_one (ps_aug (i := 4) sc.nd rfl (Or.inl rfl) pe_int ip_add))
            (pss_one (ps_aug (i := 5) sc.nd rfl (Or.inl rfl) pe_int ip_add)))))))
      (pss_one (ps_ret (pv 3)))))))), ?_⟩
    refine ⟨_, rfl, _, rfl, a, b, xs, ys, rfl, ha, hb, x1, y1, fun t as H1 s1 hT _ _ => ⟨Nat.zero_le _, fun l nl => ?_⟩⟩
    have asl := hT.len
    have nl0 := s1.free nl
    have s0 := s1.trans (same_upd (o := .lst []) nl)
    have hT0 : An10.TabAt (upd H1 l (.lst [])) xs ys t as := ⟨same_upd nl _ _ hT.at_, asl, fun i c hc => same_upd nl _ _ (hT.row i c hc)⟩
    have tl0 : t ≠ l := ne_of_none hT.at_ nl
    refine ⟨fun m σ H2 => ∃ (i j f : Nat) (ts : List Addr) (ps : List (Nat × Nat)), m = (xs.length - i) + (ys.length - j) ∧ σ = [some (.ref a), some (.ref b), some (.ref t), some (.ref l), some (.int i), some (.int j)] ∧ Same H H2 ∧ An10.TabAt H2 xs ys t as ∧ H2 l = some (.lst (ts.map V.ref)) ∧ ts.length = ps.length ∧
        (∀ (m : Nat) (c : Addr) (p : Nat × Nat), ts[m]? = some c → ps[m]? = some p → H2 c = some (.tup [V.int p.1, V.int p.2])) ∧ ps.length ≤ i ∧ i ≤ xs.length ∧ j ≤ ys.length ∧ (xs.length - i) + (ys.length - j) ≤ f ∧ ps ++ An10.path xs ys f i j = An10.path xs ys (xs.length + ys.length) 0 0,
      ⟨_, 0, 0, xs.length + ys.length, [], [], rfl, rfl, s0, hT0, upd_same, rfl, fun m c p h => (by simp at h), Nat.zero_le _, Nat.zero_le _, Nat.zero_le _, by omega, rfl⟩, ?_⟩
    rintro m σ H2 ⟨i, j, f, ts, ps, rfl, rfl, s2, hT2, hl, tl, rows, pl, il, jl, fl, eq⟩
    have fin : (xs.length ≤ i ∨ ys.length ≤ j) → Q (.ref l) H2 := fun hd => by
      rw [An10.path_end hd, List.append_nil] at eq
      rw [← eq] at k
      exact k l _ s2 nl0 ⟨ts, hl, tl, rows⟩
    refine ⟨_, rfl, _, rfl, a, _, rfl, .inr (s2.tupS ha), _, _, rfl, rfl, _, rfl, ite2 (fun h1 => ?_) (fun h1 => ?_)⟩
    · have h1 : i < xs.length := by rw [List.length_map] at h1; have := of_decide_eq_true h1; omega
      refine ⟨_, rfl, _, rfl, b, _, rfl, .inr (s2.tupS hb), _, _, rfl, rfl, _, rfl, ite2 (fun h2 => ?_) (fun h2 => ?_)⟩
      · have h2 : j < ys.length := by rw [List.length_map] at h2; have := of_decide_eq_true h2; omega
        refine ⟨_, fun _ _ z => z, ?_⟩
        obtain ⟨f, rfl⟩ : ∃ g, f = g + 1 := ⟨f - 1, by omega⟩
        obtain ⟨x, hx, hxat⟩ := at_map (f := V.str) (xs := xs) (i := ((i : Nat) : Int)) (by omega) (by omega)
        obtain ⟨y, hy, hyat⟩ := at_map (f := V.str) (xs := ys) (i := ((j : Nat) : Int)) (by omega) (by omega)
        have hx : xs[i]? = some x := hx
        have hy : ys[j]? = some y := hy
        have stp := An10.path_step (f := f) hx hy
        refine ⟨_, rfl, _, rfl, a, _, _, _, rfl, rfl, s2.tupS ha, hxat, _, rfl, _, rfl, b, _, _, _, rfl, rfl, s2.tupS hb, hyat, rfl, _, rfl, ite2 (fun h3 => ?_) (fun h3 => ?_)⟩
        · have h3 : V.str x = V.str y := of_decide_eq_true h3
          injection h3 with h3
          rw [if_pos h3] at stp
          rw [stp] at eq
          refine ⟨_, rfl, .inl ⟨rfl, _, SqL.of hl⟩, _, rfl, _, rfl, lineN 2, fun c nc => ?_⟩
          have lc : l ≠ c := ne_of_none hl nc
          have sc2 := same_upd (o := .tup [V.int i, V.int j]) nc
          refine ⟨l, _, _, rfl, rfl, by rw [upd_ne lc]; exact hl, lt_line (by rw [List.length_map]; omega), _, rfl, _, _, rfl, rfl, _, rfl, _, _, rfl, rfl, _, ?_, i + 1, j + 1, f, ts ++ [c], ps ++ [(i, j)], rfl, rfl, An.Same.updF (s2.trans sc2) nl0, ⟨?_, asl, ?_⟩, ?_, by simp [tl], ?_, by simp; omega, by omega, by omega, by omega, ?_⟩
          · omega
          · rw [upd_ne tl0]; exact sc2 _ _ hT2.at_
          · intro i' c' hc'
            have hr := hT2.row i' c' hc'
            have cl : c' ≠ l := ne_of_none (hT.row i' c' hc') nl
            rw [upd_ne cl]; exact sc2 _ _ hr
          · rw [upd_same, List.map_append]; rfl
          · intro m c' p hc hp
            rcases An.snoc_get hc with ⟨m1, hc1⟩ | ⟨m1, hc1⟩
            · rcases An.snoc_get hp with ⟨m2, hp1⟩ | ⟨m2, hp1⟩
              · have hr := rows m c' p hc1 hp1
                have d1 : c' ≠ c := ne_of_none hr nc
                have d2 : c' ≠ l := fun z => by rw [z, hl] at hr; cases hr
                rw [upd_ne d2, upd_ne d1]
                exact hr
              · omega
            · rcases An.snoc_get hp with ⟨m2, hp1⟩ | ⟨m2, hp1⟩
              · omega
              · rw [hc1, hp1, upd_ne (Ne.symm lc)]
                exact upd_same
          · rw [List.append_assoc]
            exact eq
        · have h3 : ¬ x = y := fun z => h3 (decide_eq_true (by rw [z]))
          rw [if_neg h3] at stp
          rw [stp] at eq
          have tb : ∀ {i : Nat}, i ≤ xs.length → ∃ ai, atI (as.map V.ref) ((i : Nat) : Int) = some (.ref ai) ∧ H2 ai = some (.lst (An10.rowV xs ys i)) := fun {i} hi => by
            obtain ⟨ai, h1, h2⟩ := at_map (f := V.ref) (xs := as) (i := ((i : Nat) : Int)) (by omega) (by omega)
            have h1 : as[i]? = some ai := h1
            exact ⟨ai, h2, hT2.row i ai h1⟩
          obtain ⟨ai, hat, hrow⟩ := tb il
          obtain ⟨ai1, hat1, hrow1⟩ := tb (i := i + 1) h1
          have hat1 : atI (as.map V.ref) (((i : Nat) : Int) + 1) = some (.ref ai1) := hat1
          have T0 := SqL.of (K := K) hT2.at_
          refine ⟨_, rfl, _, rfl, _, _, rfl, rfl, t, _, _, _, rfl, rfl, T0, hat1, _, rfl, ai1, _, _, _, rfl, rfl, SqL.of hrow1, An10.row_at (by omega) (by omega), _, rfl, _, rfl, t, _, _, _, rfl, rfl, T0, hat, _, rfl, _, _, rfl, rfl, ai, _, _, _, rfl, rfl, SqL.of hrow, An10.row_at (by omega) (by omega), _, _, rfl, rfl, _, rfl, ite2 (fun h4 => ?_) (fun h4 => ?_)⟩
          · have h4 : An10.tab xs ys i (j + 1) ≤ An10.tab xs ys (i + 1) j := Int.ofNat_le.mp (of_decide_eq_true h4)
            rw [if_pos h4] at eq
            exact ⟨_, rfl, _, _, rfl, rfl, _, by omega, i + 1, j, f, ts, ps, rfl, rfl, s2, hT2, hl, tl, rows, by omega, h1, jl, by omega, eq⟩
          · have h4 : ¬ An10.tab xs ys i (j + 1) ≤ An10.tab xs ys (i + 1) j := fun z => h4 (decide_eq_true (Int.ofNat_le.mpr z))
            rw [if_neg h4] at eq
            exact ⟨_, rfl, _, _, rfl, rfl, _, by omega, i, j + 1, f, ts, ps, rfl, rfl, s2, hT2, hl, tl, rows, by omega, il, h2, by omega, eq⟩
      · have h2 : ys.length ≤ j := by rw [List.length_map] at h2; have h2' : ¬ ((j : Int)) < ys.length := fun z => h2 (decide_eq_true z); omega
        exact ⟨_, rfl, fin (.inr h2)⟩
    · have h1 : xs.length ≤ i := by rw [List.length_map] at h1; have h1' : ¬ ((i : Int)) < xs.length := fun z => h1 (decide_eq_true z); omega
      exact ⟨_, rfl, fin (.inl h1)⟩
end f_kept_pairs
namespace f_is_sign
abbrev st : Stmt := top 6
theorem sc : FnScope ["sign"] ["sign"] (defScope st) := ⟨rfl, rfl, rfl, by decide +kernel, rfl, by decide +kernel, by decide +kernel⟩
theorem ok {f : Addr} {fd : FuncData} (F : Fun K "is_sign" "is_sign" st f fd) (T : Txt K mg aN t1 t4 t5) : FnOk P w K mg base CX0 1 f fd ["sign"] spSign := by
  refine F.ok sc (fun vs H Q E h => ?_) (fun cdv A outer s H vs Q E hr h => ?_)
  · obtain ⟨c, rfl, _⟩ := h
    rfl
  · obtain ⟨c, rfl, k⟩ := h
    refine ⟨_, (pss_one (ps_ret (pe_and (pe_chain op_leS op_leS pe_str (pv 0) pe_str) (pe_one (pe_cmpR op_ne (pe_callB call_ord (by rfl) T.ord PyProof.Rows.boot_ord (pa_cons (pv 0) pa_nil)) (pe_glob (v := .int 37) rfl T.PERCENT ⟨_, rfl⟩) (nomark _)))))), ?_⟩
    refine ⟨_, rfl, _, _, rfl, rfl, _, rfl, ?_⟩
    rw [le_one c 32 " " (by decide +kernel)]
    refine ite2 (fun h1 => ?_) (fun h1 => ?_)
    · refine ⟨_, _, rfl, rfl, _, rfl, ?_⟩
      rw [one_le c 126 "~" (by decide +kernel)]
      refine ite2 (fun h2 => ?_) (fun h2 => ?_)
      · refine ⟨_, rfl, _, rfl, rfl, rfl, ?_⟩
        have e : signB c = !decide (V.int (((⟨#[c]⟩ : Str).cps.getD 0 0 : Nat) : Int) = V.int 37) := by
          unfold signB
          rw [h1, h2]
          show decide (c ≠ 37) = !decide (V.int (c : Int) = V.int 37)
          rw [eq_comm]
          exact not_dec ⟨fun h z => h (by rw [z]; rfl), fun h z => h (by injection z with z; omega)⟩
        rw [e] at k
        exact k
      · have e : signB c = false := by
          unfold signB
          rw [h1, Bool.eq_false_iff.mpr h2]; rfl
        rw [e] at k
        exact k
    · have e : signB c = false := by
        unfold signB
        rw [Bool.eq_false_iff.mpr h1]; rfl
      rw [e] at k
      exact ⟨_, rfl, k⟩
end f_is_sign
namespace f_is_line
abbrev st : Stmt := top 7
theorem sc : FnScope ["thing"] ["thing"] (defScope st) := ⟨rfl, rfl, rfl, by decide +kernel, rfl, by decide +kernel, by decide +kernel⟩
theorem ok {f : Addr} {fd : FuncData} (F : Fun K "is_line" "is_line" st f fd) (T : Txt K mg aN t1 t4 t5) (C_is_sign : Cal P w K mg base 1 "is_sign" ["sign"] spSign) : FnOk P w K mg base CX0 2 f fd ["thing"] (spLine K) := by
  refine F.ok sc (fun vs H Q E h => ?_) (fun cdv A outer s H vs Q E hr h => ?_)
  · obtain ⟨d, v, rfl, _⟩ := h
    rfl
  · obtain ⟨d, v, rfl, hd, sm, k⟩ := h
    refine ⟨_, (pss_one (ps_ret (pe_and (pe_callB (call_isinstD (K := K)) (by rfl) T.isinstance PyProof.Rows.boot_isinstance (pa_cons (pv 0) (pa_cons (pe_bltn (v := .ty "str") rfl T.str PyProof.Rows.boot_str rfl) pa_nil))) (pe_and (pe_cmpR op_le (pe_callB call_len_str (by rfl) T.len PySem.boot_len (pa_cons (pv 0) pa_nil)) (pe_glob (v := .int 20) rfl T.LONGEST_LINE ⟨_, rfl⟩) (nomark _)) (pe_one (pe_callB (call_all rfl) (by rfl) T.all PyProof.Rows.boot_all (pa_cons (pe_comp (sc := defScope st) (N := ["thing"]) (N' := ["sign"]) (src := [none]) ⟨by decide +kernel, rfl, rfl, by decide +kernel, by decide +kernel, by decide +kernel, by decide +kernel⟩ rfl rfl rfl (pi_str (pv 0)) (fun _ _ _ _ => (pg_name (i := 0) (show (["sign"] : List Str).Nodup by decide +kernel) rfl (Or.inl rfl))) (fun _ _ _ _ => pf_nil) (fun _ _ _ _ => (pe_callC C_is_sign (hr.mono (by decide)) (pa_cons (pv 0) pa_nil)))) pa_nil))))))), ?_⟩
    refine ⟨_, rfl, _, _, d, _, rfl, hd, T.is (by simp [kinds]), _, rfl, ?_⟩
    cases d with
    | str x =>
      cases (show v = _ from hd)
      have xl : x.length ≤ 1000 := of_decide_eq_true sm
      refine iteT ⟨_, rfl, x, rfl, le_line (by omega), _, _, rfl, rfl, _, rfl, ite2 (fun h1 => ?_) (fun h1 => ?_)⟩
      · have h1 : x.length ≤ 20 := by have := of_decide_eq_true h1; omega
        refine ⟨_, rfl, _, rfl, comp_str0 (fun i ys σ H2 => ∃ o, σ = [o] ∧ H2 = H ∧ ys = (((cs x).take i).map signB).map V.bl) ⟨none, rfl, rfl, rfl⟩ (le_line (by omega)) ?_ ?_ ?_⟩
        · rintro i ys σ H2 hi ⟨o, rfl, rfl, rfl⟩
          rw [List.length_map, List.length_map, List.length_take]; omega
        · rintro i c ys σ H2 hc ⟨o, rfl, rfl, rfl⟩
          refine ⟨_, rfl, c, rfl, _, rfl, rfl, ?_⟩
          rw [all_take_succ (cs_get hc), List.map_append]; rfl
        · rintro ys σ H2 ⟨o, rfl, rfl, rfl⟩ p np
          refine ⟨p, _, rfl, SqL.of upd_same, ?_⟩
          rw [length_cs, List.take_length, all_map]
          have e : lineD (.str x) = (cs x).all signB := by
            show (decide (x.length ≤ 20) && (cs x).all signB) = _
            rw [decide_eq_true h1]; rfl
          rw [e] at k
          exact k _ (same_upd np)
      · have e : lineD (.str x) = false := by
          show (decide (x.length ≤ 20) && (cs x).all signB) = _
          rw [decide_eq_false (fun z => h1 (decide_eq_true (by omega)))]; rfl
        rw [e] at k
        exact k _ (Same.refl _)
    | none => exact iteF (k _ (Same.refl _))
    | bool b => exact iteF (k _ (Same.refl _))
    | int i => exact iteF (k _ (Same.refl _))
    | list ds => exact iteF (k _ (Same.refl _))
    | tuple ds => exact iteF (k _ (Same.refl _))
    | dict kvs => exact iteF (k _ (Same.refl _))
end f_is_line
namespace f_is_lines
abbrev st : Stmt := top 8
theorem sc : FnScope ["thing"] ["thing"] (defScope st) := ⟨rfl, rfl, rfl, by decide +kernel, rfl, by decide +kernel, by decide +kernel⟩
theorem ok {f : Addr} {fd : FuncData} (F : Fun K "is_lines" "is_lines" st f fd) (T : Txt K mg aN t1 t4 t5) (C_is_line : Cal P w K mg base 2 "is_line" ["thing"] (spLine K)) : FnOk P w K mg base CX0 3 f fd ["thing"] (spLines K) := by
  refine F.ok sc (fun vs H Q E h => ?_) (fun cdv A outer s H vs Q E hr h => ?_)
  · obtain ⟨d, v, rfl, _⟩ := h
    rfl
  · obtain ⟨d, v, rfl, hd, sm, k⟩ := h
    refine ⟨_, (pss_one (ps_ret (pe_and (pe_callB (call_isinstD (K := K)) (by rfl) T.isinstance PyProof.Rows.boot_isinstance (pa_cons (pv 0) (pa_cons (pe_bltn (v := .ty "tuple") rfl T.tuple PyProof.Rows.boot_tuple rfl) pa_nil))) (pe_one (pe_callB (call_all rfl) (by rfl) T.all PyProof.Rows.boot_all (pa_cons (pe_comp (sc := defScope st) (N := ["thing"]) (N' := ["line"]) (src := [none]) ⟨by decide +kernel, rfl, rfl, by decide +kernel, by decide +kernel, by decide +kernel, by decide +kernel⟩ rfl rfl rfl (pi_tup (pv 0)) (fun _ _ _ _ => (pg_name (i := 0) (show (["line"] : List Str).Nodup by decide +kernel) rfl (Or.inl rfl))) (fun _ _ _ _ => pf_nil) (fun _ _ _ _ => (pe_callC C_is_line (hr.mono (by decide)) (pa_cons (pv 0) pa_nil)))) pa_nil)))))), ?_⟩
    refine ⟨_, rfl, _, _, d, _, rfl, hd, T.is (by simp [kinds]), _, rfl, ?_⟩
    cases d with
    | tuple ds =>
      obtain ⟨a, xs, rfl, hs, ha⟩ := hd
      obtain ⟨sl, sa⟩ := small_tuple sm
      have hlen := ha.length
      refine iteT ⟨_, rfl, a, rfl, ⟨_, hs⟩, comp_tup0 (K := K) (a := a) (xs := xs) (fun i ys σ H2 => ∃ o, σ = [o] ∧ Same H H2 ∧ ys = ((ds.take i).map lineD).map V.bl) ⟨none, rfl, Same.refl _, rfl⟩ (le_line (by omega)) ?_ ?_ ?_⟩
      · rintro i ys σ H2 hi ⟨o, rfl, e2, rfl⟩
        refine ⟨e2.tupS hs, ?_⟩
        rw [List.length_map, List.length_map, List.length_take]; omega
      · rintro i x ys σ H2 hx ⟨o, rfl, e2, rfl⟩
        obtain ⟨d, hd, dx⟩ := ha.get hx
        refine ⟨_, rfl, d, x, rfl, dx.same e2, smallAll_get sa hd, fun H3 e3 => ⟨_, rfl, e2.trans e3, ?_⟩⟩
        rw [all_take_succ hd, List.map_append]; rfl
      · rintro ys σ H2 ⟨o, rfl, e2, rfl⟩ p np
        refine ⟨p, _, rfl, SqL.of upd_same, ?_⟩
        rw [hlen, List.take_length, all_map]
        exact k _ (e2.trans (same_upd np))
    | none => exact iteF (k _ (Same.refl _))
    | bool b => exact iteF (k _ (Same.refl _))
    | int i => exact iteF (k _ (Same.refl _))
    | list ds => exact iteF (k _ (Same.refl _))
    | str x => exact iteF (k _ (Same.refl _))
    | dict kvs => exact iteF (k _ (Same.refl _))
end f_is_lines
namespace f_spans_of
abbrev st : Stmt := top 14
theorem sc : FnScope ["old", "new", "spans", "low", "start", "high", "end"] ["old", "new"] (defScope st) := ⟨rfl, rfl, rfl, by decide +kernel, rfl, by decide +kernel, by decide +kernel⟩
theorem ok {f : Addr} {fd : FuncData} (F : Fun K "spans_of" "spans_of" st f fd) (T : Txt K mg aN t1 t4 t5) (C_kept_pairs : Cal P w K mg base 5 "kept_pairs" ["old", "new"] (An10.spKept K)) : FnOk P w K mg base CX0 6 f fd ["old", "new"] (An12.spSpans K) := by
  refine F.ok sc (fun vs H Q E h => ?_) (fun cdv A outer s H vs Q E hr h => ?_)
  · obtain ⟨a, b, xs, ys, rfl, _⟩ := h
    rfl
  · obtain ⟨a, b, xs, ys, rfl, ha, hb, x1, y1, xok, yok, k⟩ := h
    refine ⟨_, (pss_cons (ps_set (i := 2) sc.nd rfl (Or.inl rfl) (pe_lst pa_nil))
      (pss_cons (ps_set (i := 3) sc.nd rfl (Or.inl rfl) pe_int)
      (pss_cons (ps_set (i := 4) sc.nd rfl (Or.inl rfl) pe_int)
      (pss_cons (ps_for PassesOwn.never rfl (pi_list (pe_op op_cat (pe_callC C_kept_pairs (hr.mono (by decide)) (pa_cons (pv 0) (pa_cons (pv 1) pa_nil))) (pe_lst (pa_cons (pe_tup (pa_cons (pe_callB call_len_seq (by rfl) T.len PySem.boot_len (pa_cons (pv 0) pa_nil)) (pa_cons (pe_callB call_len_seq (by rfl) T.len PySem.boot_len (pa_cons (pv 1) pa_nil)) pa_nil))) pa_nil)))) (pg_tup rfl (pgs_cons (pg_name (i := 5) sc.nd rfl (Or.inl rfl)) (pgs_cons (pg_name (i := 6) sc.nd rfl (Or.inl rfl)) pgs_nil)))
        (pss_cut (ps_if (PW.pt (pw_or (pt_cmpR op_lt (pv 3) (pv 5) (nomark _)) (pw_or1 (pt_cmpR op_lt (pv 4) (pv 6) (nomark _)))))
          (pss_one (ps_expr (pe_bm PySem.F.plainAttrs_list PySem.F.slot_list_append PySem.F.type_list_append mt_append (pv 2) (pa_cons (pe_tup (pa_cons (pv 3) (pa_cons (pv 5) (pa_cons (pe_slice (sl_tup2 : SlR _ (rSlT2 K)) (pv 1) (po_some (pv 4)) (po_some (pv 6))) pa_nil)))) pa_nil))))
          pss_nil)
        (pss_cons (ps_set (i := 3) sc.nd rfl (Or.inl rfl) (pe_op op_add (pv 5) pe_int))
        (pss_one (ps_set (i := 4) sc.nd rfl (Or.inl rfl) (pe_op op_add (pv 6) pe_int))))))
      (pss_one (ps_ret (pv 2))))))), ?_⟩
    refine ⟨Nat.zero_le _, fun o no => ?_⟩
    have s00 := same_upd (o := .lst []) no
    refine ⟨_, rfl, _, rfl, a, b, xs, ys, rfl, s00.tupS ha, s00.tupS hb, x1, y1, fun x hx => An12.lineB_Ok (xok x hx), fun y hy => An12.lineB_Ok (yok y hy), fun l Hk sk nl hp => ?_⟩
    have s0 := s00.trans sk
    have hok := sk _ _ (upd_same (H := H) (a := o) (o := .lst []))
    have rise : An10.Rise xs ys 0 0 (An10.path xs ys (xs.length + ys.length) 0 0) := An10.path_rise _ 0 0
    have p1 : (An10.path xs ys (xs.length + ys.length) 0 0).length ≤ xs.length := by
      rw [An10.path_len _ 0 0 (by omega)]
      have := An10.tab_le (xs := xs) (ys := ys) (i := 0) (k := 0)
      omega
    generalize hps : An10.path xs ys (xs.length + ys.length) 0 0 = ps at hp rise p1
    have k : ∀ (l : Addr) H', Same H H' → H l = none → Dt K H' (.list ((An12.spanL xs ys 0 0 ps).map An12.rowDat)) (.ref l) → Q (.ref l) H' := by rw [← hps]; exact k
    obtain ⟨ts, hts, tl, rows⟩ := hp
    refine ⟨_, rfl, a, _, rfl, .inr (s0.tupS ha), _, rfl, b, _, rfl, .inr (s0.tupS hb), lineN 2, fun t0 n0 => ?_⟩
    have u0 := same_upd (o := .tup [V.int ((xs.map V.str).length : Nat), V.int ((ys.map V.str).length : Nat)]) n0
    refine ⟨lineN 1, fun l1 n1 => ?_⟩
    have u1 := same_upd (o := .lst [V.ref t0]) n1
    refine ⟨l, l1, _, _, rfl, rfl, (u0.trans u1) _ _ hts, upd_same, le_line (by rw [List.length_map]; simp; omega), fun l2 n2 => ?_⟩
    have u2 := same_upd (o := .lst (ts.map V.ref ++ [V.ref t0])) n2
    have v3 := (u0.trans u1).trans u2
    have s3 := s0.trans v3
    have ho3 := v3 _ _ hok
    have h03 : upd (upd (upd Hk t0 (.tup [V.int ((xs.map V.str).length : Nat), V.int ((ys.map V.str).length : Nat)])) l1 (.lst [V.ref t0])) l2 (.lst (ts.map V.ref ++ [V.ref t0])) t0 = some (.tup [V.int ((xs.length : Nat) : Int), V.int ((ys.length : Nat) : Int)]) := by
      have e := (u1.trans u2) _ _ upd_same
      rw [e, List.length_map, List.length_map]
    have hl3 : upd (upd (upd Hk t0 (.tup [V.int ((xs.map V.str).length : Nat), V.int ((ys.map V.str).length : Nat)])) l1 (.lst [V.ref t0])) l2 (.lst (ts.map V.ref ++ [V.ref t0])) l2 = some (.lst ((ts ++ [t0]).map V.ref)) := by
      rw [upd_same, List.map_append]; rfl
    have dol : l2 ≠ o := (ne_of_none ((u0.trans u1) _ _ hok) n2).symm
    generalize upd (upd (upd Hk t0 (.tup [V.int ((xs.map V.str).length : Nat), V.int ((ys.map V.str).length : Nat)])) l1 (.lst [V.ref t0])) l2 (.lst (ts.map V.ref ++ [V.ref t0])) = H3 at v3 s3 ho3 h03 hl3
    obtain ⟨all, hall⟩ : ∃ all, all = ps ++ [(xs.length, ys.length)] := ⟨_, rfl⟩
    have al : all.length = ps.length + 1 := by rw [hall]; simp
    have rows3 : ∀ (i : Nat) (t : Addr), (ts ++ [t0])[i]? = some t → ∃ p : Nat × Nat, all[i]? = some p ∧ p.2 ≤ ys.length ∧ (i < ps.length → p.2 < ys.length) ∧ t ≠ o ∧ H3 t = some (.tup [V.int p.1, V.int p.2]) := fun i t ht => by
      rcases An.snoc_get ht with ⟨hi, q⟩ | ⟨hi, rfl⟩
      · have hil : i < ps.length := by rw [← tl]; exact hi
        have hpi : ps[i]? = some ps[i] := List.getElem?_eq_getElem hil
        have hq := rows i t _ q hpi
        have hle := (An12.rise_le rise ps[i] (List.getElem_mem hil)).2
        have tno : t ≠ o := fun z => by rw [z, hok] at hq; cases hq
        exact ⟨ps[i], by rw [hall, List.getElem?_append_left hil]; exact hpi, Nat.le_of_lt hle, fun _ => hle, tno, v3 _ _ hq⟩
      · refine ⟨(xs.length, ys.length), by rw [hall, hi, tl, List.getElem?_append_right (Nat.le_refl _)]; simp, Nat.le_refl _, fun z => by omega, fun z => ?_, h03⟩
        rw [z] at h03
        rw [ho3] at h03; cases h03
    have k3 : Same (An12.hide H3 o) (An12.hide H3 o) := Same.refl _
    refine ⟨l2, rfl, ⟨_, SqL.of hl3⟩, for_list (K := K) (a := l2) (xs := (ts ++ [t0]).map V.ref) (fun j σ H2 => ∃ (lo fi : Nat) (acc : List An12.Row) (vs : List V) (o6 o7 : Option V), σ = [some (.ref a), some (.ref b), some (.ref o), some (.int lo), some (.int fi), o6, o7] ∧ Same (An12.hide H3 o) (An12.hide H2 o) ∧ H2 o = some (.lst vs) ∧ DtAll K (An12.hide H2 o) (acc.map An12.rowDat) vs ∧ acc.length ≤ j ∧ (j ≤ ps.length → fi ≤ ys.length) ∧ acc ++ An12.spanT ys lo fi (all.drop j) = An12.spanL xs ys 0 0 ps)
      ⟨0, 0, [], [], none, none, rfl, k3, ho3, rfl, Nat.le_refl _, fun _ => Nat.zero_le _, by rw [List.drop_zero, List.nil_append, hall, An12.spanT_all]⟩ (fun j σ H2 _ ⟨_, _, _, _, _, _, _, e, _⟩ => SqL.of ((An12.hide_same H2 o) _ _ (e _ _ ((An12.hide_ne dol).trans hl3)))) ?_ ?_⟩
    · rintro j x σ H2 hj ⟨lo, fi, acc, vs, o6, o7, rfl, e2, ho2, hacc, accl, fil, eq⟩
      rw [List.getElem?_map] at hj
      cases q : (ts ++ [t0])[j]? with
      | none => rw [q] at hj; cases hj
      | some t =>
        rw [q] at hj
        have hj : V.ref t = x := Option.some.inj hj
        subst hj
        obtain ⟨p, hp, hp2, hp3, tno, hpt⟩ := rows3 j t q
        have hjl : j < all.length := (List.getElem?_eq_some_iff.mp hp).1
        have hd : all.drop j = p :: all.drop (j + 1) := by
          obtain ⟨hj', ej⟩ := List.getElem?_eq_some_iff.mp hp
          rw [List.drop_eq_getElem_cons hj', ej]
        have fil := fil (by omega)
        have keep : ∀ {b u}, b ≠ o → H3 b = some u → H2 b = some u := fun {b u} hb h => (An12.hide_same H2 o) _ _ (e2 _ _ ((An12.hide_ne hb).trans h))
        have hb2 : SqT K H2 b (ys.map V.str) := (An12.hide_same H2 o).tupS (e2.tupS (An12.tup_hide ho3 (s3.tupS hb)))
        rw [hd] at eq
        refine ⟨t, _, rfl, SqT.of (keep tno hpt), rfl, _, _, rfl, _, _, rfl, rfl, ?_⟩
        refine ⟨fun σ' H' => ∃ (acc : List An12.Row) (vs : List V), σ' = [some (.ref a), some (.ref b), some (.ref o), some (.int lo), some (.int fi), some (.int p.1), some (.int p.2)] ∧ Same (An12.hide H3 o) (An12.hide H' o) ∧ H' o = some (.lst vs) ∧ DtAll K (An12.hide H' o) (acc.map An12.rowDat) vs ∧ acc.length ≤ j + 1 ∧ acc ++ An12.spanT ys (p.1 + 1) (p.2 + 1) (all.drop (j + 1)) = An12.spanL xs ys 0 0 ps, ?_, ?_⟩
        · refine ⟨_, rfl, _, rfl, _, _, rfl, rfl, _, rfl, ite2 (fun h1 => iteT ?b) (fun h1 => ⟨_, rfl, _, rfl, _, _, rfl, rfl, _, rfl, ite2 (fun h2 => ?c) (fun h2 => ?_)⟩)⟩
          case b | c =>
            have hc : lo < p.1 ∨ fi < p.2 := by
              first
                | exact .inl (by have := of_decide_eq_true h1; omega)
                | exact .inr (by have := of_decide_eq_true h2; omega)
            have eq : acc ++ ((if lo < p.1 ∨ fi < p.2 then [An12.spanR lo p.1 ((ys.drop fi).take (p.2 - fi))] else []) ++ An12.spanT ys (p.1 + 1) (p.2 + 1) (all.drop (j + 1))) = An12.spanL xs ys 0 0 ps := eq
            rw [if_pos hc] at eq
            have vl := hacc.length
            rw [List.length_map] at vl
            refine ⟨_, rfl, .inl ⟨rfl, _, SqL.of ho2⟩, _, rfl, _, rfl, _, rfl, _, rfl, _, rfl, _, rfl, _, rfl, b, _, rfl, hb2, fun v H4 hv => ?_⟩
            obtain ⟨q4, rfl, s4, hq4⟩ := An12.cut_any hb2 hv
            rw [An12.cut_mid fil hp2] at hq4
            refine ⟨lineN 3, fun t1 n1 => ?_⟩
            have s5 := s4.trans (same_upd (o := .tup [V.int lo, V.int p.1, V.ref q4]) n1)
            have hot : o ≠ t1 := ne_of_none (s4 _ _ ho2) n1
            have ho5 := s5 _ _ ho2
            refine ⟨o, _, _, rfl, rfl, ho5, lt_line (by omega), acc ++ [An12.spanR lo p.1 ((ys.drop fi).take (p.2 - fi))], vs ++ [V.ref t1], rfl, ?_, upd_same, ?_, by rw [List.length_append, List.length_singleton]; omega, by rw [List.append_assoc]; exact eq⟩
            · rw [An12.hide_upd]
              exact e2.trans (An12.same_hide o s5)
            · rw [An12.hide_upd, List.map_append]
              refine DtAll.append (DtAll.same (An12.same_hide o s5) _ _ hacc) ⟨.ref t1, [], rfl, ⟨t1, _, rfl, An12.tup_hide ho5 (SqT.of upd_same), _, _, rfl, rfl, _, _, rfl, rfl, _, _, rfl, ⟨q4, _, rfl, An12.tup_hide ho5 ((same_upd n1).tupS hq4), DtAll.strs _⟩, rfl⟩, rfl⟩
          have eq : acc ++ ((if lo < p.1 ∨ fi < p.2 then [An12.spanR lo p.1 ((ys.drop fi).take (p.2 - fi))] else []) ++ An12.spanT ys (p.1 + 1) (p.2 + 1) (all.drop (j + 1))) = An12.spanL xs ys 0 0 ps := eq
          rw [if_neg (fun z => z.elim (fun z => h1 (decide_eq_true (by omega))) fun z => h2 (decide_eq_true (by omega)))] at eq
          exact ⟨acc, vs, rfl, e2, ho2, hacc, by omega, eq⟩
        · rintro σ' H' ⟨acc, vs, rfl, e3, ho', hacc', accl', eq'⟩
          refine ⟨_, rfl, _, _, rfl, rfl, _, rfl, _, _, rfl, rfl, p.1 + 1, p.2 + 1, acc, vs, _, _, rfl, e3, ho', hacc', accl', fun z => ?_, eq'⟩
          have := hp3 (by omega)
          omega
    · rintro σ H2 ⟨lo, fi, acc, vs, o6, o7, rfl, e2, ho2, hacc, accl, _, eq⟩
      have e0 : all.drop ((ts ++ [t0]).map V.ref).length = [] := List.drop_of_length_le (by rw [List.length_map, List.length_append, tl, al]; exact Nat.le_refl _)
      rw [e0] at eq
      have eq : acc ++ [] = An12.spanL xs ys 0 0 ps := eq
      rw [List.append_nil] at eq
      refine ⟨_, rfl, k o H2 (fun c u hc => ?_) no ?_⟩
      · have hco : c ≠ o := ne_of_none hc no
        exact (An12.hide_same H2 o) _ _ (e2 _ _ ((An12.hide_ne hco).trans (s3 _ _ hc)))
      · rw [← eq]
        exact ⟨o, vs, rfl, SqL.of ho2, DtAll.same (An12.hide_same H2 o) _ _ hacc⟩
end f_spans_of
namespace f_spans_done
abbrev st : Stmt := top 17
theorem sc : FnScope ["old", "rows", "done", "place", "low", "high", "lines"] ["old", "rows"] (defScope st) := ⟨rfl, rfl, rfl, by decide +kernel, rfl, by decide +kernel, by decide +kernel⟩
theorem ok {f : Addr} {fd : FuncData} (F : Fun K "spans_done" "spans_done" st f fd) (T : Txt K mg aN t1 t4 t5) : FnOk P w K mg base CX0 1 f fd ["old", "rows"] (An12.spDone K) := by
  refine F.ok sc (fun vs H Q E h => ?_) (fun cdv A outer s H vs Q E hr h => ?_)
  · obtain ⟨a, l, xs, rs, rfl, _⟩ := h
    rfl
  · obtain ⟨a, l, xs, rs, rfl, ha, hd, x1, r1, ends, k⟩ := h
    refine ⟨_, (pss_cons (ps_set (i := 2) sc.nd rfl (Or.inl rfl) (pe_lst pa_nil))
      (pss_cons (ps_set (i := 3) sc.nd rfl (Or.inl rfl) pe_int)
      (pss_cons (ps_for PassesOwn.never rfl (pi_list (pv 1)) (pg_tup rfl (pgs_cons (pg_name (i := 4) sc.nd rfl (Or.inl rfl)) (pgs_cons (pg_name (i := 5) sc.nd rfl (Or.inl rfl)) (pgs_cons (pg_name (i := 6) sc.nd rfl (Or.inl rfl)) pgs_nil))))
        (pss_cons (ps_expr (pe_bm PySem.F.plainAttrs_list PySem.F.slot_list_extend PySem.F.type_list_extend mt_extendT (pv 2) (pa_cons (pe_slice (sl_tup2 : SlR _ (rSlT2 K)) (pv 0) (po_some (pv 3)) (po_some (pv 4))) pa_nil)))
        (pss_cons (ps_expr (pe_bm PySem.F.plainAttrs_list PySem.F.slot_list_extend PySem.F.type_list_extend mt_extendT (pv 2) (pa_cons (pv 6) pa_nil)))
        (pss_one (ps_set (i := 3) sc.nd rfl (Or.inl rfl) (pv 5))))))
      (pss_cons (ps_expr (pe_bm PySem.F.plainAttrs_list PySem.F.slot_list_extend PySem.F.type_list_extend mt_extendT (pv 2) (pa_cons (pe_slice (sl_tup2 : SlR _ (rSlT2 K)) (pv 0) (po_some (pv 3)) po_none) pa_nil)))
      (pss_one (ps_ret (pe_callTy call_tuple_of (by rfl) T.tuple PyProof.Rows.boot_tuple (pa_cons (pv 2) pa_nil)))))))), ?_⟩
    obtain ⟨l', vs, e0, hl, hvs⟩ := hd
    have e0 : l = l' := by injection e0
    subst e0
    have vl := hvs.length
    rw [List.length_map] at vl
    refine ⟨Nat.zero_le _, fun o no => ?_⟩
    have s0 := same_upd (o := .lst []) no
    refine ⟨_, rfl, l, rfl, ⟨_, s0.seq hl⟩, for_list (K := K) (a := l) (xs := vs) (fun i σ H2 => ∃ (pl : Nat) (fr : List Str) (o4 o5 o6 : Option V), σ = [some (.ref a), some (.ref l), some (.ref o), some (.int pl), o4, o5, o6] ∧ Same H H2 ∧ H2 o = some (.lst (fr.map V.str)) ∧ fr.length ≤ 2000 * i ∧ pl ≤ xs.length ∧ An12.Ends xs.length pl (rs.drop i) ∧ fr ++ An12.patchL xs pl (rs.drop i) = An12.patchL xs 0 rs)
      ⟨0, [], none, none, none, rfl, s0, upd_same, Nat.zero_le _, Nat.zero_le _, ends, rfl⟩ (fun i σ H2 _ ⟨_, _, _, _, _, _, e, _⟩ => e.seq hl) ?_ ?_⟩
    · rintro i x σ H2 hi ⟨pl, fr, o4, o5, o6, rfl, e2, ho2, frl, pll, end2, eq⟩
      have hil : i < vs.length := (List.getElem?_eq_some_iff.mp hi).1
      obtain ⟨r, t, v, er, rfl, ht, hd⟩ := An12.rows_get hvs hi
      have hdr : rs.drop i = r :: rs.drop (i + 1) := by
        obtain ⟨hj', ej⟩ := List.getElem?_eq_some_iff.mp er
        rw [List.drop_eq_getElem_cons hj', ej]
      rw [hdr] at end2 eq
      obtain ⟨g1, g2, g3, ⟨ls, el, ll⟩, g5⟩ := end2
      rw [el] at hd
      obtain ⟨tl, xs2, rfl, htl, hxs2⟩ := hd
      have hxs2 := DtAll.strs_of hxs2
      subst hxs2
      obtain ⟨lo, hlo⟩ : ∃ n : Nat, r.1 = n := ⟨r.1.toNat, by omega⟩
      obtain ⟨hi', hhi⟩ : ∃ n : Nat, r.2.1 = n := ⟨r.2.1.toNat, by omega⟩
      rw [hlo, hhi] at ht
      have ha2 := e2.tupS ha
      refine ⟨t, _, rfl, e2.tupS ht, rfl, _, _, rfl, _, _, rfl, _, _, rfl, rfl, ?_⟩
      refine ⟨_, rfl, .inl ⟨rfl, _, SqL.of ho2⟩, _, rfl, _, rfl, _, rfl, _, rfl, _, rfl, a, _, rfl, ha2, fun v H4 hv => ?_⟩
      obtain ⟨q4, rfl, s4, hq4⟩ := An12.cut_any ha2 hv
      rw [An12.cut_mid pll (by omega)] at hq4
      have cl : ((xs.drop pl).take (lo - pl)).length ≤ 1000 := by rw [List.length_take, List.length_drop]; omega
      refine ⟨o, q4, _, _, rfl, rfl, s4 _ _ ho2, hq4, le_line (by rw [List.length_map, List.length_map]; omega), ?_⟩
      have s5 : Same H (upd H4 o (.lst (fr.map V.str ++ ((xs.drop pl).take (lo - pl)).map V.str))) := An.Same.updF (e2.trans s4) no
      refine ⟨_, rfl, .inl ⟨rfl, _, SqL.of upd_same⟩, _, rfl, o, tl, _, _, rfl, rfl, upd_same, s5.tupS htl, le_line (by rw [List.length_append, List.length_map, List.length_map, List.length_map]; omega), ?_⟩
      refine ⟨_, rfl, hi', fr ++ (xs.drop pl).take (lo - pl) ++ ls, _, _, _, rfl, An.Same.updF s5 no, ?_, ?_, by omega, ?_, ?_⟩
      · rw [upd_upd, upd_same, List.map_append, List.map_append]
      · rw [List.length_append, List.length_append]; omega
      · rw [hhi, Int.toNat_natCast] at g5; exact g5
      · have eq : fr ++ ((xs.drop pl).take (r.1.toNat - pl) ++ An12.linesOf r.2.2 ++ An12.patchL xs r.2.1.toNat (rs.drop (i + 1))) = _ := eq
        rw [el, An12.linesOf_strs, hlo, hhi, Int.toNat_natCast, Int.toNat_natCast] at eq
        rw [← eq]
        simp only [List.append_assoc]
    · rintro σ H2 ⟨pl, fr, o4, o5, o6, rfl, e2, ho2, frl, pll, end2, eq⟩
      have e0 : rs.drop vs.length = [] := List.drop_of_length_le (by omega)
      rw [e0] at eq
      have ha2 := e2.tupS ha
      refine ⟨_, rfl, .inl ⟨rfl, _, SqL.of ho2⟩, _, rfl, _, rfl, _, rfl, a, _, rfl, ha2, fun v H4 hv => ?_⟩
      obtain ⟨q4, rfl, s4, hq4⟩ := An12.cut_any ha2 hv
      rw [An12.cut_rest pll] at hq4
      refine ⟨o, q4, _, _, rfl, rfl, s4 _ _ ho2, hq4, le_line (by rw [List.length_map, List.length_map, List.length_drop]; omega), ?_⟩
      have s5 : Same H (upd H4 o (.lst (fr.map V.str ++ (xs.drop pl).map V.str))) := An.Same.updF (e2.trans s4) no
      refine ⟨_, rfl, o, _, rfl, .inl ⟨SqL.of upd_same, fun p np => k p _ (s5.trans (same_upd np)) (s5.free np) (SqT.of ?_)⟩⟩
      rw [upd_same, ← eq, List.map_append]
      rfl
end f_spans_done
namespace f_need_spans
abbrev st : Stmt := top 15
theorem sc : FnScope ["old", "rows", "least", "low", "high", "lines"] ["old", "rows"] (defScope st) := ⟨rfl, rfl, rfl, by decide +kernel, rfl, by decide +kernel, by decide +kernel⟩
theorem ok {f : Addr} {fd : FuncData} (F : Fun K "need_spans" "need_spans" st f fd) (T : Txt K mg aN t1 t4 t5) (C_is_lines : Cal P w K mg base 3 "is_lines" ["thing"] (spLines K)) : FnOk P w K mg base (CXF P w) 4 f fd ["old", "rows"] (An12.spNeedSpans K aN) := by
  refine F.okX sc (fun vs H Q E h => ?_) (fun cdv A outer s H vs Q E hr h => ?_)
  · obtain ⟨a, l, xs, rs, rfl, _⟩ := h
    rfl
  · obtain ⟨a, l, xs, rs, rfl, ha, hd, x1, r1, sm, kg, kb⟩ := h
    refine ⟨_, (pss_cons (ps_set (i := 2) sc.nd rfl (Or.inl rfl) pe_int)
      (pss_one (ps_for PassesOwn.leaving rfl (pi_list (pv 1)) (pg_tup rfl (pgs_cons (pg_name (i := 3) sc.nd rfl (Or.inl rfl)) (pgs_cons (pg_name (i := 4) sc.nd rfl (Or.inl rfl)) (pgs_cons (pg_name (i := 5) sc.nd rfl (Or.inl rfl)) pgs_nil))))
        (pss_cons (ps_if (PW.pt (pw_or (pt_cmpR op_lt (pv 3) (pv 2) (nomark _)) (pw_or (pt_cmpR op_gt (pv 3) (pv 4) (nomark _)) (pw_or1 (pt_cmpR op_gt (pv 4) (pe_callB call_len_seq (by rfl) T.len PySem.boot_len (pa_cons (pv 0) pa_nil)) (nomark _))))))
          (pss_one (ps_raise rfl throws_fn rfl T.NoFit T.xNoFit (pa_cons pe_str pa_nil)))
          pss_nil)
        (pss_cons (ps_if (pt_not (pt_truthK (K := K) (pe_callC C_is_lines (hr.mono (by decide)) (pa_cons (pv 5) pa_nil)) (fun _ => rfl)))
          (pss_one (ps_raise rfl throws_fn rfl T.NoFit T.xNoFit (pa_cons pe_str pa_nil)))
          pss_nil)
        (pss_cons (ps_if (PW.pt (pw_and (pt_cmpR op_eq (pv 3) (pv 4) (nomark _)) (pw_and1 (pt_cmpR op_eq (pe_callB call_len_seq (by rfl) T.len PySem.boot_len (pa_cons (pv 5) pa_nil)) pe_int (nomark _)))))
          (pss_one (ps_raise rfl throws_fn rfl T.NoFit T.xNoFit (pa_cons pe_str pa_nil)))
          pss_nil)
        (pss_one (ps_set (i := 2) sc.nd rfl (Or.inl rfl) (pe_op op_add (pv 4) pe_int))))))))), ?_⟩
    obtain ⟨l', vs, e0, hl, hvs⟩ := hd
    have e0 : l = l' := by injection e0
    subst e0
    have vl := hvs.length
    rw [List.length_map] at vl
    refine ⟨_, rfl, l, rfl, ⟨_, hl⟩, for_list (K := K) (a := l) (xs := vs) (fun i σ H2 => ∃ (o3 o4 o5 : Option V), σ = [some (.ref a), some (.ref l), some (.int (An12.lastOf (-1) rs i + 1)), o3, o4, o5] ∧ Same H H2 ∧ An12.goodRows xs.length (-1) (rs.take i) = true)
      ⟨none, none, none, rfl, Same.refl _, rfl⟩ (fun i σ H2 _ ⟨_, _, _, _, e, _⟩ => e.seq hl) ?_ ?_⟩
    · rintro i x σ H2 hi ⟨o3, o4, o5, rfl, e2, good⟩
      obtain ⟨r, t, v, er, rfl, ht, hd⟩ := An12.rows_get hvs hi
      have hd2 := Dt.same e2 _ _ hd
      have ha2 := e2.tupS ha
      have sn := An12.goodRows_snoc (n := xs.length) (last := -1) er
      rw [good, Bool.true_and] at sn
      have bad : ¬ An12.GoodR xs.length (An12.lastOf (-1) rs i) r → ∀ H', Same H2 H' → E (.ref aN) none H' := fun hb H' s' => by
        refine kb ?_ _ (e2.trans s')
        cases q : An12.goodRows xs.length (-1) rs with
        | false => rfl
        | true =>
          have := An12.goodRows_cut (i + 1) q
          rw [sn] at this
          exact absurd (An12.goodRow_iff.mp this) hb
      have lst : An12.lastOf (-1) rs (i + 1) = r.2.1 := by
        show ((rs[i]?).map (·.2.1)).getD 0 = _
        rw [er]; rfl
      refine ⟨t, _, rfl, e2.tupS ht, rfl, _, _, rfl, _, _, rfl, _, _, rfl, rfl, ?_⟩
      refine ⟨_, rfl, _, rfl, _, _, rfl, rfl, _, rfl, ite2 (fun h1 => iteT ⟨lineN 1, bad (fun g => ?_) _ (Same.refl _)⟩) (fun h1 => ⟨_, rfl, _, rfl, _, _, rfl, rfl, _, rfl, ite2 (fun h2 => iteT ⟨lineN 1, bad (fun g => ?_) _ (Same.refl _)⟩) (fun h2 => ⟨_, rfl, _, rfl, a, _, rfl, .inr ha2, _, _, rfl, rfl, _, rfl, ite2 (fun h3 => ⟨lineN 1, bad (fun g => ?_) _ (Same.refl _)⟩) (fun h3 => ?_)⟩)⟩)⟩
      · have h1 := of_decide_eq_true h1
        have := g.lt
        omega
      · have h2 := of_decide_eq_true h2
        have := g.le
        omega
      · have h3 := of_decide_eq_true h3
        rw [List.length_map] at h3
        have := g.top
        omega
      have h1 : An12.lastOf (-1) rs i < r.1 := by
        have : ¬ r.1 < An12.lastOf (-1) rs i + 1 := fun z => h1 (decide_eq_true z)
        omega
      have h2 : r.1 ≤ r.2.1 := by
        have : ¬ r.1 > r.2.1 := fun z => h2 (decide_eq_true z)
        omega
      have h3 : r.2.1 ≤ xs.length := by
        rw [List.length_map] at h3
        have : ¬ r.2.1 > (xs.length : Int) := fun z => h3 (decide_eq_true z)
        omega
      refine ⟨_, rfl, r.2.2, v, rfl, hd2.dw, sm r (List.mem_of_getElem? er), fun H3 s3 => ⟨_, rfl, ?_⟩⟩
      cases ql : linesD r.2.2 with
      | false => exact iteT ⟨lineN 1, bad (fun g => by have := g.lines; rw [ql] at this; cases this) _ s3⟩
      | true =>
        refine iteF ?_
        obtain ⟨ls, el, lok⟩ := An12.lines_strs ql
        rw [el] at hd2
        obtain ⟨tl, xs2, rfl, htl, hxs2⟩ := hd2
        have hxs2 := DtAll.strs_of hxs2
        subst hxs2
        refine ⟨_, rfl, _, rfl, rfl, _, rfl, ite2 (fun h4 => ?_) (fun h4 => ?_)⟩
        · have h4 : V.int r.1 = V.int r.2.1 := of_decide_eq_true h4
          have h4 : r.1 = r.2.1 := by injection h4
          refine ⟨_, rfl, tl, _, rfl, .inr (s3.tupS htl), rfl, _, rfl, ite2 (fun h5 => ⟨lineN 1, bad (fun g => ?_) _ s3⟩) (fun h5 => ?_)⟩
          · have h5 : V.int ((((ls.map V.str).length : Nat) : Int)) = V.int 0 := of_decide_eq_true h5
            have h5 : (((ls.map V.str).length : Nat) : Int) = 0 := by injection h5
            rw [List.length_map] at h5
            have h5 : ls = [] := List.eq_nil_of_length_eq_zero (by omega)
            exact g.some ⟨h4, by rw [el, h5]; rfl⟩
          · refine ⟨_, rfl, _, _, rfl, rfl, some (.int r.1), some (.int r.2.1), some (.ref tl), ?_, e2.trans s3, ?_⟩
            · rw [lst]; rfl
            · rw [sn, An12.goodRow_iff]
              refine ⟨h1, h2, h3, ql, fun z => h5 (decide_eq_true ?_)⟩
              have z2 := z.2
              rw [el] at z2
              have : ls = [] := by
                cases ls with
                | nil => rfl
                | cons x ls => cases z2
              rw [this]; rfl
        · refine ⟨_, rfl, _, _, rfl, rfl, some (.int r.1), some (.int r.2.1), some (.ref tl), ?_, e2.trans s3, ?_⟩
          · rw [lst]; rfl
          · rw [sn, An12.goodRow_iff]
            exact ⟨h1, h2, h3, ql, fun z => h4 (decide_eq_true (by rw [z.1]))⟩
    · rintro σ H2 ⟨o3, o4, o5, rfl, e2, good⟩
      rw [vl, List.take_length] at good
      exact kg good _ e2
end f_need_spans
namespace f_patched
abbrev st : Stmt := top 16
theorem sc : FnScope ["old", "rows"] ["old", "rows"] (defScope st) := ⟨rfl, rfl, rfl, by decide +kernel, rfl, by decide +kernel, by decide +kernel⟩
theorem ok {f : Addr} {fd : FuncData} (F : Fun K "patched" "patched" st f fd) (T : Txt K mg aN t1 t4 t5) (C_need_spans : CalX P w K mg base 4 "need_spans" ["old", "rows"] (An12.spNeedSpans K aN)) (C_spans_done : Cal P w K mg base 1 "spans_done" ["old", "rows"] (An12.spDone K)) : FnOk P w K mg base (CXF P w) 5 f fd ["old", "rows"] (An12.spPatched K aN) := by
  refine F.okX sc (fun vs H Q E h => ?_) (fun cdv A outer s H vs Q E hr h => ?_)
  · obtain ⟨a, l, xs, rs, rfl, _⟩ := h
    rfl
  · obtain ⟨a, l, xs, rs, rfl, ha, hd, x1, r1, xok, sm, kg, kb⟩ := h
    refine ⟨_, (pss_cons (ps_expr (pe_callX C_need_spans (hr.mono (by decide)) raises_fn (pa_cons (pv 0) (pa_cons (pv 1) pa_nil))))
      (pss_one (ps_ret (pe_callC C_spans_done (hr.mono (by decide)) (pa_cons (pv 0) (pa_cons (pv 1) pa_nil)))))), ?_⟩
    refine ⟨_, rfl, _, rfl, a, l, xs, rs, rfl, ha, hd, x1, r1, sm, fun g H2 s2 => ?_, fun g H2 s2 => kb g _ s2⟩
    exact ⟨_, rfl, _, rfl, a, l, xs, rs, rfl, s2.tupS ha, Dt.same s2 _ _ hd, by omega, r1, An12.ends_good (by decide) g sm, fun p H3 s3 _ hp => kg g p _ (s2.trans s3) hp⟩
end f_patched
namespace f_cost_of
abbrev st : Stmt := top 18
theorem sc : FnScope ["rows"] ["rows"] (defScope st) := ⟨rfl, rfl, rfl, by decide +kernel, rfl, by decide +kernel, by decide +kernel⟩
theorem ok {f : Addr} {fd : FuncData} (F : Fun K "cost_of" "cost_of" st f fd) (T : Txt K mg aN t1 t4 t5) : FnOk P w K mg base CX0 5 f fd ["rows"] (An12.spCost K) := by
  refine F.ok sc (fun vs H Q E h => ?_) (fun cdv A outer s H vs Q E hr h => ?_)
  · obtain ⟨l, rs, rfl, _⟩ := h
    rfl
  · obtain ⟨l, rs, rfl, hd, r1, tr, k⟩ := h
    refine ⟨_, (pss_one (ps_ret (pe_callB (call_sum rfl) (by rfl) T.sum PyProof.Rows.boot_sum (pa_cons (pe_comp (sc := defScope st) (N := ["rows"]) (N' := ["row"]) (src := [none]) ⟨by decide +kernel, rfl, rfl, by decide +kernel, by decide +kernel, by decide +kernel, by decide +kernel⟩ rfl rfl rfl (pi_list (pv 0)) (fun _ _ _ _ => (pg_name (i := 0) (show (["row"] : List Str).Nodup by decide +kernel) rfl (Or.inl rfl))) (fun _ _ _ _ => pf_nil) (fun _ _ _ _ => (pe_op op_add (pe_glob (v := .int 2) rfl T.COST_OF_A_SPAN ⟨_, rfl⟩) (pe_callB (call_lenK (K := K)) (by rfl) T.len PySem.boot_len (pa_cons (pe_ix (ix_tup : IxR _ (rIxT K)) (pv 0) pe_int (fun _ _ => rfl)) pa_nil))))) pa_nil)))), ?_⟩
    obtain ⟨l', vs, e0, hl, hvs⟩ := hd
    have e0 : l = l' := by injection e0
    subst e0
    have vl := hvs.length
    rw [List.length_map] at vl
    refine ⟨_, rfl, l, rfl, ⟨_, hl⟩, comp_list0 (K := K) (a := l) (xs := vs) (fun i ys σ H2 => ∃ o, σ = [o] ∧ H2 = H ∧ ys = ((rs.take i).map fun r => 2 + ((An12.linesOf r.2.2).length : Int)).map V.int) ⟨none, rfl, rfl, rfl⟩ (le_line (by omega)) ?_ ?_ ?_⟩
    · rintro i ys σ H2 hi ⟨o, rfl, rfl, rfl⟩
      exact ⟨hl, by rw [List.length_map, List.length_map, List.length_take]; omega⟩
    · rintro i x ys σ H2 hi ⟨o, rfl, rfl, rfl⟩
      obtain ⟨r, t, v, er, rfl, ht, hd⟩ := An12.rows_get hvs hi
      obtain ⟨ls, el, ll⟩ := tr r (List.mem_of_getElem? er)
      rw [el] at hd
      obtain ⟨tl, xs2, rfl, htl, hxs2⟩ := hd
      have hxs2 := DtAll.strs_of hxs2
      subst hxs2
      refine ⟨_, rfl, t, _, _, _, rfl, rfl, ht, rfl, tl, _, rfl, .inr htl, _, _, rfl, rfl, _, rfl, rfl, ?_⟩
      rw [List.take_add_one, er, List.map_append, List.map_append]
      show _ = _ ++ [V.int (2 + ((An12.linesOf r.2.2).length : Int))]
      rw [el, An12.linesOf_strs, List.length_map]
    · rintro ys σ H2 ⟨o, rfl, rfl, rfl⟩ p np
      refine ⟨p, _, rfl, SqL.of upd_same, ?_⟩
      rw [vl, List.take_length, An12.cost_sum]
      exact k _ (same_upd np)
end f_cost_of
namespace g_whole
abbrev st : Stmt := top 20
theorem sc : FnScope ["_law_found"] ["_law_found"] (defScope st) := ⟨rfl, rfl, rfl, by decide +kernel, rfl, by decide +kernel, by decide +kernel⟩
theorem ok {f : Addr} {fd : FuncData} (F : Fun K "_law_whole" "_law_whole" st f fd) (T : Txt K mg aN t1 t4 t5) : FnOk P w K mg base CX0 1 f fd ["_law_found"] spWhole := by
  refine F.ok sc (fun vs H Q E h => ?_) (fun cdv A outer s H vs Q E hr h => ?_)
  · obtain ⟨i, rfl, _⟩ := h
    rfl
  · obtain ⟨i, rfl, k⟩ := h
    refine ⟨_, (pss_one (ps_ret (pe_and (pe_callB (call_isinstK (K := K)) (by rfl) T.isinstance PyProof.Rows.boot_isinstance (pa_cons (pv 0) (pa_cons (pe_bltn (v := .ty "int") rfl T.int PyProof.Rows.boot_int rfl) pa_nil))) (pe_one (pe_not (pe_callB (call_isinstK (K := K)) (by rfl) T.isinstance PyProof.Rows.boot_isinstance (pa_cons (pv 0) (pa_cons (pe_bltn (v := .ty "bool") rfl T.bool PyProof.Rows.boot_bool rfl) pa_nil)))))))), ?_⟩
    refine ⟨_, rfl, _, _, _, true, rfl, .int i, rfl, true, rfl, iteT ?_⟩
    exact ⟨_, rfl, _, _, _, false, rfl, .int i, T.hib, false, rfl, k⟩
end g_whole
namespace g_cell
abbrev st : Stmt := top 21
theorem sc : FnScope ["_law_script", "_law_k"] ["_law_script", "_law_k"] (defScope st) := ⟨rfl, rfl, rfl, by decide +kernel, rfl, by decide +kernel, by decide +kernel⟩
theorem ok {f : Addr} {fd : FuncData} (F : Fun K "_law_cell" "_law_cell" st f fd) (T : Txt K mg aN t1 t4 t5) : FnOk P w K mg base CX0 1 f fd ["_law_script", "_law_k"] (spCell K) := by
  refine F.ok sc (fun vs H Q E h => ?_) (fun cdv A outer s H vs Q E hr h => ?_)
  · obtain ⟨a, ns, k, rfl, _⟩ := h
    rfl
  · obtain ⟨a, ns, k, rfl, hs, h0, q⟩ := h
    refine ⟨_, (pss_cons (ps_if (pt_cmpR op_lt (pv 1) (pe_callB call_len_seq (by rfl) T.len PySem.boot_len (pa_cons (pv 0) pa_nil)) (nomark _))
        (pss_one (ps_ret (pe_ix (ix_list : IxR _ (rIxL K)) (pv 0) (pv 1) (fun _ _ => rfl))))
        pss_nil)
      (pss_one (ps_ret pe_int))), ?_⟩
    refine ⟨_, rfl, _, rfl, a, _, rfl, .inl hs, _, _, rfl, rfl, _, rfl, ite2 (fun h => ?_) (fun h => ?_)⟩
    · have h1 : k < ns.length := by simpa using h
      obtain ⟨n, _, hn⟩ := at_map (f := V.int) h0 h1
      exact ⟨_, rfl, _, rfl, a, _, _, _, rfl, rfl, hs, hn, q n⟩
    · exact q 0
end g_cell
namespace g_mixed
abbrev st : Stmt := top 22
theorem sc : FnScope ["_law_cell_here", "_law_k"] ["_law_cell_here", "_law_k"] (defScope st) := ⟨rfl, rfl, rfl, by decide +kernel, rfl, by decide +kernel, by decide +kernel⟩
theorem ok {f : Addr} {fd : FuncData} (F : Fun K "_law_mixed" "_law_mixed" st f fd) (T : Txt K mg aN t1 t4 t5) : FnOk P w K mg base CX0 1 f fd ["_law_cell_here", "_law_k"] spMixed := by
  refine F.ok sc (fun vs H Q E h => ?_) (fun cdv A outer s H vs Q E hr h => ?_)
  · obtain ⟨c, k, rfl, _⟩ := h
    rfl
  · obtain ⟨c, k, rfl, h0, h1, q⟩ := h
    refine ⟨_, (pss_one (ps_ret (pe_op op_mod (pe_op op_add (pe_op op_add (pe_op op_add (pe_op op_mul (pv 0) pe_int) (pe_op op_mul (pv 1) pe_int)) (pe_op op_mul (pe_op op_mul pe_int (pv 1)) (pv 1))) pe_int) pe_int))), ?_⟩
    refine ⟨_, rfl, _, _, rfl, rfl, .inr ⟨by decide, by decide⟩, _, rfl, _, _, rfl, rfl, .inr ⟨by decide, by decide⟩, _, _, rfl, rfl, _, rfl, _, _, rfl, rfl, .inl ⟨by decide, by decide⟩, _, rfl, _, _, rfl, rfl, .inr ⟨by omega, by omega⟩, _, _, rfl, rfl, _, _, rfl, rfl, _, _, rfl, rfl, (by show (0 : Int) < 2147483647; decide), q _⟩
end g_mixed
namespace g_text
abbrev st : Stmt := top 23
theorem sc : FnScope ["_law_cell_here", "_law_some", "_law_size"] ["_law_cell_here"] (defScope st) := ⟨rfl, rfl, rfl, by decide +kernel, rfl, by decide +kernel, by decide +kernel⟩
theorem ok {f : Addr} {fd : FuncData} (F : Fun K "_law_text" "_law_text" st f fd) (T : Txt K mg aN t1 t4 t5) (C__law_mixed : Cal P w K mg base 1 "_law_mixed" ["_law_cell_here", "_law_k"] spMixed) : FnOk P w K mg base CX0 2 f fd ["_law_cell_here"] spText := by
  refine F.ok sc (fun vs H Q E h => ?_) (fun cdv A outer s H vs Q E hr h => ?_)
  · obtain ⟨c, rfl, _⟩ := h
    rfl
  · obtain ⟨c, rfl, k⟩ := h
    refine ⟨_, (pss_cons (ps_set (i := 1) sc.nd rfl (Or.inr rfl) pe_str)
      (pss_cons (ps_set (i := 1) sc.nd rfl (Or.inr rfl) (pe_op op_add_str (pv 1) pe_str))
      (pss_cons (ps_set (i := 2) sc.nd rfl (Or.inl rfl) (pe_ix (ix_list : IxR _ (rIxL K)) (pe_lst (pa_cons pe_int (pa_cons pe_int (pa_cons pe_int (pa_cons pe_int (pa_cons pe_int pa_nil)))))) (pe_op op_mod (pv 0) pe_int) (fun _ _ => rfl)))
      (pss_one (ps_ret (pe_bm PySem.F.plainAttrs_str PySem.F.slot_str_join PySem.F.type_str_join mt_join pe_str (pa_cons (pe_comp (sc := defScope st) (N := ["_law_cell_here", "_law_some", "_law_size"]) (N' := ["_law_k", "_law_some", "_law_cell_here"]) (src := [none, some 1, some 0]) ⟨by decide +kernel, rfl, rfl, by decide +kernel, by decide +kernel, by decide +kernel, by decide +kernel⟩ rfl rfl rfl (pi_range1 rfl T.range (pa_cons (pv 2) pa_nil)) (fun _ _ _ _ => (pg_name (i := 0) (show (["_law_k", "_law_some", "_law_cell_here"] : List Str).Nodup by decide +kernel) rfl (Or.inl rfl))) (fun _ _ _ _ => pf_nil) (fun _ _ _ _ => (pe_ix ix_str (pv 1) (pe_op op_mod (pe_op op_fdiv (pe_callC C__law_mixed (hr.mono (by decide)) (pa_cons (pe_op op_fdiv (pv 2) pe_int) (pa_cons (pv 0) pa_nil))) pe_int) pe_int) (fun _ _ => rfl)))) pa_nil))))))), ?_⟩
    refine ⟨_, rfl, _, _, rfl, rfl, le_line (by decide +kernel), ?_⟩
    obtain ⟨S, hS0, hS, hG⟩ : ∃ S : Str, S = (" !\"#$&'()*+,-./0123456789:;<=>?@ABCDEFGHIJKLMNOPQRSTUVWXYZ[\\]^_`" : Str) ++ ("abcdefghijklmnopqrstuvwxyz{|}~" : Str) ∧ Menu 94 S ∧ (cs S).all signB = true := ⟨_, rfl, ⟨by decide +kernel, by decide +kernel⟩, by decide +kernel⟩
    rw [← hS0]
    refine ⟨lineN 5, fun l0 n0 => ⟨_, rfl, _, _, rfl, rfl, (by show (0 : Int) < 5; decide), ?_⟩⟩
    have hn : ∃ n : Nat, 1 ≤ n ∧ n ≤ 19 ∧ atI [V.int 1, V.int 2, V.int 3, V.int 7, V.int 19] (c % 5) = some (V.int n) := by
      have h5 : c % 5 = 0 ∨ c % 5 = 1 ∨ c % 5 = 2 ∨ c % 5 = 3 ∨ c % 5 = 4 := by omega
      rcases h5 with e | e | e | e | e
      · exact ⟨1, by decide, by decide, by rw [e]; rfl⟩
      · exact ⟨2, by decide, by decide, by rw [e]; rfl⟩
      · exact ⟨3, by decide, by decide, by rw [e]; rfl⟩
      · exact ⟨7, by decide, by decide, by rw [e]; rfl⟩
      · exact ⟨19, by decide, by decide, by rw [e]; rfl⟩
    obtain ⟨n, n1, n19, hat⟩ := hn
    refine ⟨l0, _, _, _, rfl, rfl, SqL.of upd_same, hat, ?_⟩
    refine ⟨rfl, _, rfl, _, rfl, by omega, by omega, comp_range0 (fun i ys σ H2 => ∃ x l, σ = [x, some (.str S), some (.int c)] ∧ H2 = upd H l0 (.lst [V.int 1, V.int 2, V.int 3, V.int 7, V.int 19]) ∧ ys = (l.map one).map V.str ∧ l.length = i ∧ ∀ c ∈ l, c < 128 ∧ signB c = true) ⟨none, [], rfl, rfl, rfl, rfl, fun c hc => nomatch hc⟩ (le_line (by omega))
      (fun i ys σ H2 hi ⟨x, l, _, _, ey, el, _⟩ => by rw [ey, List.length_map, List.length_map, el]; exact Nat.le_refl _) ?_ ?_⟩
    · rintro i ys σ H2 hi ⟨x, l, rfl, rfl, rfl, rfl, al⟩
      refine ⟨_, rfl, _, rfl, _, _, rfl, rfl, ⟨by decide, by decide⟩, _, rfl, _, _, rfl, by omega, by omega, fun m => ?_⟩
      refine ⟨_, _, rfl, rfl, ⟨by decide, by decide⟩, _, _, rfl, rfl, (by show (0 : Int) < 94; decide), ?_⟩
      obtain ⟨d, hd0, hd1⟩ := at_of (xs := S.cps.toList) (i := m / 7 % 94) (by omega) (by rw [hS.1]; omega)
      have hm : d ∈ cs S := List.mem_of_getElem? hd0
      have hd2 : d < 128 ∧ signB d = true := ⟨of_decide_eq_true (List.all_eq_true.mp hS.2 d hm), List.all_eq_true.mp hG d hm⟩
      refine ⟨S, _, d, rfl, rfl, hS.len (by decide), hd1, _, l ++ [d], rfl, rfl, ?_, by simp, mem_snoc al hd2⟩
      rw [List.map_append, List.map_append]
      rfl
    · rintro ys σ H2 ⟨x, l, rfl, rfl, rfl, el, al⟩ p np
      have c0 : ("" : Str).length = 0 := by decide +kernel
      have el' : l.length = n := by rw [el]; omega
      refine ⟨_, p, l.map one, rfl, rfl, .inl (SqL.of upd_same), by rw [sum_ones, c0]; omega, k _ _ (ok_ones (by omega) fun c hc => (al c hc).1) ?_ ?_ ((same_upd n0).trans (same_upd np))⟩
      · rw [cs_joinOnes, List.all_eq_true]
        exact fun c hc => (al c hc).2
      · rw [length_cs, cs_joinOnes]
        omega
end g_text
namespace g_pool
abbrev st : Stmt := top 24
theorem sc : FnScope ["_law_cell_here", "_law_line", "_law_at", "_law_other"] ["_law_cell_here"] (defScope st) := ⟨rfl, rfl, rfl, by decide +kernel, rfl, by decide +kernel, by decide +kernel⟩
theorem ok {f : Addr} {fd : FuncData} (F : Fun K "_law_pool" "_law_pool" st f fd) (T : Txt K mg aN t1 t4 t5) (C__law_mixed : Cal P w K mg base 1 "_law_mixed" ["_law_cell_here", "_law_k"] spMixed) (C__law_text : Cal P w K mg base 2 "_law_text" ["_law_cell_here"] spText) :
    FnOk P w K mg base CX0 3 f fd ["_law_cell_here"] spPool := by
  refine F.ok sc (fun vs H Q E h => ?_) (fun cdv A outer s H vs Q E hr h => ?_)
  · obtain ⟨c, rfl, _⟩ := h
    rfl
  · obtain ⟨c, rfl, k⟩ := h
    refine ⟨_, (pss_cons (ps_set (i := 1) sc.nd rfl (Or.inl rfl) (pe_callC C__law_text (hr.mono (by decide)) (pa_cons (pv 0) pa_nil)))
      (pss_cons (ps_set (i := 2) sc.nd rfl (Or.inl rfl) (pe_op op_mod (pe_op op_fdiv (pe_callC C__law_mixed (hr.mono (by decide)) (pa_cons (pv 0) (pa_cons pe_int pa_nil))) pe_int) (pe_callB call_len_str (by rfl) T.len PySem.boot_len (pa_cons (pv 1) pa_nil))))
      (pss_cons (ps_set (i := 3) sc.nd rfl (Or.inl rfl) (pe_op op_add_str (pe_op op_add_str (pe_slice sl_str (pv 1) po_none (po_some (pv 2))) (pe_ix (ix_list : IxR _ (rIxL K)) (pe_lst (pa_cons pe_str (pa_cons pe_str pa_nil))) (pe_callTy call_int1 (by rfl) T.int PyProof.Rows.boot_int (pa_cons (pe_cmpR op_eq (pe_ix ix_str (pv 1) (pv 2) (fun _ _ => rfl)) pe_str (nomark _)) pa_nil)) (fun _ _ => rfl))) (pe_slice sl_str (pv 1) (po_some (pe_op op_add (pv 2) pe_int)) po_none)))
      (pss_one (ps_ret (pe_lst (pa_cons (pv 1) (pa_cons (pe_op op_add_str (pv 1) pe_str) (pa_cons (pe_slice sl_str (pv 1) po_none (po_some (pe_un un_neg pe_int))) (pa_cons (pv 3) (pa_cons pe_str pa_nil))))))))))), ?_⟩
    refine ⟨_, rfl, c, rfl, fun x H1 hx xs x1 s1 => ?_⟩
    refine ⟨_, rfl, _, _, rfl, by decide, by decide, fun m => ⟨_, _, rfl, rfl, ⟨by decide, by decide⟩, _, rfl, x, rfl, hx.line (by decide), _, _, rfl, rfl, (by show (0 : Int) < x.length; omega), ?_⟩⟩
    have xl : (0 : Int) < x.length := by omega
    have a0 : 0 ≤ m / 7 % (x.length : Int) := Int.emod_nonneg _ (by omega)
    have a1 : m / 7 % (x.length : Int) < x.length := Int.emod_lt_of_pos _ xl
    obtain ⟨d, _, hd⟩ := at_of (xs := x.cps.toList) a0 (by rw [← length_cs]; exact a1)
    have cxs : ∀ y ∈ (["x", "y"] : List Str), (cs y).all signB = true := by
      intro y hy
      have hy : y = "x" ∨ y = "y" := by simpa using hy
      rcases hy with rfl | rfl <;> decide +kernel
    have cx : ∀ y ∈ (["x", "y"] : List Str), Ok 1 y := by
      intro y hy
      have hy : y = "x" ∨ y = "y" := by simpa using hy
      rcases hy with rfl | rfl
      · exact ⟨by decide +kernel, by decide +kernel⟩
      · exact ⟨by decide +kernel, by decide +kernel⟩
    have xlen := hx.len
    refine ⟨_, rfl, _, rfl, _, rfl, x, rfl, hx.line (by decide), ?_⟩
    refine ⟨lineN 2, fun l0 n0 => ⟨_, rfl, _, rfl, x, _, d, rfl, rfl, hx.line (by decide), hd, rfl, .inr ⟨_, rfl, ?_⟩⟩⟩
    have hb : ∃ y : Str, Ok 1 y ∧ (cs y).all signB = true ∧ atI [V.str "x", V.str "y"] (if decide (V.str ⟨#[d]⟩ = V.str "x") = true then 1 else 0) = some (V.str y) := by
      by_cases hz : decide (V.str ⟨#[d]⟩ = V.str "x") = true
      · rw [if_pos hz]; exact ⟨"y", cx _ (by simp), cxs _ (by simp), rfl⟩
      · rw [if_neg hz]; exact ⟨"x", cx _ (by simp), cxs _ (by simp), rfl⟩
    obtain ⟨y, hy, hys, hyat⟩ := hb
    have ylen := hy.len
    have sl1 := hx.slice none (some (m / 7 % (x.length : Int)))
    have sl2 := hx.slice (some ((m / 7 % (x.length : Int)) + 1)) none
    have sl1l := sl1.len
    have sl2l := sl2.len
    have o1 := sl1.append hy
    have o1l := o1.len
    have o2 := o1.append sl2
    refine ⟨l0, _, _, _, rfl, rfl, SqL.of upd_same, hyat, _, _, rfl, rfl, le_line (by omega), _, rfl, _, rfl, _, _, rfl, rfl, _, rfl, x, rfl, hx.line (by decide), _, _, rfl, rfl, le_line (by omega), ?_⟩
    have oz : Ok 1 ("z" : Str) := ⟨by decide +kernel, by decide +kernel⟩
    have o3 := hx.append oz
    have c1 : ("z" : Str).length = 1 := by decide +kernel
    refine ⟨_, rfl, _, rfl, _, _, rfl, rfl, le_line (by rw [c1]; omega), _, rfl, _, rfl, _, rfl, x, rfl, hx.line (by decide), _, rfl, lineN 5, fun l1 n1 => ?_⟩
    have s2 := s1.trans (same_upd (o := .lst [V.str "x", V.str "y"]) n0)
    have tl : ∀ l : List Nat, (cs (⟨l.toArray⟩ : Str)).length = l.length := fun l => by simp [cs]
    have len2 : (Txt.slice x none (some (m / 7 % (x.length : Int)))).length ≤ (m / 7 % (x.length : Int)).toNat := by
      have e := eq_of_beq (PyProof.Rows.slice_closes_to (x := x) (j := m / 7 % (x.length : Int)) ⟨a0, by show _ ≤ (((cs x).length : Nat) : Int); rw [← length_cs]; omega⟩)
      rw [e, length_cs, tl, List.length_take]
      omega
    have len3 : (Txt.slice x (some ((m / 7 % (x.length : Int)) + 1)) none).length ≤ x.length - ((m / 7 % (x.length : Int)).toNat + 1) := by
      have e := eq_of_beq (PyProof.Rows.slice_closes_from (x := x) (i := m / 7 % (x.length : Int) + 1) ⟨by omega, by show _ ≤ (((cs x).length : Nat) : Int); rw [← length_cs]; omega⟩)
      rw [e, length_cs (⟨_⟩ : Str), tl, List.length_take, List.length_drop]
      show min _ ((cs x).length - _) ≤ _
      rw [← length_cs]
      omega
    have sgl : ∀ lo hi, (cs (Txt.slice x lo hi)).all signB = true := fun lo hi => List.all_eq_true.mpr fun c hc => List.all_eq_true.mp xs c (mem_slice hc)
    have ys1 : (cs y).all signB = true := hys
    refine k l1 [x, x ++ "z", Txt.slice x none (some (-1)), Txt.slice x none (some (m / 7 % (x.length : Int))) ++ y ++ Txt.slice x (some ((m / 7 % (x.length : Int)) + 1)) none, ""] _ (s2.trans (same_upd n1)) (s2.free n1) upd_same rfl ?_ ?_
    · intro p hp
      have oe0 : lineB ("" : Str) = true := by decide +kernel
      have hp : p = x ∨ p = x ++ "z" ∨ p = Txt.slice x none (some (-1)) ∨ p = Txt.slice x none (some (m / 7 % (x.length : Int))) ++ y ++ Txt.slice x (some ((m / 7 % (x.length : Int)) + 1)) none ∨ p = "" := by simpa using hp
      have mk : ∀ p : Str, p.length ≤ 20 → (cs p).all signB = true → lineB p = true := fun p h1 h2 => by unfold lineB; rw [decide_eq_true h1, h2]; rfl
      have z1 : (cs ("z" : Str)).all signB = true := by decide +kernel
      rcases hp with rfl | rfl | rfl | rfl | rfl
      · exact mk _ (by omega) xs
      · exact mk _ (by rw [len_append, c1]; omega) (by rw [cs_append, List.all_append, xs, z1]; rfl)
      · exact mk _ (by have := (hx.slice none (some (-1))).len; omega) (sgl _ _)
      · exact mk _ (by rw [len_append, len_append]; omega) (by rw [cs_append, cs_append, List.all_append, List.all_append, sgl, ys1, sgl]; rfl)
      · exact oe0
    intro p hp
    have oe : Ok 60 ("" : Str) := ⟨by decide +kernel, by decide +kernel⟩
    have hp : p = x ∨ p = x ++ "z" ∨ p = Txt.slice x none (some (-1)) ∨ p = Txt.slice x none (some (m / 7 % (x.length : Int))) ++ y ++ Txt.slice x (some ((m / 7 % (x.length : Int)) + 1)) none ∨ p = "" := by simpa using hp
    rcases hp with rfl | rfl | rfl | rfl | rfl
    · exact hx.mono (by decide)
    · exact o3.mono (by decide)
    · exact (hx.slice _ _).mono (by decide)
    · exact o2.mono (by decide)
    · exact oe
end g_pool
namespace g_row
abbrev st : Stmt := top 25
theorem sc : FnScope ["_law_cell_here", "_law_pool_here", "_law_most", "_law_row_here", "_law_k"] ["_law_cell_here", "_law_pool_here", "_law_most"] (defScope st) := ⟨rfl, rfl, rfl, by decide +kernel, rfl, by decide +kernel, by decide +kernel⟩
theorem ok {f : Addr} {fd : FuncData} (F : Fun K "_law_row" "_law_row" st f fd) (T : Txt K mg aN t1 t4 t5) (C__law_mixed : Cal P w K mg base 1 "_law_mixed" ["_law_cell_here", "_law_k"] spMixed) :
    FnOk P w K mg base CX0 2 f fd ["_law_cell_here", "_law_pool_here", "_law_most"] (spRow K) := by
  refine F.ok sc (fun vs H Q E h => ?_) (fun cdv A outer s H vs Q E hr h => ?_)
  · obtain ⟨c, m, a, ps, rfl, _⟩ := h
    rfl
  · obtain ⟨c, m, a, ps, rfl, hs, h5, m0, m1, k⟩ := h
    refine ⟨_, (pss_cons (ps_set (i := 3) sc.nd rfl (Or.inl rfl) (pe_lst pa_nil))
      (pss_cons (ps_for PassesOwn.never rfl (pi_range1 rfl T.range (pa_cons (pe_op op_mod (pv 0) (pe_op op_add (pv 2) pe_int)) pa_nil)) (pg_name (i := 4) sc.nd rfl (Or.inl rfl))
        (pss_one (ps_expr (pe_bm PySem.F.plainAttrs_list PySem.F.slot_list_append PySem.F.type_list_append mt_append (pv 3) (pa_cons (pe_ix (ix_list : IxR _ (rIxL K)) (pv 1) (pe_op op_mod (pe_op op_fdiv (pe_callC C__law_mixed (hr.mono (by decide)) (pa_cons (pv 0) (pa_cons (pv 4) pa_nil))) pe_int) pe_int) (fun _ _ => rfl)) pa_nil)))))
      (pss_one (ps_ret (pv 3))))), ?_⟩
    refine ⟨Nat.zero_le _, fun l nl => ?_⟩
    have b0 : 0 ≤ c % (m + 1) := Int.emod_nonneg _ (by omega)
    have b1 : c % (m + 1) < m + 1 := Int.emod_lt_of_pos _ (by omega)
    refine ⟨_, rfl, _, rfl, _, _, rfl, rfl, _, _, rfl, rfl, (by show (0 : Int) < m + 1; omega), _, rfl, by omega, by omega, for_range (lo := 0) (n := (c % (m + 1)).toNat) (fun i σ H2 => ∃ (y : Option V) (rs : List Str), σ = [some (.int c), some (.ref a), some (.int m), some (.ref l), y] ∧ H2 = upd H l (.lst (rs.map V.str)) ∧ rs.length = i ∧ ∀ r ∈ rs, r ∈ ps)
      ⟨none, [], rfl, rfl, rfl, fun p hp => nomatch hp⟩ ?_ ?_⟩
    · rintro i σ H2 hi ⟨y, rs, rfl, rfl, rfl, hr⟩
      refine ⟨_, rfl, .inl ⟨rfl, _, SqL.of upd_same⟩, _, rfl, _, rfl, _, rfl, _, _, rfl, by omega, by omega, fun mm => ⟨_, _, rfl, rfl, ⟨by decide, by decide⟩, _, _, rfl, rfl, (by show (0 : Int) < 5; decide), ?_⟩⟩
      obtain ⟨r, hr1, hr2⟩ := at_map (f := V.str) (xs := ps) (i := mm / 7 % 5) (by omega) (by rw [h5]; omega)
      refine ⟨a, _, _, _, rfl, rfl, (same_upd nl).seq hs, hr2, l, _, _, rfl, rfl, upd_same, lt_line (by rw [List.length_map]; omega), _, rs ++ [r], rfl, ?_, by simp, mem_snoc hr (List.mem_of_getElem? hr1)⟩
      rw [upd_upd, List.map_append]
      rfl
    · rintro σ H2 ⟨y, rs, rfl, rfl, el, hr⟩
      exact ⟨_, rfl, k l rs _ (same_upd nl) nl upd_same (by rw [el]; omega) hr⟩
end g_row
namespace g_put_in
abbrev st : Stmt := top 26
theorem sc : FnScope ["_law_row_here", "_law_more", "_law_cell_here", "_law_at", "_law_k"] ["_law_row_here", "_law_more", "_law_cell_here"] (defScope st) := ⟨rfl, rfl, rfl, by decide +kernel, rfl, by decide +kernel, by decide +kernel⟩
theorem ok {f : Addr} {fd : FuncData} (F : Fun K "_law_put_in" "_law_put_in" st f fd) (T : Txt K mg aN t1 t4 t5) (C__law_mixed : Cal P w K mg base 1 "_law_mixed" ["_law_cell_here", "_law_k"] spMixed) :
    FnOk P w K mg base CX0 2 f fd ["_law_row_here", "_law_more", "_law_cell_here"] (spPutIn K) := by
  refine F.ok sc (fun vs H Q E h => ?_) (fun cdv A outer s H vs Q E hr h => ?_)
  · obtain ⟨c, a, b, rs, ms, rfl, _⟩ := h
    rfl
  · obtain ⟨c, a, b, rs, ms, rfl, ha, hb, r1, m1, k⟩ := h
    refine ⟨_, (pss_cons (ps_set (i := 3) sc.nd rfl (Or.inl rfl) pe_int)
      (pss_cons (ps_set (i := 0) sc.nd rfl (Or.inl rfl) (pe_callTy call_list_of (by rfl) T.list PyProof.Rows.boot_list (pa_cons (pv 0) pa_nil)))
      (pss_cons (ps_for PassesOwn.never rfl (pi_range1 rfl T.range (pa_cons (pe_callB call_len_seq (by rfl) T.len PySem.boot_len (pa_cons (pv 1) pa_nil)) pa_nil)) (pg_name (i := 4) sc.nd rfl (Or.inl rfl))
        (pss_cons (ps_set (i := 3) sc.nd rfl (Or.inl rfl) (pe_op op_add (pv 3) (pe_op op_mod (pe_op op_fdiv (pe_callC C__law_mixed (hr.mono (by decide)) (pa_cons (pv 2) (pa_cons (pv 4) pa_nil))) pe_int) (pe_op op_add (pe_op op_sub (pe_callB call_len_seq (by rfl) T.len PySem.boot_len (pa_cons (pv 0) pa_nil)) (pv 3)) pe_int))))
        (pss_cons (ps_set (i := 0) sc.nd rfl (Or.inl rfl) (pe_op op_cat (pe_op op_cat (pe_slice (sl_list : SlR _ (rSlL K)) (pv 0) po_none (po_some (pv 3))) (pe_lst (pa_cons (pe_ix (ix_list : IxR _ (rIxL K)) (pv 1) (pv 4) (fun _ _ => rfl)) pa_nil))) (pe_slice (sl_list : SlR _ (rSlL K)) (pv 0) (po_some (pv 3)) po_none)))
        (pss_one (ps_set (i := 3) sc.nd rfl (Or.inl rfl) (pe_op op_add (pv 3) pe_int))))))
      (pss_one (ps_ret (pv 0)))))), ?_⟩
    refine ⟨_, rfl, a, _, rfl, .inl ha, fun l nl => ?_⟩
    have s0 := same_upd (o := .lst (rs.map V.str)) nl
    refine ⟨_, rfl, b, _, rfl, .inl (s0.seq hb), _, rfl, by rw [List.length_map]; omega, by rw [List.length_map]; omega, for_range (lo := 0) (n := (((ms.map V.str).length : Nat) : Int).toNat)
      (fun i σ H2 => ∃ (l' : Addr) (qs : List Str) (p : Nat) (y : Option V), σ = [some (.ref l'), some (.ref b), some (.int c), some (.int p), y] ∧ Same H H2 ∧ H l' = none ∧ H2 l' = some (.lst (qs.map V.str)) ∧ qs.length = rs.length + i ∧ p ≤ qs.length ∧ List.Sublist (ms.take i) (qs.take p) ∧ ∀ q ∈ qs, q ∈ rs ∨ q ∈ ms)
      ⟨l, rs, 0, none, rfl, s0, nl, upd_same, rfl, Nat.zero_le _, by simp, fun q hq => .inl hq⟩ ?_ ?_⟩
    · rintro i σ H2 hi ⟨l', qs, p, y, rfl, s2, nl', hl, ql, pl, sub, mem⟩
      have hi' : i < ms.length := by rw [List.length_map] at hi; omega
      refine ⟨_, rfl, _, rfl, _, rfl, _, _, rfl, by omega, by omega, fun mm => ⟨_, _, rfl, rfl, ⟨by decide, by decide⟩, _, rfl, l', _, rfl, .inl (SqL.of hl), _, rfl, _, _, rfl, rfl, _, _, rfl, rfl, _, _, rfl, rfl, ?_, _, _, rfl, rfl, ?_⟩⟩
      · show (0 : Int) < ((qs.map V.str).length : Int) - (p : Int) + 1
        rw [List.length_map]; omega
      have d0 : 0 ≤ mm / 7 % (((qs.map V.str).length : Int) - (p : Int) + 1) := Int.emod_nonneg _ (by rw [List.length_map]; omega)
      have d1 : mm / 7 % (((qs.map V.str).length : Int) - (p : Int) + 1) < ((qs.map V.str).length : Int) - (p : Int) + 1 := Int.emod_lt_of_pos _ (by rw [List.length_map]; omega)
      generalize mm / 7 % (((qs.map V.str).length : Int) - (p : Int) + 1) = d at d0 d1
      rw [List.length_map] at d1
      obtain ⟨p', hp'⟩ : ∃ p' : Nat, (p : Int) + d = p' := ⟨((p : Int) + d).toNat, by omega⟩
      show gName 3 (V.int ((p : Int) + d)) _ H2 _
      rw [hp']
      have p1 : p ≤ p' := by omega
      have p2 : p' ≤ qs.length := by omega
      obtain ⟨z, hz, hzat⟩ := at_map (f := V.str) (xs := ms) (i := 0 + ((i : Nat) : Int)) (by omega) (by omega)
      have hz : ms[i]? = some z := by rw [← hz]; congr 1; omega
      refine ⟨_, rfl, _, rfl, _, rfl, l', _, rfl, SqL.of hl, fun l1 n1 => ?_⟩
      have s3 := s2.trans (same_upd (o := .lst (cutV (qs.map V.str) none (some (p' : Int)))) n1)
      refine ⟨_, rfl, _, rfl, b, _, _, _, rfl, rfl, s3.seq hb, hzat, lineN 1, fun l2 n2 => ?_⟩
      have s4 := s3.trans (same_upd (o := .lst [V.str z]) n2)
      have d12 : l1 ≠ l2 := ne_of_none upd_same n2
      have e1 : cutV (qs.map V.str) none (some (p' : Int)) = (qs.take p').map V.str := by rw [cut_to (by omega), Int.toNat_natCast, List.map_take]
      have e2 : cutV (qs.map V.str) (some (p' : Int)) none = (qs.drop p').map V.str := by rw [cut_from (by omega), Int.toNat_natCast, List.map_drop]
      have ql' : qs.length ≤ 200 := by omega
      have dl1 : l' ≠ l1 := ne_of_none hl n1
      have hl3 : upd H2 l1 (.lst (cutV (qs.map V.str) none (some (p' : Int)))) l' = some (.lst (qs.map V.str)) := by rw [upd_ne dl1]; exact hl
      have dl2 : l' ≠ l2 := ne_of_none hl3 n2
      have hl4 : upd (upd H2 l1 (.lst (cutV (qs.map V.str) none (some (p' : Int))))) l2 (.lst [V.str z]) l' = some (.lst (qs.map V.str)) := by rw [upd_ne dl2]; exact hl3
      refine ⟨l1, l2, _, _, rfl, rfl, (by rw [upd_ne d12]; exact upd_same), upd_same, le_line (by rw [e1, List.length_map, List.length_take]; simp only [List.length_cons, List.length_nil]; omega), fun l3 n3 => ?_⟩
      have s5 := s4.trans (same_upd (o := .lst (cutV (qs.map V.str) none (some (p' : Int)) ++ [V.str z])) n3)
      have dl3 : l' ≠ l3 := ne_of_none hl4 n3
      refine ⟨_, rfl, _, rfl, _, rfl, l', _, rfl, SqL.of (by rw [upd_ne dl3]; exact hl4), fun l4 n4 => ?_⟩
      have s6 := s5.trans (same_upd (o := .lst (cutV (qs.map V.str) (some (p' : Int)) none)) n4)
      have d34 : l3 ≠ l4 := ne_of_none upd_same n4
      refine ⟨l3, l4, _, _, rfl, rfl, (by rw [upd_ne d34]; exact upd_same), upd_same, le_line ?_, fun l5 n5 => ?_⟩
      · rw [e1, e2, List.length_append, List.length_map, List.length_map, List.length_take, List.length_drop]
        simp only [List.length_cons, List.length_nil]; omega
      refine ⟨_, rfl, _, _, rfl, rfl, l5, qs.take p' ++ [z] ++ qs.drop p', p' + 1, _, rfl, s6.trans (same_upd n5), s6.free n5, ?_, ?_, ?_, ?_, ?_⟩
      · rw [upd_same, e1, e2, List.map_append, List.map_append]; rfl
      · simp only [List.length_append, List.length_take, List.length_drop, List.length_cons, List.length_nil]; omega
      · simp only [List.length_append, List.length_take, List.length_drop, List.length_cons, List.length_nil]; omega
      · rw [List.take_add_one, hz]
        exact put_sub sub p1 p2
      · intro q hq
        rcases List.mem_append.mp hq with hq | hq
        · rcases List.mem_append.mp hq with hq | hq
          · exact mem q (List.mem_of_mem_take hq)
          · rw [List.mem_singleton.mp hq]; exact .inr (List.mem_of_getElem? hz)
        · exact mem q (List.mem_of_mem_drop hq)
    · rintro σ H2 ⟨l', qs, p, y, rfl, s2, nl', hl, ql, pl, sub, mem⟩
      refine ⟨_, rfl, k l' qs _ s2 nl' hl ?_ ?_ mem⟩
      · rw [ql, List.length_map]; omega
      · rw [List.length_map, Int.toNat_natCast, List.take_length] at sub
        exact sub.trans (List.take_sublist _ _)
end g_put_in
namespace g_due
abbrev st : Stmt := top 27
theorem sc : FnScope ["_law_old", "_law_new", "_law_pairs", "_law_due_here", "_law_low", "_law_first", "_law_i", "_law_k"] ["_law_old", "_law_new", "_law_pairs"] (defScope st) := ⟨rfl, rfl, rfl, by decide +kernel, rfl, by decide +kernel, by decide +kernel⟩
theorem ok {f : Addr} {fd : FuncData} (F : Fun K "_law_due" "_law_due" st f fd) (T : Txt K mg aN t1 t4 t5) : FnOk P w K mg base CX0 1 f fd ["_law_old", "_law_new", "_law_pairs"] (spDue K) := by
  refine F.ok sc (fun vs H Q E h => ?_) (fun cdv A outer s H vs Q E hr h => ?_)
  · obtain ⟨a, b, l, xs, ys, ps, rfl, _⟩ := h
    rfl
  · obtain ⟨a, b, l, xs, ys, ps, rfl, ha, hb, hp, rise, x1, y1, p1, k⟩ := h
    refine ⟨_, (pss_cons (ps_set (i := 3) sc.nd rfl (Or.inl rfl) (pe_lst pa_nil))
      (pss_cons (ps_set (i := 4) sc.nd rfl (Or.inl rfl) pe_int)
      (pss_cons (ps_set (i := 5) sc.nd rfl (Or.inl rfl) pe_int)
      (pss_cons (ps_for PassesOwn.never rfl (pi_list (pe_op op_cat (pv 2) (pe_lst (pa_cons (pe_tup (pa_cons (pe_callB call_len_seq (by rfl) T.len PySem.boot_len (pa_cons (pv 0) pa_nil)) (pa_cons (pe_callB call_len_seq (by rfl) T.len PySem.boot_len (pa_cons (pv 1) pa_nil)) pa_nil))) pa_nil)))) (pg_tup rfl (pgs_cons (pg_name (i := 6) sc.nd rfl (Or.inl rfl)) (pgs_cons (pg_name (i := 7) sc.nd rfl (Or.inl rfl)) pgs_nil)))
        (pss_cut (ps_if (PW.pt (pw_or (pt_cmpR op_lt (pv 4) (pv 6) (nomark _)) (pw_or1 (pt_cmpR op_lt (pv 5) (pv 7) (nomark _)))))
          (pss_one (ps_expr (pe_bm PySem.F.plainAttrs_list PySem.F.slot_list_append PySem.F.type_list_append mt_append (pv 3) (pa_cons (pe_tup (pa_cons (pv 4) (pa_cons (pv 6) (pa_cons (pe_slice (sl_tup2 : SlR _ (rSlT2 K)) (pv 1) (po_some (pv 5)) (po_some (pv 7))) pa_nil)))) pa_nil))))
          pss_nil)
        (pss_cons (ps_set (i := 4) sc.nd rfl (Or.inl rfl) (pe_op op_add (pv 6) pe_int))
        (pss_one (ps_set (i := 5) sc.nd rfl (Or.inl rfl) (pe_op op_add (pv 7) pe_int))))))
      (pss_one (ps_ret (pv 3))))))), ?_⟩
    refine ⟨Nat.zero_le _, fun o no => ?_⟩
    have s0 := same_upd (o := .lst []) no
    obtain ⟨ts, hts, tl, rows⟩ := hp
    refine ⟨_, rfl, _, rfl, a, _, rfl, .inr (s0.tupS ha), _, rfl, b, _, rfl, .inr (s0.tupS hb), lineN 2, fun t0 n0 => ?_⟩
    have s1 := s0.trans (same_upd (o := .tup [V.int ((xs.map V.str).length : Nat), V.int ((ys.map V.str).length : Nat)]) n0)
    refine ⟨lineN 1, fun l1 n1 => ?_⟩
    have s2 := s1.trans (same_upd (o := .lst [V.ref t0]) n1)
    refine ⟨l, l1, _, _, rfl, rfl, s2 _ _ hts, upd_same, le_line (by rw [List.length_map]; simp; omega), fun l2 n2 => ?_⟩
    have s3 := s2.trans (same_upd (o := .lst (ts.map V.ref ++ [V.ref t0])) n2)
    have ho3 : upd (upd (upd (upd H o (.lst [])) t0 (.tup [V.int ((xs.map V.str).length : Nat), V.int ((ys.map V.str).length : Nat)])) l1 (.lst [V.ref t0])) l2 (.lst (ts.map V.ref ++ [V.ref t0])) o = some (.lst []) := (((same_upd n0).trans (same_upd n1)).trans (same_upd n2)) _ _ upd_same
    have h03 : upd (upd (upd (upd H o (.lst [])) t0 (.tup [V.int ((xs.map V.str).length : Nat), V.int ((ys.map V.str).length : Nat)])) l1 (.lst [V.ref t0])) l2 (.lst (ts.map V.ref ++ [V.ref t0])) t0 = some (.tup [V.int ((xs.length : Nat) : Int), V.int ((ys.length : Nat) : Int)]) := by
      have e := ((same_upd (o := .lst [V.ref t0]) n1).trans (same_upd (o := .lst (ts.map V.ref ++ [V.ref t0])) n2)) _ _ upd_same
      rw [e, List.length_map, List.length_map]
    have hl3 : upd (upd (upd (upd H o (.lst [])) t0 (.tup [V.int ((xs.map V.str).length : Nat), V.int ((ys.map V.str).length : Nat)])) l1 (.lst [V.ref t0])) l2 (.lst (ts.map V.ref ++ [V.ref t0])) l2 = some (.lst ((ts ++ [t0]).map V.ref)) := by
      rw [upd_same, List.map_append]; rfl
    have dol : l2 ≠ o := (ne_of_none ((((same_upd (o := .tup [V.int ((xs.map V.str).length : Nat), V.int ((ys.map V.str).length : Nat)]) n0).trans (same_upd (o := .lst [V.ref t0]) n1))) _ _ (upd_same (H := H) (a := o) (o := .lst []))) n2).symm
    generalize upd (upd (upd (upd H o (.lst [])) t0 (.tup [V.int ((xs.map V.str).length : Nat), V.int ((ys.map V.str).length : Nat)])) l1 (.lst [V.ref t0])) l2 (.lst (ts.map V.ref ++ [V.ref t0])) = H3 at s3 ho3 h03 hl3
    obtain ⟨all, hall⟩ : ∃ all, all = ps ++ [(xs.length, ys.length)] := ⟨_, rfl⟩
    have al : all.length = ps.length + 1 := by rw [hall]; simp
    have rows3 : ∀ (i : Nat) (t : Addr), (ts ++ [t0])[i]? = some t → ∃ p : Nat × Nat, all[i]? = some p ∧ p.2 ≤ ys.length ∧ (i < ps.length → p.2 < ys.length) ∧ t ≠ o ∧ H3 t = some (.tup [V.int p.1, V.int p.2]) := fun i t ht => by
      rcases snoc_get ht with ⟨hi, q⟩ | ⟨hi, rfl⟩
      · have hil : i < ps.length := by rw [← tl]; exact hi
        have hpi : ps[i]? = some ps[i] := List.getElem?_eq_getElem hil
        have hq := rows i t _ q hpi
        have hle := (rise_le rise ps[i] (List.getElem_mem hil)).2
        exact ⟨ps[i], by rw [hall, List.getElem?_append_left hil]; exact hpi, Nat.le_of_lt hle, fun _ => hle, ne_of_none hq no, s3 _ _ hq⟩
      · refine ⟨(xs.length, ys.length), by rw [hall, hi, tl, List.getElem?_append_right (Nat.le_refl _)]; simp, Nat.le_refl _, fun z => by omega, fun z => ?_, h03⟩
        rw [z] at h03
        rw [ho3] at h03; cases h03
    have k3 : Same (hide H3 o) (hide H3 o) := Same.refl _
    refine ⟨l2, rfl, ⟨_, SqL.of hl3⟩, for_list (K := K) (a := l2) (xs := (ts ++ [t0]).map V.ref) (fun j σ H2 => ∃ (lo fi : Nat) (acc : List Row) (vs : List V) (o6 o7 : Option V), σ = [some (.ref a), some (.ref b), some (.ref l), some (.ref o), some (.int lo), some (.int fi), o6, o7] ∧ Same (hide H3 o) (hide H2 o) ∧ H2 o = some (.lst vs) ∧ DtAll K (hide H2 o) (acc.map rowDat) vs ∧ acc.length ≤ j ∧ (j ≤ ps.length → fi ≤ ys.length) ∧ acc ++ spanT ys lo fi (all.drop j) = spanL xs ys 0 0 ps)
      ⟨0, 0, [], [], none, none, rfl, k3, ho3, rfl, Nat.le_refl _, fun _ => Nat.zero_le _, by rw [List.drop_zero, List.nil_append, hall, spanT_all]⟩ (fun j σ H2 _ ⟨_, _, _, _, _, _, _, e, _⟩ => SqL.of ((hide_same H2 o) _ _ (e _ _ ((hide_ne dol).trans hl3)))) ?_ ?_⟩
    · rintro j x σ H2 hj ⟨lo, fi, acc, vs, o6, o7, rfl, e2, ho2, hacc, accl, fil, eq⟩
      rw [List.getElem?_map] at hj
      cases q : (ts ++ [t0])[j]? with
      | none => rw [q] at hj; cases hj
      | some t =>
        rw [q] at hj
        have hj : V.ref t = x := Option.some.inj hj
        subst hj
        obtain ⟨p, hp, hp2, hp3, tno, hpt⟩ := rows3 j t q
        have hjl : j < all.length := (List.getElem?_eq_some_iff.mp hp).1
        have hd : all.drop j = p :: all.drop (j + 1) := by
          obtain ⟨hj', ej⟩ := List.getElem?_eq_some_iff.mp hp
          rw [List.drop_eq_getElem_cons hj', ej]
        have fil := fil (by omega)
        have keep : ∀ {b u}, b ≠ o → H3 b = some u → H2 b = some u := fun {b u} hb h => (hide_same H2 o) _ _ (e2 _ _ ((hide_ne hb).trans h))
        have hb2 : SqT K H2 b (ys.map V.str) := (hide_same H2 o).tupS (e2.tupS (tup_hide ho3 (s3.tupS hb)))
        rw [hd] at eq
        refine ⟨t, _, rfl, SqT.of (keep tno hpt), rfl, _, _, rfl, _, _, rfl, rfl, ?_⟩
        refine ⟨fun σ' H' => ∃ (acc : List Row) (vs : List V), σ' = [some (.ref a), some (.ref b), some (.ref l), some (.ref o), some (.int lo), some (.int fi), some (.int p.1), some (.int p.2)] ∧ Same (hide H3 o) (hide H' o) ∧ H' o = some (.lst vs) ∧ DtAll K (hide H' o) (acc.map rowDat) vs ∧ acc.length ≤ j + 1 ∧ acc ++ spanT ys (p.1 + 1) (p.2 + 1) (all.drop (j + 1)) = spanL xs ys 0 0 ps, ?_, ?_⟩
        · refine ⟨_, rfl, _, rfl, _, _, rfl, rfl, _, rfl, ite2 (fun h1 => iteT ?b) (fun h1 => ⟨_, rfl, _, rfl, _, _, rfl, rfl, _, rfl, ite2 (fun h2 => ?c) (fun h2 => ?_)⟩)⟩
          case b | c =>
            have hc : lo < p.1 ∨ fi < p.2 := by
              first
                | exact .inl (by have := of_decide_eq_true h1; omega)
                | exact .inr (by have := of_decide_eq_true h2; omega)
            have eq : acc ++ ((if lo < p.1 ∨ fi < p.2 then [spanR lo p.1 ((ys.drop fi).take (p.2 - fi))] else []) ++ spanT ys (p.1 + 1) (p.2 + 1) (all.drop (j + 1))) = spanL xs ys 0 0 ps := eq
            rw [if_pos hc] at eq
            have vl := hacc.length
            rw [List.length_map] at vl
            refine ⟨_, rfl, .inl ⟨rfl, _, SqL.of ho2⟩, _, rfl, _, rfl, _, rfl, _, rfl, _, rfl, _, rfl, _, rfl, b, _, rfl, hb2, fun v H4 hv => ?_⟩
            obtain ⟨q4, rfl, s4, hq4⟩ := cut_any hb2 hv
            rw [cut_mid fil hp2] at hq4
            refine ⟨lineN 3, fun t1 n1 => ?_⟩
            have s5 := s4.trans (same_upd (o := .tup [V.int lo, V.int p.1, V.ref q4]) n1)
            have hot : o ≠ t1 := ne_of_none (s4 _ _ ho2) n1
            have ho5 := s5 _ _ ho2
            refine ⟨o, _, _, rfl, rfl, ho5, lt_line (by omega), acc ++ [spanR lo p.1 ((ys.drop fi).take (p.2 - fi))], vs ++ [V.ref t1], rfl, ?_, upd_same, ?_, by rw [List.length_append, List.length_singleton]; omega, by rw [List.append_assoc]; exact eq⟩
            · rw [hide_upd]
              exact e2.trans (same_hide o s5)
            · rw [hide_upd, List.map_append]
              refine DtAll.append (DtAll.same (same_hide o s5) _ _ hacc) ⟨.ref t1, [], rfl, ⟨t1, _, rfl, tup_hide ho5 (SqT.of upd_same), _, _, rfl, rfl, _, _, rfl, rfl, _, _, rfl, ⟨q4, _, rfl, tup_hide ho5 ((same_upd n1).tupS hq4), DtAll.strs _⟩, rfl⟩, rfl⟩
          have eq : acc ++ ((if lo < p.1 ∨ fi < p.2 then [spanR lo p.1 ((ys.drop fi).take (p.2 - fi))] else []) ++ spanT ys (p.1 + 1) (p.2 + 1) (all.drop (j + 1))) = spanL xs ys 0 0 ps := eq
          rw [if_neg (fun z => z.elim (fun z => h1 (decide_eq_true (by omega))) fun z => h2 (decide_eq_true (by omega)))] at eq
          exact ⟨acc, vs, rfl, e2, ho2, hacc, by omega, eq⟩
        · rintro σ' H' ⟨acc, vs, rfl, e3, ho', hacc', accl', eq'⟩
          refine ⟨_, rfl, _, _, rfl, rfl, _, rfl, _, _, rfl, rfl, p.1 + 1, p.2 + 1, acc, vs, _, _, rfl, e3, ho', hacc', accl', fun z => ?_, eq'⟩
          have := hp3 (by omega)
          omega
    · rintro σ H2 ⟨lo, fi, acc, vs, o6, o7, rfl, e2, ho2, hacc, accl, _, eq⟩
      have e0 : all.drop ((ts ++ [t0]).map V.ref).length = [] := List.drop_of_length_le (by rw [List.length_map, List.length_append, tl, al]; exact Nat.le_refl _)
      rw [e0] at eq
      have eq : acc ++ [] = spanL xs ys 0 0 ps := eq
      rw [List.append_nil] at eq
      refine ⟨_, rfl, k o H2 (fun c u hc => ?_) ?_⟩
      · have hco : c ≠ o := ne_of_none hc no
        exact (hide_same H2 o) _ _ (e2 _ _ ((hide_ne hco).trans (s3 _ _ hc)))
      · rw [← eq]
        exact ⟨o, vs, rfl, SqL.of ho2, DtAll.same (hide_same H2 o) _ _ hacc⟩
end g_due
namespace g_drawn
abbrev st : Stmt := top 28
theorem sc : FnScope ["_law_cell_here", "_law_old", "_law_pool_here", "_law_last", "_law_low", "_law_high", "_law_lines"] ["_law_cell_here", "_law_old", "_law_pool_here", "_law_last"] (defScope st) := ⟨rfl, rfl, rfl, by decide +kernel, rfl, by decide +kernel, by decide +kernel⟩
theorem ok {f : Addr} {fd : FuncData} (F : Fun K "_law_drawn" "_law_drawn" st f fd) (T : Txt K mg aN t1 t4 t5) (C__law_mixed : Cal P w K mg base 1 "_law_mixed" ["_law_cell_here", "_law_k"] spMixed)
    (C__law_row : Cal P w K mg base 2 "_law_row" ["_law_cell_here", "_law_pool_here", "_law_most"] (spRow K)) : FnOk P w K mg base CX0 3 f fd ["_law_cell_here", "_law_old", "_law_pool_here", "_law_last"] (spDrawn K) := by
  refine F.ok sc (fun vs H Q E h => ?_) (fun cdv A outer s H vs Q E hr h => ?_)
  · obtain ⟨c, last, a, lp, xs, ps, rfl, _⟩ := h
    rfl
  · obtain ⟨c, last, a, lp, xs, ps, rfl, ha, hp, p5, x1, pok, k⟩ := h
    refine ⟨_, (pss_cons (ps_set (i := 4) sc.nd rfl (Or.inl rfl) (pe_op op_sub (pe_op op_mod (pe_op op_fdiv (pe_callC C__law_mixed (hr.mono (by decide)) (pa_cons (pv 0) (pa_cons pe_int pa_nil))) pe_int) (pe_op op_add (pe_callB call_len_seq (by rfl) T.len PySem.boot_len (pa_cons (pv 1) pa_nil)) pe_int)) pe_int))
      (pss_cons (ps_set (i := 5) sc.nd rfl (Or.inl rfl) (pe_op op_sub (pe_op op_mod (pe_op op_fdiv (pe_callC C__law_mixed (hr.mono (by decide)) (pa_cons (pv 0) (pa_cons pe_int pa_nil))) pe_int) (pe_op op_add (pe_callB call_len_seq (by rfl) T.len PySem.boot_len (pa_cons (pv 1) pa_nil)) pe_int)) pe_int))
      (pss_cut (ps_if (pt_cmpR op_gt (pe_op op_mod (pv 0) pe_int) pe_int (nomark _))
        (pss_cons (ps_set (i := 4) sc.nd rfl (Or.inl rfl) (pe_callB (call_max2 rfl) (by rfl) T.max PyProof.Rows.boot_max (pa_cons pe_int (pa_cons (pe_op op_add (pv 3) (pe_op op_mod (pe_op op_fdiv (pe_callC C__law_mixed (hr.mono (by decide)) (pa_cons (pv 0) (pa_cons pe_int pa_nil))) pe_int) pe_int)) pa_nil))))
        (pss_one (ps_set (i := 5) sc.nd rfl (Or.inl rfl) (pe_op op_add (pv 4) (pe_op op_mod (pe_op op_fdiv (pe_callC C__law_mixed (hr.mono (by decide)) (pa_cons (pv 0) (pa_cons pe_int pa_nil))) pe_int) pe_int)))))
        pss_nil)
      (pss_cons (ps_set (i := 6) sc.nd rfl (Or.inl rfl) (pe_callTy call_tuple_of (by rfl) T.tuple PyProof.Rows.boot_tuple (pa_cons (pe_callC C__law_row (hr.mono (by decide)) (pa_cons (pe_op op_fdiv (pv 0) pe_int) (pa_cons (pv 2) (pa_cons pe_int pa_nil)))) pa_nil)))
      (pss_cut (ps_if (pt_cmpR op_eq (pe_op op_mod (pv 0) pe_int) pe_int (nomark _))
        (pss_one (ps_set (i := 6) sc.nd rfl (Or.inl rfl) (pe_ix (ix_list : IxR _ (rIxL K)) (pe_lst (pa_cons (pe_lst pa_nil) (pa_cons pe_non (pa_cons (pe_tup (pa_cons pe_str pa_nil)) (pa_cons (pe_tup (pa_cons (pe_op op_mulS pe_str pe_int) pa_nil)) (pa_cons (pe_tup (pa_cons pe_int pa_nil)) (pa_cons (pe_tup (pa_cons pe_str (pa_cons pe_str pa_nil))) (pa_cons (pe_tup (pa_cons pe_str (pa_cons pe_str pa_nil))) pa_nil)))))))) (pe_op op_mod (pe_op op_fdiv (pv 0) pe_int) pe_int) (fun _ _ => rfl))))
        pss_nil)
      (pss_one (ps_ret (pe_tup (pa_cons (pv 4) (pa_cons (pv 5) (pa_cons (pv 6) pa_nil))))))))))), ?_⟩
    refine ⟨_, rfl, _, _, rfl, by decide, by decide, fun m1 => ⟨_, _, rfl, rfl, ⟨by decide, by decide⟩, _, rfl, a, _, rfl, .inr ha, _, _, rfl, rfl, _, _, rfl, rfl, (by show (0 : Int) < ((xs.map V.str).length : Int) + 3; omega), _, _, rfl, rfl, ?_⟩⟩
    refine ⟨_, rfl, _, _, rfl, by decide, by decide, fun m2 => ⟨_, _, rfl, rfl, ⟨by decide, by decide⟩, _, rfl, a, _, rfl, .inr ha, _, _, rfl, rfl, _, _, rfl, rfl, (by show (0 : Int) < ((xs.map V.str).length : Int) + 3; omega), _, _, rfl, rfl, ?_⟩⟩
    refine ⟨fun σ' H' => ∃ lo hi : Int, σ' = [some (.int c), some (.ref a), some (.ref lp), some (.int last), some (.int lo), some (.int hi), none] ∧ H' = H, ?_, ?_⟩
    · refine ⟨_, rfl, _, _, rfl, rfl, (by show (0 : Int) < 4; decide), _, _, rfl, rfl, _, rfl, ite2 (fun _ => ?_) (fun _ => ⟨_, _, rfl, rfl⟩)⟩
      refine ⟨_, rfl, _, rfl, _, _, rfl, by decide, by decide, fun m3 => ⟨_, _, rfl, rfl, ⟨by decide, by decide⟩, _, _, rfl, rfl, (by show (0 : Int) < 3; decide), _, _, rfl, rfl, _, _, rfl, ?_⟩⟩
      exact ⟨_, rfl, _, rfl, _, _, rfl, by decide, by decide, fun m4 => ⟨_, _, rfl, rfl, ⟨by decide, by decide⟩, _, _, rfl, rfl, (by show (0 : Int) < 2; decide), _, _, rfl, rfl, _, _, rfl, rfl⟩⟩
    · rintro σ1 H1 ⟨lo, hi, rfl, rfl⟩
      refine ⟨_, rfl, _, _, rfl, rfl, ⟨by decide, by decide⟩, _, rfl, _, _, lp, ps, rfl, hp, p5, by decide, by decide, fun l rs H2 s2 nl hl rl rin => ?_⟩
      refine ⟨l, _, rfl, .inl ⟨SqL.of hl, fun t1 n1 => ?_⟩⟩
      have s3 := s2.trans (same_upd (o := .tup (rs.map V.str)) n1)
      have nt1 := s2.free n1
      refine ⟨fun σ' H' => ∃ (d : PyData) (v : V), σ' = [some (.int c), some (.ref a), some (.ref lp), some (.int last), some (.int lo), some (.int hi), some v] ∧ Same H1 H' ∧ Third d ∧ Dt K (fresh H1 H') d v, ?_, ?_⟩
      · refine ⟨_, rfl, _, _, rfl, rfl, (by show (0 : Int) < 9; decide), rfl, _, rfl, ite2 (fun _ => ?_) (fun _ => ?_)⟩
        · refine ⟨Nat.zero_le _, fun a0 n0 => ⟨lineN 1, fun a2 n2 => ⟨_, _, rfl, rfl, mul_ok, lineN 1, fun a3 n3 => ⟨lineN 1, fun a4 n4 => ⟨lineN 2, fun a5 n5 => ⟨lineN 2, fun a6 n6 => ⟨lineN 7, fun a7 n7 => ?_⟩⟩⟩⟩⟩⟩⟩
          have z0 := same_upd (o := .lst []) n0
          have z2 := same_upd (o := .tup [V.str "a\n"]) n2
          have z3 := same_upd (o := .tup [V.str (Txt.mul "a" 21)]) n3
          have z4 := same_upd (o := .tup [V.int 7]) n4
          have z5 := same_upd (o := .tup [V.str "a", V.str "a\t"]) n5
          have z6 := same_upd (o := .tup [V.str "", V.str "b\n"]) n6
          have z7 := same_upd (o := .lst [V.ref a0, V.non, V.ref a2, V.ref a3, V.ref a4, V.ref a5, V.ref a6]) n7
          have w6 := z6.trans z7
          have w5 := z5.trans w6
          have w4 := z4.trans w5
          have w3 := z3.trans w4
          have w2 := z2.trans w3
          have sF := s3.trans (z0.trans w2)
          have u0 := s3.trans z0
          have u2 := u0.trans z2
          have u3 := u2.trans z3
          have u4 := u3.trans z4
          have u5 := u4.trans z5
          have hv : ∃ (v : V) (d : PyData), atI [V.ref a0, V.non, V.ref a2, V.ref a3, V.ref a4, V.ref a5, V.ref a6] (c / 9 % 7) = some v ∧ d ∈ odds ∧ Dt K (fresh H1 (upd (upd (upd (upd (upd (upd (upd (upd H2 t1 (.tup (rs.map V.str))) a0 (.lst [])) a2 (.tup [V.str "a\n"])) a3 (.tup [V.str (Txt.mul "a" 21)])) a4 (.tup [V.int 7])) a5 (.tup [V.str "a", V.str "a\t"])) a6 (.tup [V.str "", V.str "b\n"])) a7 (.lst [V.ref a0, V.non, V.ref a2, V.ref a3, V.ref a4, V.ref a5, V.ref a6]))) d v := by
            have h7 : c / 9 % 7 = 0 ∨ c / 9 % 7 = 1 ∨ c / 9 % 7 = 2 ∨ c / 9 % 7 = 3 ∨ c / 9 % 7 = 4 ∨ c / 9 % 7 = 5 ∨ c / 9 % 7 = 6 := by omega
            rcases h7 with e | e | e | e | e | e | e
            · exact ⟨_, .list [], by rw [e]; rfl, by simp [odds], a0, _, rfl, SqL.of (by rw [fresh_new (s3.free n0)]; exact w2 _ _ upd_same), rfl⟩
            · exact ⟨_, .none, by rw [e]; rfl, by simp [odds], rfl⟩
            · exact ⟨_, .tuple [.str "a\n"], by rw [e]; rfl, by simp [odds], a2, _, rfl, SqT.of (by rw [fresh_new (u0.free n2)]; exact w3 _ _ upd_same), _, _, rfl, rfl, rfl⟩
            · exact ⟨_, .tuple [.str "aaaaaaaaaaaaaaaaaaaaa"], by rw [e]; rfl, by simp [odds], a3, _, rfl, SqT.of (by rw [fresh_new (u2.free n3)]; exact w4 _ _ upd_same), _, _, rfl, by rw [mul21]; rfl, rfl⟩
            · exact ⟨_, .tuple [.int 7], by rw [e]; rfl, by simp [odds], a4, _, rfl, SqT.of (by rw [fresh_new (u3.free n4)]; exact w5 _ _ upd_same), _, _, rfl, rfl, rfl⟩
            · exact ⟨_, .tuple [.str "a", .str "a\t"], by rw [e]; rfl, by simp [odds], a5, _, rfl, SqT.of (by rw [fresh_new (u4.free n5)]; exact w6 _ _ upd_same), _, _, rfl, rfl, _, _, rfl, rfl, rfl⟩
            · exact ⟨_, .tuple [.str "", .str "b\n"], by rw [e]; rfl, by simp [odds], a6, _, rfl, SqT.of (by rw [fresh_new (u5.free n6)]; exact z7 _ _ upd_same), _, _, rfl, rfl, _, _, rfl, rfl, rfl⟩
          obtain ⟨v, d, hat, hdm, hdt⟩ := hv
          exact ⟨_, rfl, _, _, rfl, rfl, ⟨by decide, by decide⟩, _, _, rfl, rfl, (by show (0 : Int) < 7; decide), a7, _, _, _, rfl, rfl, SqL.of upd_same, hat, d, v, rfl, sF, .inr hdm, hdt⟩
        · refine ⟨.tuple (rs.map .str), _, rfl, s3, .inl ⟨rs, rfl, by omega, fun l hl => pok l (rin l hl)⟩, t1, _, rfl, SqT.of ?_, DtAll.strs rs⟩
          rw [fresh_new nt1]; exact upd_same
      · rintro σ2 H3 ⟨d, v, rfl, s4, td, hd⟩
        refine ⟨_, rfl, _, rfl, _, rfl, lineN 3, fun t n => ?_⟩
        have s5 := same_upd (o := .tup [V.int lo, V.int hi, v]) n
        refine k t _ (lo, hi, d) (s4.trans s5) td ⟨t, _, rfl, SqT.of ?_, _, _, rfl, rfl, _, _, rfl, rfl, _, _, rfl, Dt.same (fresh_mono s5) _ _ hd, rfl⟩
        rw [fresh_new (s4.free n)]; exact upd_same
end g_drawn
namespace g_rows
abbrev st : Stmt := top 29
theorem sc : FnScope ["_law_script", "_law_old", "_law_pool_here", "_law_rows_here", "_law_last", "_law_cell_here"] ["_law_script", "_law_old", "_law_pool_here"] (defScope st) := ⟨rfl, rfl, rfl, by decide +kernel, rfl, by decide +kernel, by decide +kernel⟩
theorem ok {f : Addr} {fd : FuncData} (F : Fun K "_law_rows" "_law_rows" st f fd) (T : Txt K mg aN t1 t4 t5) (C__law_cell : Cal P w K mg base 1 "_law_cell" ["_law_script", "_law_k"] (spCell K))
    (C__law_drawn : Cal P w K mg base 3 "_law_drawn" ["_law_cell_here", "_law_old", "_law_pool_here", "_law_last"] (spDrawn K)) : FnOk P w K mg base CX0 4 f fd ["_law_script", "_law_old", "_law_pool_here"] (spRows K) := by
  refine F.ok sc (fun vs H Q E h => ?_) (fun cdv A outer s H vs Q E hr h => ?_)
  · obtain ⟨a, b, lp, ns, xs, ps, rfl, _⟩ := h
    rfl
  · obtain ⟨a, b, lp, ns, xs, ps, rfl, ha, hb, hp, p5, x1, pok, k⟩ := h
    refine ⟨_, (pss_cons (ps_set (i := 3) sc.nd rfl (Or.inl rfl) (pe_lst pa_nil))
      (pss_cons (ps_set (i := 4) sc.nd rfl (Or.inl rfl) (pe_un un_neg pe_int))
      (pss_cons (ps_for PassesOwn.never rfl (pi_list (pe_slice (sl_list : SlR _ (rSlL K)) (pv 0) (po_some pe_int) (po_some (pe_op op_add pe_int (pe_ix (ix_list : IxR _ (rIxL K)) (pe_lst (pa_cons pe_int (pa_cons pe_int (pa_cons pe_int (pa_cons pe_int (pa_cons pe_int pa_nil)))))) (pe_op op_mod (pe_op op_fdiv (pe_callC C__law_cell (hr.mono (by decide)) (pa_cons (pv 0) (pa_cons pe_int pa_nil))) pe_int) pe_int) (fun _ _ => rfl)))))) (pg_name (i := 5) sc.nd rfl (Or.inl rfl))
        (pss_cons (ps_expr (pe_bm PySem.F.plainAttrs_list PySem.F.slot_list_append PySem.F.type_list_append mt_append (pv 3) (pa_cons (pe_callC C__law_drawn (hr.mono (by decide)) (pa_cons (pv 5) (pa_cons (pv 1) (pa_cons (pv 2) (pa_cons (pv 4) pa_nil))))) pa_nil)))
        (pss_one (ps_set (i := 4) sc.nd rfl (Or.inl rfl) (pe_ix (ix_tup : IxR _ (rIxT K)) (pe_ix (ix_list : IxR _ (rIxL K)) (pv 3) (pe_un un_neg pe_int) (fun _ _ => rfl)) pe_int (fun _ _ => rfl))))))
      (pss_one (ps_ret (pv 3)))))), ?_⟩
    refine ⟨Nat.zero_le _, fun o no => ?_⟩
    have s0 := same_upd (o := .lst []) no
    refine ⟨_, rfl, _, rfl, _, rfl, lineN 5, fun l5 n5 => ?_⟩
    have s1 := s0.trans (same_upd (o := .lst [V.int 2, V.int 1, V.int 2, V.int 3, V.int 4]) n5)
    refine ⟨_, rfl, a, ns, 1, rfl, s1.seq ha, by decide, fun i0 => ⟨_, _, rfl, rfl, ⟨by decide, by decide⟩, _, _, rfl, rfl, (by show (0 : Int) < 5; decide), ?_⟩⟩
    have hn : ∃ n : Nat, n ≤ 4 ∧ atI [V.int 2, V.int 1, V.int 2, V.int 3, V.int 4] (i0 / 5 % 5) = some (V.int n) := by
      have h5 : i0 / 5 % 5 = 0 ∨ i0 / 5 % 5 = 1 ∨ i0 / 5 % 5 = 2 ∨ i0 / 5 % 5 = 3 ∨ i0 / 5 % 5 = 4 := by omega
      rcases h5 with e | e | e | e | e
      · exact ⟨2, by decide, by rw [e]; rfl⟩
      · exact ⟨1, by decide, by rw [e]; rfl⟩
      · exact ⟨2, by decide, by rw [e]; rfl⟩
      · exact ⟨3, by decide, by rw [e]; rfl⟩
      · exact ⟨4, by decide, by rw [e]; rfl⟩
    obtain ⟨n, n4, hat⟩ := hn
    refine ⟨l5, _, _, _, rfl, rfl, SqL.of upd_same, hat, _, _, rfl, rfl, _, rfl, a, _, rfl, s1.seq ha, fun l6 n6 => ?_⟩
    have hms : ∃ ms : List Int, cutV (ns.map V.int) (some 6) (some (6 + (n : Int))) = ms.map V.int ∧ ms.length ≤ 4 := by
      refine ⟨(ns.drop (HT.sIx (ns.map V.int).length 0 (some 6))).take (HT.sIx (ns.map V.int).length (ns.map V.int).length (some (6 + (n : Int))) - HT.sIx (ns.map V.int).length 0 (some 6)), ?_, ?_⟩
      · unfold cutV
        rw [List.map_take, List.map_drop]
      · have e1 : HT.sIx (ns.map V.int).length (ns.map V.int).length (some (6 + (n : Int))) = min (6 + n) (ns.map V.int).length := HT.sIx_nat _ _ (6 + n)
        have e2 : HT.sIx (ns.map V.int).length 0 (some 6) = min 6 (ns.map V.int).length := HT.sIx_nat _ _ 6
        rw [List.length_take, e1, e2]
        omega
    obtain ⟨ms, hms, msl⟩ := hms
    rw [hms]
    have s3 := s1.trans (same_upd (o := .lst (ms.map V.int)) n6)
    have ho3 : upd (upd (upd H o (.lst [])) l5 (.lst [V.int 2, V.int 1, V.int 2, V.int 3, V.int 4])) l6 (.lst (ms.map V.int)) o = some (.lst []) := ((same_upd n5).trans (same_upd n6)) _ _ upd_same
    have hl3 : upd (upd (upd H o (.lst [])) l5 (.lst [V.int 2, V.int 1, V.int 2, V.int 3, V.int 4])) l6 (.lst (ms.map V.int)) l6 = some (.lst (ms.map V.int)) := upd_same
    have dol : l6 ≠ o := (ne_of_none ((same_upd (o := .lst [V.int 2, V.int 1, V.int 2, V.int 3, V.int 4]) n5) _ _ (upd_same (H := H) (a := o) (o := .lst []))) n6).symm
    generalize upd (upd (upd H o (.lst [])) l5 (.lst [V.int 2, V.int 1, V.int 2, V.int 3, V.int 4])) l6 (.lst (ms.map V.int)) = H3 at s3 ho3 hl3
    have k3 : Same (hide H3 o) (hide H3 o) := Same.refl _
    have hpo : SqL K (hide H3 o) lp (ps.map V.str) := by
      rcases hp with (h | ⟨ob, h⟩) | h
      · exact .inl (.inl ((hide_ne (ne_of_none h no)).trans (s3 _ _ h)))
      · exact .inl (.inr ⟨ob, (hide_ne (ne_of_none h no)).trans (s3 _ _ h)⟩)
      · exact .inr h
    refine ⟨l6, rfl, ⟨_, SqL.of hl3⟩, for_list (K := K) (a := l6) (xs := ms.map V.int) (fun i σ H2 => ∃ (rs : List Row) (vs : List V) (last : Int) (o5 : Option V), σ = [some (.ref a), some (.ref b), some (.ref lp), some (.ref o), some (.int last), o5] ∧ Same (hide H3 o) (hide H2 o) ∧ H2 o = some (.lst vs) ∧ DtAll K (hide H2 o) (rs.map rowDat) vs ∧ rs.length = i ∧ ∀ r ∈ rs, Third r.2.2)
      ⟨[], [], -1, none, rfl, k3, ho3, rfl, rfl, fun r hr => nomatch hr⟩ (fun j σ H2 _ ⟨_, _, _, _, _, e, _⟩ => SqL.of ((hide_same H2 o) _ _ (e _ _ ((hide_ne dol).trans hl3)))) ?_ ?_⟩
    · rintro i x σ H2 hi ⟨rs, vs, last, o5, rfl, e2, ho2, hacc, rl, tr⟩
      have il : i < ms.length := by have := (List.getElem?_eq_some_iff.mp hi).1; rwa [List.length_map] at this
      rw [List.getElem?_map] at hi
      cases q : ms[i]? with
      | none => rw [q] at hi; cases hi
      | some c =>
        rw [q] at hi
        have hi : V.int c = x := Option.some.inj hi
        subst hi
        have hb2 : SqT K H2 b (xs.map V.str) := (hide_same H2 o).tupS (e2.tupS (tup_hide ho3 (s3.tupS hb)))
        have hp2 : SqL K H2 lp (ps.map V.str) := (hide_same H2 o).seq (e2.seq hpo)
        have vl := hacc.length
        rw [List.length_map] at vl
        refine ⟨_, rfl, .inl ⟨rfl, _, SqL.of ho2⟩, _, rfl, _, rfl, _, rfl, _, rfl, c, last, b, lp, xs, ps, rfl, hb2, hp2, p5, x1, pok, fun t H4 r s4 tr4 hd => ?_⟩
        have ho4 := s4 _ _ ho2
        have hd4 : Dt K (hide H4 o) (rowDat r) (.ref t) := Dt.same (fresh_hide ho2) _ _ hd
        refine ⟨o, _, _, rfl, rfl, ho4, lt_line (by omega), ?_⟩
        have hd5 : Dt K (hide (upd H4 o (.lst (vs ++ [V.ref t]))) o) (rowDat r) (.ref t) := by rw [hide_upd]; exact hd4
        obtain ⟨t', vt, e5, ht5, x0, r0, rfl, e6, x7, r7, rfl, e8, x9, r9, rfl, d9, e10⟩ := id hd5
        have e10 : r9 = [] := e10
        subst e10
        have e5 : t = t' := by injection e5
        subst e5
        have e6 : x0 = V.int r.1 := e6
        have e8 : x7 = V.int r.2.1 := e8
        subst e6 e8
        refine ⟨_, rfl, _, rfl, o, _, _, _, rfl, rfl, SqL.of upd_same, atI_last _ _, t, _, _, _, rfl, rfl, (hide_same _ o).tupS ht5, rfl, rs ++ [r], vs ++ [V.ref t], r.2.1, _, rfl, ?_, upd_same, ?_, by simp [rl], mem_snoc tr tr4⟩
        · rw [hide_upd]; exact e2.trans (same_hide o s4)
        · rw [List.map_append]
          refine DtAll.append ?_ ⟨_, _, rfl, hd5, rfl⟩
          rw [hide_upd]; exact DtAll.same (same_hide o s4) _ _ hacc
    · rintro σ H2 ⟨rs, vs, last, o5, rfl, e2, ho2, hacc, rl, tr⟩
      rw [List.length_map] at rl
      refine ⟨_, rfl, k o H2 rs (fun c u hc => ?_) (by omega) tr ⟨o, vs, rfl, SqL.of ho2, DtAll.same (hide_same H2 o) _ _ hacc⟩⟩
      have hco : c ≠ o := ne_of_none hc no
      exact (hide_same H2 o) _ _ (e2 _ _ ((hide_ne hco).trans (s3 _ _ hc)))
end g_rows
namespace g_fit
abbrev st : Stmt := top 30
theorem sc : FnScope ["_law_old", "_law_rows_here", "_law_last", "_law_none", "_law_low", "_law_high", "_law_lines", "_law_found"] ["_law_old", "_law_rows_here"] (defScope st) := ⟨rfl, rfl, rfl, by decide +kernel, rfl, by decide +kernel, by decide +kernel⟩
theorem ok {f : Addr} {fd : FuncData} (F : Fun K "_law_fit" "_law_fit" st f fd) (T : Txt K mg aN t1 t4 t5) : FnOk P w K mg base CX0 1 f fd ["_law_old", "_law_rows_here"] (spFit K) := by
  refine F.ok sc (fun vs H Q E h => ?_) (fun cdv A outer s H vs Q E hr h => ?_)
  · obtain ⟨a, l, xs, rs, rfl, _⟩ := h
    rfl
  · obtain ⟨a, l, xs, rs, rfl, ha, hd, x1, r1, tr, k⟩ := h
    refine ⟨_, (pss_cons (ps_set (i := 2) sc.nd rfl (Or.inl rfl) (pe_un un_neg pe_int))
      (pss_cons (ps_set (i := 3) sc.nd rfl (Or.inl rfl) (pe_lst (pa_cons (pe_tup (pa_cons pe_str pa_nil)) (pa_cons (pe_tup (pa_cons (pe_op op_mulS pe_str pe_int) pa_nil)) (pa_cons (pe_tup (pa_cons pe_int pa_nil)) (pa_cons (pe_tup (pa_cons pe_str (pa_cons pe_str pa_nil))) (pa_cons (pe_tup (pa_cons pe_str (pa_cons pe_str pa_nil))) pa_nil)))))))
      (pss_cons (ps_for PassesOwn.never rfl (pi_list (pv 1)) (pg_tup rfl (pgs_cons (pg_name (i := 4) sc.nd rfl (Or.inl rfl)) (pgs_cons (pg_name (i := 5) sc.nd rfl (Or.inl rfl)) (pgs_cons (pg_name (i := 6) sc.nd rfl (Or.inl rfl)) pgs_nil))))
        (pss_cons (ps_if (PW.pt (pw_or (pt_not (pt_truthK (K := K) (pe_callB (call_isinstD (K := K)) (by rfl) T.isinstance PyProof.Rows.boot_isinstance (pa_cons (pv 6) (pa_cons (pe_bltn (v := .ty "tuple") rfl T.tuple PyProof.Rows.boot_tuple rfl) pa_nil))) (fun _ => rfl))) (pw_or1 (pt_cmpR (op_inD (K := K) hr.units) (pv 6) (pv 3) (by with_unfolding_all rfl)))))
          (pss_one (ps_ret pe_non))
          pss_nil)
        (pss_cons (ps_if (PW.pt (pw_or (pt_not (pt_chain3 op_lt op_le op_le (pv 2) (pv 4) (pv 5) (pe_callB call_len_seq (by rfl) T.len PySem.boot_len (pa_cons (pv 0) pa_nil)))) (pw_or1 (PW.pt (pw_and (pt_cmpR op_eq (pv 4) (pv 5) (nomark _)) (pw_and1 (pt_cmpR (op_eqD hr.units) (pv 6) (pe_tup pa_nil) (nomark _))))))))
          (pss_one (ps_ret pe_non))
          pss_nil)
        (pss_one (ps_set (i := 2) sc.nd rfl (Or.inl rfl) (pv 5))))))
      (pss_cons (ps_set (i := 7) sc.nd rfl (Or.inl rfl) (pv 0))
      (pss_cons (ps_for PassesOwn.never rfl (pi_revL rfl T.reversed (pa_cons (pv 1) pa_nil)) (pg_tup rfl (pgs_cons (pg_name (i := 4) sc.nd rfl (Or.inl rfl)) (pgs_cons (pg_name (i := 5) sc.nd rfl (Or.inl rfl)) (pgs_cons (pg_name (i := 6) sc.nd rfl (Or.inl rfl)) pgs_nil))))
        (pss_one (ps_set (i := 7) sc.nd rfl (Or.inl rfl) (pe_op (op_catT2 : OpR _ _ (rCatT2 K)) (pe_op (op_catT2 : OpR _ _ (rCatT2 K)) (pe_slice (sl_tup2 : SlR _ (rSlT2 K)) (pv 7) po_none (po_some (pv 4))) (pv 6)) (pe_slice (sl_tup2 : SlR _ (rSlT2 K)) (pv 7) (po_some (pv 5)) po_none)))))
      (pss_one (ps_ret (pv 7)))))))), ?_⟩
    obtain ⟨l', vs, e0, hl, hvs⟩ := hd
    have e0 : l = l' := by injection e0
    subst e0
    refine ⟨_, rfl, lineN 1, fun a2 n2 => ⟨_, _, rfl, rfl, mul_ok, lineN 1, fun a3 n3 => ⟨lineN 1, fun a4 n4 => ⟨lineN 2, fun a5 n5 => ⟨lineN 2, fun a6 n6 => ⟨lineN 5, fun a7 n7 => ?_⟩⟩⟩⟩⟩⟩
    have z2 := same_upd (o := .tup [V.str "a\n"]) n2
    have z3 := same_upd (o := .tup [V.str (Txt.mul "a" 21)]) n3
    have z4 := same_upd (o := .tup [V.int 7]) n4
    have z5 := same_upd (o := .tup [V.str "a", V.str "a\t"]) n5
    have z6 := same_upd (o := .tup [V.str "", V.str "b\n"]) n6
    have z7 := same_upd (o := .lst [V.ref a2, V.ref a3, V.ref a4, V.ref a5, V.ref a6]) n7
    have w6 := z6.trans z7
    have w5 := z5.trans w6
    have w4 := z4.trans w5
    have w3 := z3.trans w4
    have sF := z2.trans w3
    have hN : Dt K (upd (upd (upd (upd (upd (upd H a2 (.tup [V.str "a\n"])) a3 (.tup [V.str (Txt.mul "a" 21)])) a4 (.tup [V.int 7])) a5 (.tup [V.str "a", V.str "a\t"])) a6 (.tup [V.str "", V.str "b\n"])) a7 (.lst [V.ref a2, V.ref a3, V.ref a4, V.ref a5, V.ref a6])) (.list [.tuple [.str "a\n"], .tuple [.str "aaaaaaaaaaaaaaaaaaaaa"], .tuple [.int 7], .tuple [.str "a", .str "a\t"], .tuple [.str "", .str "b\n"]]) (.ref a7) :=
      ⟨a7, _, rfl, SqL.of upd_same, _, _, rfl, ⟨a2, _, rfl, SqT.of (w3 _ _ upd_same), _, _, rfl, rfl, rfl⟩, _, _, rfl, ⟨a3, _, rfl, SqT.of (w4 _ _ upd_same), _, _, rfl, (by rw [mul21]; rfl), rfl⟩, _, _, rfl, ⟨a4, _, rfl, SqT.of (w5 _ _ upd_same), _, _, rfl, rfl, rfl⟩,
        _, _, rfl, ⟨a5, _, rfl, SqT.of (w6 _ _ upd_same), _, _, rfl, rfl, _, _, rfl, rfl, rfl⟩, _, _, rfl, ⟨a6, _, rfl, SqT.of (z7 _ _ upd_same), _, _, rfl, rfl, _, _, rfl, rfl, rfl⟩, rfl⟩
    show tSeq _ _ _ _ (upd _ a7 (.lst [V.ref a2, V.ref a3, V.ref a4, V.ref a5, V.ref a6]))
    generalize upd (upd (upd (upd (upd (upd H a2 (.tup [V.str "a\n"])) a3 (.tup [V.str (Txt.mul "a" 21)])) a4 (.tup [V.int 7])) a5 (.tup [V.str "a", V.str "a\t"])) a6 (.tup [V.str "", V.str "b\n"])) a7 (.lst [V.ref a2, V.ref a3, V.ref a4, V.ref a5, V.ref a6]) = H1 at sF hN
    have hvs1 := DtAll.same sF _ _ hvs
    have vl := hvs.length
    rw [List.length_map] at vl
    refine ⟨_, rfl, l, rfl, ⟨_, sF.seq hl⟩, for_list (K := K) (a := l) (xs := vs) (fun i σ H2 => ∃ (o4 o5 o6 : Option V), σ = [some (.ref a), some (.ref l), some (.int (lastOf (-1) rs i)), some (.ref a7), o4, o5, o6, none] ∧ Same H1 H2 ∧ goodRows xs.length (-1) (rs.take i) = true)
      ⟨none, none, none, rfl, Same.refl _, rfl⟩ (fun i σ H2 _ ⟨_, _, _, _, e, _⟩ => e.seq (sF.seq hl)) ?_ ?_⟩
    · rintro i x σ H2 hi ⟨o4, o5, o6, rfl, e2, good⟩
      obtain ⟨r, t, v, er, rfl, ht, hd⟩ := rows_get hvs1 hi
      have hd2 := Dt.same e2 _ _ hd
      have ha2 := (sF.trans e2).tupS ha
      have third := tr r (List.mem_of_getElem? er)
      have sn := goodRows_snoc (n := xs.length) (last := -1) er
      rw [good, Bool.true_and] at sn
      have bad : goodRow xs.length (lastOf (-1) rs i) r = false → FitV K H2 xs rs .non := fun hb => by
        unfold FitV
        rw [if_neg]
        intro z
        have := goodRows_cut (i + 1) z
        rw [sn, hb] at this; cases this
      refine ⟨t, _, rfl, e2.tupS ht, rfl, _, _, rfl, _, _, rfl, _, _, rfl, rfl, ?_⟩
      refine ⟨_, rfl, _, _, r.2.2, _, rfl, hd2.dw, T.is (by simp [kinds]), _, rfl, ?_⟩
      rcases third with ⟨ls, el, ll, lok⟩ | hod
      · rw [el]
        have lsD : linesD r.2.2 = true := by rw [el]; exact linesD_strs lok
        rw [el] at hd2
        refine iteF ⟨_, rfl, _, rfl, .tuple (ls.map .str), _, hd2, Dt.same e2 _ _ hN, by decide +kernel, ?_, ?_, _, rfl, ?_⟩
        · exact (lines_lay lok).1
        · exact (lines_lay lok).2
        rw [third_any rfl lok]
        refine iteF ?_
        refine ⟨_, rfl, _, rfl, _, _, rfl, rfl, _, rfl, ite2 (fun h1 => ?_) (fun h1 => ?_)⟩
        · have h1 := of_decide_eq_true h1
          refine ⟨_, rfl, _, _, rfl, rfl, _, rfl, ite2 (fun h2 => ?_) (fun h2 => ?_)⟩
          · have h2 := of_decide_eq_true h2
            refine ⟨_, rfl, a, _, rfl, .inr ha2, _, _, rfl, rfl, _, rfl, ?_⟩
            have lst : lastOf (-1) rs (i + 1) = r.2.1 := by
              show ((rs[i]?).map (·.2.1)).getD 0 = _
              rw [er]; rfl
            by_cases h3 : r.2.1 ≤ (((xs.map V.str).length : Nat) : Int)
            · have h3' : r.2.1 ≤ ((xs.length : Nat) : Int) := by rwa [List.length_map] at h3
              refine iteNS h3 ?_
              refine ⟨_, rfl, _, rfl, rfl, _, rfl, ite2 (fun h4 => ?_) (fun h4 => ?_)⟩
              · have h4 : V.int r.1 = V.int r.2.1 := of_decide_eq_true h4
                have h4 : r.1 = r.2.1 := by injection h4
                refine ⟨_, rfl, Nat.zero_le _, fun t0 n0 => ?_⟩
                have u0 := same_upd (o := .tup []) n0
                have shl := (shaped_strs fun p hp => lineB_ok (lok p hp)).2
                refine ⟨.tuple (ls.map .str), .tuple [], Dt.same u0 _ _ hd2, ⟨t0, _, rfl, SqT.of upd_same, rfl⟩, shl, by decide +kernel, _, rfl, ?_⟩
                have ee : PyData.eqv (.tuple (ls.map .str)) (.tuple []) = decide (ls = []) := eqv_strs ls []
                rw [ee]
                refine ite2 (fun h5 => ?_) (fun h5 => ?_)
                · have h5 := of_decide_eq_true h5
                  refine k _ _ ((sF.trans e2).trans u0) ?_
                  have nb : goodRow xs.length (lastOf (-1) rs i) r = false := by
                    cases q : goodRow xs.length (lastOf (-1) rs i) r with
                    | false => rfl
                    | true => exact absurd ⟨h4, by rw [el, h5]; rfl⟩ (goodRow_iff.mp q).some
                  have := bad nb
                  unfold FitV at this ⊢
                  split at this
                  · rename_i z
                    rw [if_pos z]
                    obtain ⟨p, hp, _⟩ := this
                    cases hp
                  · rename_i z
                    rw [if_neg z]
                · refine ⟨_, rfl, some (.int r.1), some (.int r.2.1), some v, ?_, e2.trans u0, ?_⟩
                  · rw [lst]; rfl
                  · rw [sn, goodRow_iff]
                    exact ⟨h1, h2, h3', lsD, fun z => h5 (decide_eq_true (noneT_strs (by rw [← el]; exact z.2)))⟩
              · refine ⟨_, rfl, some (.int r.1), some (.int r.2.1), some v, ?_, e2, ?_⟩
                · rw [lst]; rfl
                · rw [sn, goodRow_iff]
                  exact ⟨h1, h2, h3', lsD, fun z => h4 (decide_eq_true (by rw [z.1]))⟩
            · refine iteND h3 (iteT (k _ _ (sF.trans e2) (bad ?_)))
              cases q : goodRow xs.length (lastOf (-1) rs i) r with
              | false => rfl
              | true => exact absurd (by rw [List.length_map]; exact (goodRow_iff.mp q).top) h3
          · refine ⟨_, rfl, iteT (iteT (k _ _ (sF.trans e2) (bad ?_)))⟩
            cases q : goodRow xs.length (lastOf (-1) rs i) r with
            | false => rfl
            | true => exact absurd (decide_eq_true (goodRow_iff.mp q).le) h2
        · refine ⟨_, rfl, iteT (iteT (k _ _ (sF.trans e2) (bad ?_)))⟩
          cases q : goodRow xs.length (lastOf (-1) rs i) r with
          | false => rfl
          | true => exact absurd (decide_eq_true (goodRow_iff.mp q).lt) h1
      · obtain ⟨o1, o2, o3, o4⟩ := odds_case hod
        have nb : goodRow xs.length (lastOf (-1) rs i) r = false := by
          cases q : goodRow xs.length (lastOf (-1) rs i) r with
          | false => rfl
          | true => have := (goodRow_iff.mp q).lines; rw [o1] at this; cases this
        have nt : (nameD r.2.2 == "bool" && "tuple" == "int") = false := by rw [show ("tuple" == "int") = false by decide, Bool.and_false]
        rw [nt, Bool.or_false]
        rcases o4 with ot | ⟨ot, oa⟩
        · rw [ot]
          exact iteT (iteT (k _ _ (sF.trans e2) (bad nb)))
        · rw [ot]
          refine iteF ⟨_, rfl, _, rfl, r.2.2, _, hd2, Dt.same e2 _ _ hN, by decide +kernel, o2, o3, _, rfl, ?_⟩
          rw [oa]
          exact iteT (k _ _ (sF.trans e2) (bad nb))
    · rintro σ H2 ⟨o4, o5, o6, rfl, e2, good⟩
      rw [vl, List.take_length] at good
      have hl2 := (sF.trans e2).seq hl
      have hvs2 := DtAll.same e2 _ _ hvs1
      have ha2 := (sF.trans e2).tupS ha
      refine ⟨_, rfl, _, rfl, l, _, rfl, hl2, for_revL (K := K) (a := l) (xs := vs) (fun i σ H' => ∃ (p : Addr) (o2 o3 o4 o5 o6 : Option V), σ = [some (.ref a), some (.ref l), o2, o3, o4, o5, o6, some (.ref p)] ∧ Same H2 H' ∧ SqT K H' p ((patchL xs 0 (rs.drop (rs.length - i))).map V.str) ∧ (patchL xs 0 (rs.drop (rs.length - i))).length ≤ 100 + 3 * i)
        ⟨a, _, _, _, _, _, rfl, Same.refl _, ?_, ?_⟩ (fun i σ H' _ ⟨_, _, _, _, _, _, _, e, _⟩ => e.seq hl2) ?_ ?_⟩
      · rw [Nat.sub_zero, List.drop_length]; exact ha2
      · rw [Nat.sub_zero, List.drop_length]; exact x1
      · rintro i x σ H' hi hx ⟨p, o2, o3, o4, o5, o6, rfl, e3, hp, pl⟩
        obtain ⟨r, t, v, er, rfl, ht, hd⟩ := rows_get hvs2 hx
        obtain ⟨c1, c2, c3⟩ := cut_step (by decide) good er
        obtain ⟨l', g0, g, _⟩ := goodRows_at (by decide) good er
        have ej : vs.length - 1 - i + 1 = rs.length - i := by omega
        have ej2 : vs.length - 1 - i = rs.length - (i + 1) := by omega
        rw [ej] at c1 c2 c3
        rw [ej2] at c1
        obtain ⟨ls, el, ll⟩ : ∃ ls : List Str, r.2.2 = .tuple (ls.map .str) ∧ ls.length ≤ 3 := by
          rcases tr r (List.mem_of_getElem? er) with ⟨ls, el, ll, _⟩ | hod
          · exact ⟨ls, el, ll⟩
          · have := g.lines
            rw [(odds_case hod).1] at this; cases this
        rw [el, linesOf_strs] at c1
        rw [el] at hd
        obtain ⟨tv, vs', rfl, htv, hvs'⟩ := hd
        rw [DtAll.strs_of hvs'] at htv
        have g1 := g.lt
        have g2 := g.le
        have lo0 : 0 ≤ r.1 := by omega
        have hi0 : 0 ≤ r.2.1 := by omega
        refine ⟨t, _, rfl, e3.tupS ht, rfl, _, _, rfl, _, _, rfl, _, _, rfl, rfl, ?_⟩
        refine ⟨_, rfl, _, rfl, _, rfl, p, _, rfl, hp, fun v1 H3 h3 => ?_⟩
        obtain ⟨q1, rfl, s3, hq1⟩ := cut_any hp h3
        rw [cut_to lo0, ← List.map_take] at hq1
        refine ⟨_, rfl, q1, tv, _, _, rfl, rfl, hq1, (e3.trans s3).tupS htv, le_line (by rw [List.length_map, List.length_map, List.length_take]; omega), fun q2 H4 s4 hq2 => ?_⟩
        rw [← List.map_append] at hq2
        refine ⟨_, rfl, _, rfl, _, rfl, p, _, rfl, (s3.trans s4).tupS hp, fun v2 H5 h5 => ?_⟩
        obtain ⟨q3, rfl, s5, hq3⟩ := cut_any ((s3.trans s4).tupS hp) h5
        rw [cut_from hi0, ← List.map_drop] at hq3
        have tot : (patchL xs 0 (rs.drop (rs.length - (i + 1)))).length ≤ 100 + 3 * (i + 1) := by
          rw [← c1, List.length_append, List.length_append, List.length_take, List.length_drop]
          omega
        refine ⟨q2, q3, _, _, rfl, rfl, s5.tupS hq2, hq3, le_line (by rw [List.length_map, List.length_map, List.length_append, List.length_take, List.length_drop]; omega), fun q4 H6 s6 hq4 => ?_⟩
        rw [← List.map_append, c1] at hq4
        exact ⟨q4, _, _, _, _, _, rfl, e3.trans ((s3.trans s4).trans (s5.trans s6)), hq4, tot⟩
      · rintro σ H' ⟨p, o2, o3, o4, o5, o6, rfl, e3, hp, _⟩
        rw [vl, Nat.sub_self, List.drop_zero] at hp
        refine ⟨_, rfl, k _ _ ((sF.trans e2).trans e3) ?_⟩
        unfold FitV
        rw [if_pos good]
        exact ⟨p, rfl, hp⟩
end g_fit
namespace g_patched
abbrev st : Stmt := top 31
theorem sc : FnScope ["_law_old", "_law_rows_here"] ["_law_old", "_law_rows_here"] (defScope st) := ⟨rfl, rfl, rfl, by decide +kernel, rfl, by decide +kernel, by decide +kernel⟩
theorem ok {f : Addr} {fd : FuncData} (F : Fun K "_law_patched" "_law_patched" st f fd) (T : Txt K mg aN t1 t4 t5) (C_patched : CalX P w K mg base 5 "patched" ["old", "rows"] (spPatched K aN)) : FnOk P w K mg base CX0 6 f fd ["_law_old", "_law_rows_here"] (spFitP K) := by
  refine F.ok sc (fun vs H Q E h => ?_) (fun cdv A outer s H vs Q E hr h => ?_)
  · obtain ⟨a, l, xs, rs, rfl, _⟩ := h
    rfl
  · obtain ⟨a, l, xs, rs, rfl, xok, ha, hd, x1, r1, tr, k⟩ := h
    refine ⟨_, (pss_one (ps_try0 rfl rfl rfl (fun _ _ => (pss_one (ps_ret (pe_callX C_patched (hr.mono (by decide)) (raises_tryc rfl) (pa_cons (pv 0) (pa_cons (pv 1) pa_nil)))))) rfl T.NoFit (fun _ => (pss_one (ps_ret pe_non))))), ?_⟩
    refine ⟨fun σ' H' cls => Same H H' ∧ cls = .ref aN ∧ goodRows xs.length (-1) rs = false, ?_, ?_⟩
    · refine ⟨_, rfl, _, rfl, a, l, xs, rs, rfl, ha, hd, x1, by omega, xok, fun r hr => third_small (tr r hr), fun g p H' s' hp => k _ _ s' ?_, fun g H' s' => ⟨s', rfl, g⟩⟩
      unfold FitV
      rw [if_pos g]
      exact ⟨p, rfl, hp⟩
    · rintro σ' H' cls e ⟨s', rfl, g⟩ ne
      refine ⟨T.exm, k _ _ (s'.trans (same_upd ne)) ?_⟩
      unfold FitV
      rw [if_neg (by rw [g]; decide)]
end g_patched
namespace g_law
abbrev st : Stmt := top 32
theorem sc : FnScope ["_law_script", "_law_pool_here", "_law_more", "_law_old", "_law_new", "_law_due_here", "_law_found", "_law_row_here", "_law_told", "_law_made", "_law_rows_here", "_law_handed"] ["_law_script"] (defScope st) := ⟨rfl, rfl, rfl, by decide +kernel, rfl, by decide +kernel, by decide +kernel⟩
theorem ok {f : Addr} {fd : FuncData} (F : Fun K "law" "law" st f fd) (T : Txt K mg aN t1 t4 t5) (C__law_whole : Cal P w K mg base 1 "_law_whole" ["_law_found"] spWhole) (C__law_cell : Cal P w K mg base 1 "_law_cell" ["_law_script", "_law_k"] (spCell K)) (C__law_pool : Cal P w K mg base 3 "_law_pool" ["_law_cell_here"] spPool)
    (C__law_row : Cal P w K mg base 2 "_law_row" ["_law_cell_here", "_law_pool_here", "_law_most"] (spRow K)) (C__law_put_in : Cal P w K mg base 2 "_law_put_in" ["_law_row_here", "_law_more", "_law_cell_here"] (spPutIn K))
    (C__law_due : Cal P w K mg base 1 "_law_due" ["_law_old", "_law_new", "_law_pairs"] (spDue K)) (C__law_rows : Cal P w K mg base 4 "_law_rows" ["_law_script", "_law_old", "_law_pool_here"] (spRows K)) (C__law_fit : Cal P w K mg base 1 "_law_fit" ["_law_old", "_law_rows_here"] (spFit K))
    (C__law_patched : Cal P w K mg base 6 "_law_patched" ["_law_old", "_law_rows_here"] (spFitP K)) (C_kept_pairs : Cal P w K mg base 5 "kept_pairs" ["old", "new"] (spKept K)) (C_spans_of : Cal P w K mg base 6 "spans_of" ["old", "new"] (spSpans K))
    (C_cost_of : Cal P w K mg base 5 "cost_of" ["rows"] (spCost K)) (C_patched : CalX P w K mg base 5 "patched" ["old", "rows"] (spPatched K aN)) : FnOk P w K mg base CX0 7 f fd ["_law_script"] (spLaw K) := by
  refine F.ok sc (fun vs H Q E h => ?_) (fun cdv A outer s H vs Q E hr h => ?_)
  · obtain ⟨a, ns, rfl, _⟩ := h
    rfl
  · obtain ⟨a, ns, rfl, ha, k⟩ := h
    refine ⟨_, (pss_cons (ps_set (i := 1) sc.nd rfl (Or.inl rfl) (pe_callC C__law_pool (hr.mono (by decide)) (pa_cons (pe_callC C__law_cell (hr.mono (by decide)) (pa_cons (pv 0) (pa_cons pe_int pa_nil))) pa_nil)))
      (pss_cons (ps_set (i := 2) sc.nd rfl (Or.inl rfl) (pe_callC C__law_row (hr.mono (by decide)) (pa_cons (pe_callC C__law_cell (hr.mono (by decide)) (pa_cons (pv 0) (pa_cons pe_int pa_nil))) (pa_cons (pv 1) (pa_cons pe_int pa_nil)))))
      (pss_cons (ps_set (i := 3) sc.nd rfl (Or.inl rfl) (pe_callTy call_tuple_of (by rfl) T.tuple PyProof.Rows.boot_tuple (pa_cons (pe_callC C__law_put_in (hr.mono (by decide)) (pa_cons (pe_callC C__law_row (hr.mono (by decide)) (pa_cons (pe_callC C__law_cell (hr.mono (by decide)) (pa_cons (pv 0) (pa_cons pe_int pa_nil))) (pa_cons (pv 1) (pa_cons pe_int pa_nil)))) (pa_cons (pv 2) (pa_cons (pe_callC C__law_cell (hr.mono (by decide)) (pa_cons (pv 0) (pa_cons pe_int pa_nil))) pa_nil)))) pa_nil)))
      (pss_cons (ps_set (i := 4) sc.nd rfl (Or.inl rfl) (pe_callTy call_tuple_of (by rfl) T.tuple PyProof.Rows.boot_tuple (pa_cons (pe_callC C__law_put_in (hr.mono (by decide)) (pa_cons (pe_callC C__law_row (hr.mono (by decide)) (pa_cons (pe_callC C__law_cell (hr.mono (by decide)) (pa_cons (pv 0) (pa_cons pe_int pa_nil))) (pa_cons (pv 1) (pa_cons pe_int pa_nil)))) (pa_cons (pv 2) (pa_cons (pe_callC C__law_cell (hr.mono (by decide)) (pa_cons (pv 0) (pa_cons pe_int pa_nil))) pa_nil)))) pa_nil)))
      (pss_cons (ps_set (i := 5) sc.nd rfl (Or.inl rfl) (pe_callC C__law_due (hr.mono (by decide)) (pa_cons (pv 3) (pa_cons (pv 4) (pa_cons (pe_callC C_kept_pairs (hr.mono (by decide)) (pa_cons (pv 3) (pa_cons (pv 4) pa_nil))) pa_nil)))))
      (pss_cons (ps_set (i := 6) sc.nd rfl (Or.inl rfl) (pe_callC C_spans_of (hr.mono (by decide)) (pa_cons (pv 3) (pa_cons (pv 4) pa_nil))))
      (pss_cons (ps_if (PW.pt (pw_or (pt_not (pt_truthK (K := K) (pe_callB (call_isinstD (K := K)) (by rfl) T.isinstance PyProof.Rows.boot_isinstance (pa_cons (pv 6) (pa_cons (pe_bltn (v := .ty "list") rfl T.list PyProof.Rows.boot_list rfl) pa_nil))) (fun _ => rfl))) (pw_or (pt_cmpR (op_neD hr.units) (pv 6) (pv 5) (nomark _)) (pw_or (pt_cmpR (op_neD hr.units) (pe_callC C_spans_of (hr.mono (by decide)) (pa_cons (pv 3) (pa_cons (pv 3) pa_nil))) (pe_lst pa_nil) (nomark _)) (pw_or1 (pt_cmpR (op_neD hr.units) (pe_callC C_spans_of (hr.mono (by decide)) (pa_cons (pv 4) (pa_cons (pv 4) pa_nil))) (pe_lst pa_nil) (nomark _)))))))
        (pss_one (ps_ret pe_bl))
        pss_nil)
      (pss_cons (ps_for PassesOwn.never rfl (pi_list (pv 6)) (pg_name (i := 7) sc.nd rfl (Or.inl rfl))
        (pss_cons (ps_if (PW.pt (pw_or (pt_not (pt_truthK (K := K) (pe_callB (call_isinstD (K := K)) (by rfl) T.isinstance PyProof.Rows.boot_isinstance (pa_cons (pv 7) (pa_cons (pe_bltn (v := .ty "tuple") rfl T.tuple PyProof.Rows.boot_tuple rfl) pa_nil))) (fun _ => rfl))) (pw_or1 (pt_not (pt_truthK (K := K) (pe_callB (call_isinstD (K := K)) (by rfl) T.isinstance PyProof.Rows.boot_isinstance (pa_cons (pe_ix (ix_tup : IxR _ (rIxT K)) (pv 7) pe_int (fun _ _ => rfl)) (pa_cons (pe_bltn (v := .ty "tuple") rfl T.tuple PyProof.Rows.boot_tuple rfl) pa_nil))) (fun _ => rfl))))))
          (pss_one (ps_ret pe_bl))
          pss_nil)
        (pss_one (ps_if (PW.pt (pw_or (pt_not (pt_truthK (K := K) (pe_callC C__law_whole (hr.mono (by decide)) (pa_cons (pe_ix (ix_tup : IxR _ (rIxT K)) (pv 7) pe_int (fun _ _ => rfl)) pa_nil)) (fun _ => rfl))) (pw_or1 (pt_not (pt_truthK (K := K) (pe_callC C__law_whole (hr.mono (by decide)) (pa_cons (pe_ix (ix_tup : IxR _ (rIxT K)) (pv 7) pe_int (fun _ _ => rfl)) pa_nil)) (fun _ => rfl))))))
          (pss_one (ps_ret pe_bl))
          pss_nil))))
      (pss_cons (ps_set (i := 8) sc.nd rfl (Or.inl rfl) (pe_callC C_cost_of (hr.mono (by decide)) (pa_cons (pv 6) pa_nil)))
      (pss_cons (ps_if (PW.pt (pw_or (pt_not (pt_truthK (K := K) (pe_callC C__law_whole (hr.mono (by decide)) (pa_cons (pv 8) pa_nil)) (fun _ => rfl))) (pw_or1 (pt_cmpR op_ne (pv 8) (pe_callB (call_sum rfl) (by rfl) T.sum PyProof.Rows.boot_sum (pa_cons (pe_comp (sc := defScope st) (N := ["_law_script", "_law_pool_here", "_law_more", "_law_old", "_law_new", "_law_due_here", "_law_found", "_law_row_here", "_law_told", "_law_made", "_law_rows_here", "_law_handed"]) (N' := ["_law_row_here"]) (src := [none]) ⟨by decide +kernel, rfl, rfl, by decide +kernel, by decide +kernel, by decide +kernel, by decide +kernel⟩ rfl rfl rfl (pi_list (pv 6)) (fun _ _ _ _ => (pg_name (i := 0) (show (["_law_row_here"] : List Str).Nodup by decide +kernel) rfl (Or.inl rfl))) (fun _ _ _ _ => pf_nil) (fun _ _ _ _ => (pe_op op_add pe_int (pe_callB (call_lenK (K := K)) (by rfl) T.len PySem.boot_len (pa_cons (pe_ix (ix_tup : IxR _ (rIxT K)) (pv 0) pe_int (fun _ _ => rfl)) pa_nil))))) pa_nil)) (nomark _)))))
        (pss_one (ps_ret pe_bl))
        pss_nil)
      (pss_cons (ps_set (i := 9) sc.nd rfl (Or.inl rfl) (pe_callX C_patched (hr.mono (by decide)) raises_none (pa_cons (pv 3) (pa_cons (pv 6) pa_nil))))
      (pss_cons (ps_if (PW.pt (pw_or (pt_not (pt_truthK (K := K) (pe_callB (call_isinstD (K := K)) (by rfl) T.isinstance PyProof.Rows.boot_isinstance (pa_cons (pv 9) (pa_cons (pe_bltn (v := .ty "tuple") rfl T.tuple PyProof.Rows.boot_tuple rfl) pa_nil))) (fun _ => rfl))) (pw_or (pt_cmpR (op_neD hr.units) (pv 9) (pv 4) (nomark _)) (pw_or (pt_cmpR (op_neD hr.units) (pv 6) (pv 5) (nomark _)) (pw_or1 (pt_cmpR (op_neD hr.units) (pe_callX C_patched (hr.mono (by decide)) raises_none (pa_cons (pv 4) (pa_cons (pe_callC C_spans_of (hr.mono (by decide)) (pa_cons (pv 4) (pa_cons (pv 3) pa_nil))) pa_nil))) (pv 3) (nomark _)))))))
        (pss_one (ps_ret pe_bl))
        pss_nil)
      (pss_cons (ps_set (i := 10) sc.nd rfl (Or.inl rfl) (pe_callC C__law_rows (hr.mono (by decide)) (pa_cons (pv 0) (pa_cons (pv 3) (pa_cons (pv 1) pa_nil)))))
      (pss_cons (ps_set (i := 11) sc.nd rfl (Or.inl rfl) (pe_callTy call_list_of (by rfl) T.list PyProof.Rows.boot_list (pa_cons (pv 10) pa_nil)))
      (pss_cons (ps_set (i := 9) sc.nd rfl (Or.inl rfl) (pe_callC C__law_patched (hr.mono (by decide)) (pa_cons (pv 3) (pa_cons (pv 11) pa_nil))))
      (pss_one (ps_ret (pe_and (pe_cmpR (op_eqD hr.units) (pv 9) (pe_callC C__law_fit (hr.mono (by decide)) (pa_cons (pv 3) (pa_cons (pv 10) pa_nil))) (nomark _)) (pe_and (pe_cmpR (op_eqD hr.units) (pv 11) (pv 10) (nomark _)) (pe_one (pe_not (pe_callB (call_isinstD (K := K)) (by rfl) T.isinstance PyProof.Rows.boot_isinstance (pa_cons (pv 9) (pa_cons (pe_bltn (v := .ty "list") rfl T.list PyProof.Rows.boot_list rfl) pa_nil)))))))))))))))))))))))), ?_⟩
    refine ⟨_, rfl, a, ns, 0, rfl, ha, by decide, fun i0 => ⟨_, rfl, fun lp ps H1 s1 _ hp p5 pok _ => ?_⟩⟩
    refine ⟨_, rfl, a, ns, 1, rfl, s1.seq ha, by decide, fun i1 => ⟨_, rfl, _, _, lp, ps, rfl, SqL.of hp, p5, by decide, by decide, fun lm ms H2 s2 _ hm ml mIn => ?_⟩⟩
    have s12 := s1.trans s2
    refine ⟨_, rfl, a, ns, 2, rfl, s12.seq ha, by decide, fun i2 => ⟨_, rfl, _, _, lp, ps, rfl, SqL.of (s2 _ _ hp), p5, by decide, by decide, fun lo os H3 s3 _ ho ol oIn => ?_⟩⟩
    have s13 := s12.trans s3
    refine ⟨_, rfl, _, rfl, a, ns, 4, rfl, s13.seq ha, by decide, fun i3 => ⟨_, lo, lm, os, ms, rfl, SqL.of ho, SqL.of (s3 _ _ hm), by omega, by omega, fun lq qs H4 s4 _ hq ql _ qIn => ?_⟩⟩
    refine ⟨lq, _, rfl, .inl ⟨SqL.of hq, fun ta n5 => ?_⟩⟩
    have s15 := (s13.trans s4).trans (same_upd (o := .tup (qs.map V.str)) n5)
    have hm5 := (s3.trans (s4.trans (same_upd (o := .tup (qs.map V.str)) n5))) _ _ hm
    have hp5 := (s2.trans (s3.trans (s4.trans (same_upd (o := .tup (qs.map V.str)) n5)))) _ _ hp
    refine ⟨_, rfl, a, ns, 3, rfl, s15.seq ha, by decide, fun i2 => ⟨_, rfl, _, _, lp, ps, rfl, SqL.of hp5, p5, by decide, by decide, fun lo' os' H6 s6 _ ho' ol' oIn' => ?_⟩⟩
    refine ⟨_, rfl, _, rfl, a, ns, 5, rfl, (s15.trans s6).seq ha, by decide, fun i3 => ⟨_, lo', lm, os', ms, rfl, SqL.of ho', SqL.of (s6 _ _ hm5), by omega, by omega, fun lr rs H7 s7 _ hr' rl _ rIn => ?_⟩⟩
    refine ⟨lr, _, rfl, .inl ⟨SqL.of hr', fun tb n8 => ?_⟩⟩
    have u8 := same_upd (o := .tup (rs.map V.str)) n8
    have hta0 : upd H7 tb (.tup (rs.map V.str)) ta = some (.tup (qs.map V.str)) := (s6.trans (s7.trans u8)) _ _ upd_same
    have htb0 : upd H7 tb (.tup (rs.map V.str)) tb = some (.tup (rs.map V.str)) := upd_same
    have hp8 := (s6.trans (s7.trans u8)) _ _ hp5
    have ha8 := ((s15.trans s6).trans (s7.trans u8)).seq ha
    have qOk : ∀ q ∈ qs, lineB q = true := fun q hq => pok q ((qIn q hq).elim (oIn q) (mIn q))
    have rOk : ∀ r ∈ rs, lineB r = true := fun q hq => pok q ((rIn q hq).elim (oIn' q) (mIn q))
    have q50 : qs.length ≤ 50 := by omega
    have r50 : rs.length ≤ 50 := by omega
    generalize upd H7 tb (.tup (rs.map V.str)) = H8 at hta0 htb0 hp8 ha8
    have hta := SqT.of (K := K) hta0
    have htb := SqT.of (K := K) htb0
    have q1 : qs.length ≤ 100 := by omega
    have r1 : rs.length ≤ 100 := by omega
    have pl := path_len (xs := qs) (ys := rs) (qs.length + rs.length) 0 0 (by omega)
    have pt := tab_le (xs := qs) (ys := rs) (i := 0) (k := 0)
    refine ⟨_, rfl, _, rfl, _, rfl, _, rfl, ta, tb, qs, rs, rfl, hta, htb, q1, r1, fun x hx => lineB_Ok (qOk x hx), fun x hx => lineB_Ok (rOk x hx), fun lk H9 s9 _ hK => ?_⟩
    refine ⟨ta, tb, lk, qs, rs, _, rfl, s9.tupS hta, s9.tupS htb, hK, path_rise _ 0 0, q1, r1, by omega, fun ld H10 s10 hD => ?_⟩
    have hD : Dt K H10 (.list ((spans qs rs).map rowDat)) (.ref ld) := hD
    have t10 := s9.trans s10
    refine ⟨_, rfl, _, rfl, ta, tb, qs, rs, rfl, t10.tupS hta, t10.tupS htb, q1, r1, qOk, rOk, fun lf H11 s11 _ hF => ?_⟩
    obtain ⟨sh, ev⟩ := shaped_rows (fine_spans (xs := qs) rOk)
    have t11 := t10.trans s11
    have hD11 := Dt.same s11 _ _ hD
    refine ⟨_, rfl, _, _, _, _, rfl, hF.dw, T.is (by simp [kinds]), true, rfl, iteNF ?_⟩
    refine ⟨_, rfl, _, rfl, neD_false hF hD11 sh ev ⟨_, rfl, iteF ?_⟩⟩
    refine ⟨_, rfl, _, rfl, ta, ta, qs, qs, rfl, t11.tupS hta, t11.tupS hta, q1, q1, qOk, qOk, fun l1 H12 s12' _ hE => ⟨Nat.zero_le _, fun l2 n2 => ?_⟩⟩
    rw [spans_self] at hE
    have t12 := t11.trans (s12'.trans (same_upd (o := .lst []) n2))
    refine neD_false (d := .list []) (Dt.same (same_upd n2) _ _ hE) ⟨l2, _, rfl, SqL.of upd_same, rfl⟩ (by decide +kernel) (by decide +kernel) ⟨_, rfl, iteF ?_⟩
    refine ⟨_, rfl, _, rfl, tb, tb, rs, rs, rfl, t12.tupS htb, t12.tupS htb, r1, r1, rOk, rOk, fun l3 H13 s13' _ hE3 => ⟨Nat.zero_le _, fun l4 n4 => ?_⟩⟩
    rw [spans_self] at hE3
    have t13 := t12.trans (s13'.trans (same_upd (o := .lst []) n4))
    have f13 := (s12'.trans (same_upd (o := .lst []) n2)).trans (s13'.trans (same_upd (o := .lst []) n4))
    refine neD_false (d := .list []) (Dt.same (same_upd n4) _ _ hE3) ⟨l4, _, rfl, SqL.of upd_same, rfl⟩ (by decide +kernel) (by decide +kernel) ⟨_, rfl, iteF ?_⟩
    show tSeq _ _ _ _ (upd H13 l4 (.lst []))
    generalize upd H13 l4 (.lst []) = G at t13 f13
    have hFG := Dt.same f13 _ _ hF
    have hDG := Dt.same f13 _ _ hD11
    obtain ⟨lf', vs, ef, hl, hvs⟩ := id hFG
    have ef : lf = lf' := by injection ef
    subst ef
    have vl := hvs.length
    rw [List.length_map] at vl
    have sl := spans_len (xs := qs) (ys := rs) q50
    have isSpan : ∀ r ∈ spans qs rs, ∃ (i k : Nat) (ls : List Str), r = spanR i k ls ∧ ls.length ≤ rs.length ∧ ∀ l ∈ ls, l ∈ rs := fun r hr => spanT_lines r hr
    refine ⟨_, rfl, lf, rfl, ⟨_, hl⟩, for_list (K := K) (a := lf) (xs := vs) (fun i σ H' => ∃ o7 : Option V, σ = [some (.ref a), some (.ref lp), some (.ref lm), some (.ref ta), some (.ref tb), some (.ref ld), some (.ref lf), o7, none, none, none, none] ∧ H' = G)
      ⟨none, rfl, rfl⟩ (fun i σ H' _ ⟨_, _, e⟩ => by rw [e]; exact hl) ?_ ?_⟩
    · rintro i x σ H' hi ⟨o7, rfl, rfl⟩
      obtain ⟨r, t, v, er, rfl, ht, hd⟩ := rows_get hvs hi
      obtain ⟨i', k', ls, rfl, _, _⟩ := isSpan r (List.mem_of_getElem? er)
      have hrow : Dt K H' (rowDat (spanR i' k' ls)) (.ref t) := ⟨t, _, rfl, ht, _, _, rfl, rfl, _, _, rfl, rfl, _, _, rfl, hd, rfl⟩
      refine ⟨_, rfl, _, _, _, _, rfl, hrow.dw, T.is (by simp [kinds]), true, rfl, iteNF ?_⟩
      refine ⟨_, rfl, t, _, _, _, rfl, rfl, ht, rfl, _, _, _, _, rfl, hd.dw, T.is (by simp [kinds]), true, rfl, iteNF ?_⟩
      refine ⟨_, rfl, t, _, _, _, rfl, rfl, ht, rfl, _, rfl, true, rfl, iteNF ?_⟩
      exact ⟨_, rfl, t, _, _, _, rfl, rfl, ht, rfl, _, rfl, true, rfl, iteNF ⟨_, rfl, rfl⟩⟩
    · rintro σ H' ⟨o7, rfl, rfl⟩
      refine ⟨_, rfl, lf, spans qs rs, rfl, hFG, by omega, fun r hr => ?_, fun H14 s14 => ?_⟩
      · obtain ⟨i', k', ls, rfl, h1, _⟩ := isSpan r hr
        exact ⟨ls, rfl, by omega⟩
      refine ⟨_, rfl, _, rfl, true, rfl, iteNF ?_⟩
      refine ⟨_, rfl, _, rfl, lf, rfl, ⟨_, s14.seq hl⟩, comp_list0 (K := K) (a := lf) (xs := vs) (fun i ys σ H2 => ∃ o, σ = [o] ∧ H2 = H14 ∧ ys = (((spans qs rs).take i).map fun r => 2 + ((linesOf r.2.2).length : Int)).map V.int) ⟨none, rfl, rfl, rfl⟩ (le_line (by omega)) ?_ ?_ ?_⟩
      · rintro i ys σ H2 hi ⟨o, rfl, rfl, rfl⟩
        refine ⟨s14.seq hl, ?_⟩
        rw [List.length_map, List.length_map, List.length_take]; omega
      · rintro i x ys σ H2 hi ⟨o, rfl, rfl, rfl⟩
        obtain ⟨r, t, v, er, rfl, ht, hd⟩ := rows_get hvs hi
        have e1 : (spans qs rs).take (i + 1) = (spans qs rs).take i ++ [r] := by rw [List.take_add_one, er]; rfl
        obtain ⟨i', k', ls, rfl, _, _⟩ := isSpan r (List.mem_of_getElem? er)
        obtain ⟨tv, vs', rfl, htv, hvs'⟩ := hd
        rw [DtAll.strs_of hvs'] at htv
        refine ⟨_, rfl, t, _, _, _, rfl, rfl, s14.tupS ht, rfl, tv, _, rfl, .inr (s14.tupS htv), _, _, rfl, rfl, _, rfl, rfl, ?_⟩
        rw [e1, List.map_append, List.map_append]
        congr 1
        show [V.int (2 + (((ls.map V.str).length : Nat) : Int))] = [V.int (2 + (((linesOf (.tuple (ls.map .str))).length : Nat) : Int))]
        rw [linesOf_strs, List.length_map]
      · rintro ys σ H2 ⟨o, rfl, rfl, rfl⟩ p np
        have e0 : (spans qs rs).take vs.length = spans qs rs := by rw [vl, List.take_length]
        rw [e0]
        refine ⟨p, _, rfl, SqL.of upd_same, rfl, _, rfl, iteNS (by rw [cost_sum]) ?_⟩
        have z14 := s14.trans (same_upd (o := .lst (((spans qs rs).map fun r => 2 + ((linesOf r.2.2).length : Int)).map V.int)) np)
        have t14 := t13.trans z14
        have gd := spans_good (xs := qs) rOk
        have smS : ∀ r ∈ spans qs rs, small r.2.2 = true := fun r hr => by
          obtain ⟨i', k', ls, rfl, h1, h2⟩ := isSpan r hr
          exact small_lines (by omega) fun l hl => rOk l (h2 l hl)
        refine ⟨_, rfl, _, rfl, ta, lf, qs, spans qs rs, rfl, t14.tupS hta, Dt.same z14 _ _ hFG, q1, by omega, qOk, smS, fun _ pm H15 s15' hpm => ?_, fun g => by rw [gd] at g; cases g⟩
        rw [spans_patch] at hpm
        have t15 := t14.trans s15'
        have z15 := z14.trans s15'
        have hM : Dt K H15 (.tuple (rs.map .str)) (.ref pm) := ⟨pm, _, rfl, hpm, DtAll.strs _⟩
        have shR := (shaped_strs fun p hp => lineB_ok (rOk p hp)).2
        have shQ := (shaped_strs fun p hp => lineB_ok (qOk p hp)).2
        refine ⟨_, rfl, _, _, _, _, rfl, hM.dw, T.is (by simp [kinds]), true, rfl, iteNF ?_⟩
        refine ⟨_, rfl, _, rfl, neD_false hM ⟨tb, _, rfl, t15.tupS htb, DtAll.strs _⟩ shR (fine_lines rOk).2.2 ⟨_, rfl, iteF ?_⟩⟩
        refine ⟨_, rfl, _, rfl, neD_false (Dt.same z15 _ _ hFG) (Dt.same z15 _ _ hDG) sh ev ⟨_, rfl, iteF ?_⟩⟩
        have gd2 := spans_good (xs := rs) qOk
        have sl2 := spans_len (xs := rs) (ys := qs) r50
        refine ⟨_, rfl, _, rfl, _, rfl, tb, ta, rs, qs, rfl, t15.tupS htb, t15.tupS hta, r1, q1, rOk, qOk, fun lg H16 s16 _ hG => ?_⟩
        refine ⟨tb, lg, rs, spans rs qs, rfl, (t15.trans s16).tupS htb, hG, r1, by omega, rOk, fun r hr => ?_, fun _ pm2 H17 s17 hpm2 => ?_, fun g => by rw [gd2] at g; cases g⟩
        · obtain ⟨i', k', ls, rfl, h1, h2⟩ := spanT_lines r hr
          exact small_lines (by omega) fun l hl => qOk l (h2 l hl)
        rw [spans_patch] at hpm2
        have t17 := t15.trans (s16.trans s17)
        refine ⟨_, rfl, neD_false (d := .tuple (qs.map .str)) ⟨pm2, _, rfl, hpm2, DtAll.strs _⟩ ⟨ta, _, rfl, t17.tupS hta, DtAll.strs _⟩ shQ (fine_lines qOk).2.2 ⟨_, rfl, iteF ?_⟩⟩
        refine ⟨_, rfl, _, rfl, _, rfl, a, ta, lp, ns, qs, ps, rfl, t17.seq ha8, t17.tupS hta, SqL.of (t17 _ _ hp8), p5, q1, pok, fun lw H18 ws s18 wl wt hW => ?_⟩
        have t18 := t17.trans s18
        obtain ⟨lw', ws', ew, hwl, hwa⟩ := id hW
        have ew : lw = lw' := by injection ew
        subst ew
        refine ⟨_, rfl, lw, _, rfl, .inl hwl, fun lh nh => ?_⟩
        have zh := same_upd (o := .lst ws') nh
        have hH : Dt K (upd H18 lh (.lst ws')) (.list (ws.map rowDat)) (.ref lh) := ⟨lh, _, rfl, SqL.of upd_same, DtAll.same zh _ _ hwa⟩
        have hW2 := Dt.same zh _ _ hW
        have t19 := t18.trans zh
        refine ⟨_, rfl, _, rfl, ta, lh, qs, ws, rfl, qOk, t19.tupS hta, hH, q1, wl, wt, fun vm H20 s20 fm => ?_⟩
        obtain ⟨d, d1, d2, d3, d4⟩ := fit_dt (K := K) (rs := ws) qOk
        refine ⟨_, rfl, _, rfl, _, rfl, ta, lw, qs, ws, rfl, (t19.trans s20).tupS hta, Dt.same s20 _ _ hW2, q1, wl, wt, fun vf H21 s21 ff => ?_⟩
        have hm20 := Dt.same s21 _ _ (d4 _ _ fm)
        obtain ⟨shW, evW⟩ := shaped_rows fun r hr => fine_third (wt r hr)
        refine ⟨d, d, hm20, d4 _ _ ff, d1, d1, _, rfl, ?_⟩
        rw [d2]
        refine iteT ⟨_, rfl, _, rfl, _, _, Dt.same (s20.trans s21) _ _ hH, Dt.same (s20.trans s21) _ _ hW2, shW, shW, _, rfl, ?_⟩
        rw [evW]
        refine iteT ⟨_, rfl, _, _, d, _, rfl, hm20.dw, T.is (by simp [kinds]), _, rfl, ?_⟩
        rw [d3]
        exact k _
end g_law
end
end An12

namespace An12
open PySem L2 An
theorem all_mk {l : PySem.W.OpenLaw} {w : World} {K : PySem.W.Frag} {h : Heap} {mg : Str → Option Value} {fa : Addr} {aN : Addr} {t1 t4 t5 : Tok} (X : K.In h) (G : h.Ns mainGlobals mg) (hfa : mg "law" = some (.ref fa))
    {f0 : Addr} {od0 an0 : Option Addr} {sl0 : Array (Option Value)} {oc0 kV0 dc0 pm0 cd0 ct0 : Value}
    (a0 : PySem.W.nsIn K mainGlobals "_law_whole" = some (some (.ref f0))) (l0 : K.lookup f0 = some ⟨oc0, od0, .func (PySem.W.fnOf "_law_whole" "_law_whole" (defArgs g_whole.st) (defBody g_whole.st) (defScope g_whole.st) .none kV0 dc0 pm0 an0 cd0 ct0), sl0⟩) (c0 : PySem.W.codeIn K cd0 "_law_whole" = true) (k0 : PySem.W.keepIn K (.ref f0) = true)
    {f1 : Addr} {od1 an1 : Option Addr} {sl1 : Array (Option Value)} {oc1 kV1 dc1 pm1 cd1 ct1 : Value}
    (a1 : PySem.W.nsIn K mainGlobals "_law_cell" = some (some (.ref f1))) (l1 : K.lookup f1 = some ⟨oc1, od1, .func (PySem.W.fnOf "_law_cell" "_law_cell" (defArgs g_cell.st) (defBody g_cell.st) (defScope g_cell.st) .none kV1 dc1 pm1 an1 cd1 ct1), sl1⟩) (c1 : PySem.W.codeIn K cd1 "_law_cell" = true) (k1 : PySem.W.keepIn K (.ref f1) = true)
    {f2 : Addr} {od2 an2 : Option Addr} {sl2 : Array (Option Value)} {oc2 kV2 dc2 pm2 cd2 ct2 : Value}
    (a2 : PySem.W.nsIn K mainGlobals "_law_mixed" = some (some (.ref f2))) (l2 : K.lookup f2 = some ⟨oc2, od2, .func (PySem.W.fnOf "_law_mixed" "_law_mixed" (defArgs g_mixed.st) (defBody g_mixed.st) (defScope g_mixed.st) .none kV2 dc2 pm2 an2 cd2 ct2), sl2⟩) (c2 : PySem.W.codeIn K cd2 "_law_mixed" = true) (k2 : PySem.W.keepIn K (.ref f2) = true)
    {f3 : Addr} {od3 an3 : Option Addr} {sl3 : Array (Option Value)} {oc3 kV3 dc3 pm3 cd3 ct3 : Value}
    (a3 : PySem.W.nsIn K mainGlobals "_law_text" = some (some (.ref f3))) (l3 : K.lookup f3 = some ⟨oc3, od3, .func (PySem.W.fnOf "_law_text" "_law_text" (defArgs g_text.st) (defBody g_text.st) (defScope g_text.st) .none kV3 dc3 pm3 an3 cd3 ct3), sl3⟩) (c3 : PySem.W.codeIn K cd3 "_law_text" = true) (k3 : PySem.W.keepIn K (.ref f3) = true)
    {f4 : Addr} {od4 an4 : Option Addr} {sl4 : Array (Option Value)} {oc4 kV4 dc4 pm4 cd4 ct4 : Value}
    (a4 : PySem.W.nsIn K mainGlobals "_law_pool" = some (some (.ref f4))) (l4 : K.lookup f4 = some ⟨oc4, od4, .func (PySem.W.fnOf "_law_pool" "_law_pool" (defArgs g_pool.st) (defBody g_pool.st) (defScope g_pool.st) .none kV4 dc4 pm4 an4 cd4 ct4), sl4⟩) (c4 : PySem.W.codeIn K cd4 "_law_pool" = true) (k4 : PySem.W.keepIn K (.ref f4) = true)
    {f5 : Addr} {od5 an5 : Option Addr} {sl5 : Array (Option Value)} {oc5 kV5 dc5 pm5 cd5 ct5 : Value}
    (a5 : PySem.W.nsIn K mainGlobals "_law_row" = some (some (.ref f5))) (l5 : K.lookup f5 = some ⟨oc5, od5, .func (PySem.W.fnOf "_law_row" "_law_row" (defArgs g_row.st) (defBody g_row.st) (defScope g_row.st) .none kV5 dc5 pm5 an5 cd5 ct5), sl5⟩) (c5 : PySem.W.codeIn K cd5 "_law_row" = true) (k5 : PySem.W.keepIn K (.ref f5) = true)
    {f6 : Addr} {od6 an6 : Option Addr} {sl6 : Array (Option Value)} {oc6 kV6 dc6 pm6 cd6 ct6 : Value}
    (a6 : PySem.W.nsIn K mainGlobals "_law_put_in" = some (some (.ref f6))) (l6 : K.lookup f6 = some ⟨oc6, od6, .func (PySem.W.fnOf "_law_put_in" "_law_put_in" (defArgs g_put_in.st) (defBody g_put_in.st) (defScope g_put_in.st) .none kV6 dc6 pm6 an6 cd6 ct6), sl6⟩) (c6 : PySem.W.codeIn K cd6 "_law_put_in" = true) (k6 : PySem.W.keepIn K (.ref f6) = true)
    {f7 : Addr} {od7 an7 : Option Addr} {sl7 : Array (Option Value)} {oc7 kV7 dc7 pm7 cd7 ct7 : Value}
    (a7 : PySem.W.nsIn K mainGlobals "_law_due" = some (some (.ref f7))) (l7 : K.lookup f7 = some ⟨oc7, od7, .func (PySem.W.fnOf "_law_due" "_law_due" (defArgs g_due.st) (defBody g_due.st) (defScope g_due.st) .none kV7 dc7 pm7 an7 cd7 ct7), sl7⟩) (c7 : PySem.W.codeIn K cd7 "_law_due" = true) (k7 : PySem.W.keepIn K (.ref f7) = true)
    {f8 : Addr} {od8 an8 : Option Addr} {sl8 : Array (Option Value)} {oc8 kV8 dc8 pm8 cd8 ct8 : Value}
    (a8 : PySem.W.nsIn K mainGlobals "_law_drawn" = some (some (.ref f8))) (l8 : K.lookup f8 = some ⟨oc8, od8, .func (PySem.W.fnOf "_law_drawn" "_law_drawn" (defArgs g_drawn.st) (defBody g_drawn.st) (defScope g_drawn.st) .none kV8 dc8 pm8 an8 cd8 ct8), sl8⟩) (c8 : PySem.W.codeIn K cd8 "_law_drawn" = true) (k8 : PySem.W.keepIn K (.ref f8) = true)
    {f9 : Addr} {od9 an9 : Option Addr} {sl9 : Array (Option Value)} {oc9 kV9 dc9 pm9 cd9 ct9 : Value}
    (a9 : PySem.W.nsIn K mainGlobals "_law_rows" = some (some (.ref f9))) (l9 : K.lookup f9 = some ⟨oc9, od9, .func (PySem.W.fnOf "_law_rows" "_law_rows" (defArgs g_rows.st) (defBody g_rows.st) (defScope g_rows.st) .none kV9 dc9 pm9 an9 cd9 ct9), sl9⟩) (c9 : PySem.W.codeIn K cd9 "_law_rows" = true) (k9 : PySem.W.keepIn K (.ref f9) = true)
    {f10 : Addr} {od10 an10 : Option Addr} {sl10 : Array (Option Value)} {oc10 kV10 dc10 pm10 cd10 ct10 : Value}
    (a10 : PySem.W.nsIn K mainGlobals "_law_fit" = some (some (.ref f10))) (l10 : K.lookup f10 = some ⟨oc10, od10, .func (PySem.W.fnOf "_law_fit" "_law_fit" (defArgs g_fit.st) (defBody g_fit.st) (defScope g_fit.st) .none kV10 dc10 pm10 an10 cd10 ct10), sl10⟩) (c10 : PySem.W.codeIn K cd10 "_law_fit" = true) (k10 : PySem.W.keepIn K (.ref f10) = true)
    {f11 : Addr} {od11 an11 : Option Addr} {sl11 : Array (Option Value)} {oc11 kV11 dc11 pm11 cd11 ct11 : Value}
    (a11 : PySem.W.nsIn K mainGlobals "is_sign" = some (some (.ref f11))) (l11 : K.lookup f11 = some ⟨oc11, od11, .func (PySem.W.fnOf "is_sign" "is_sign" (defArgs f_is_sign.st) (defBody f_is_sign.st) (defScope f_is_sign.st) .none kV11 dc11 pm11 an11 cd11 ct11), sl11⟩) (c11 : PySem.W.codeIn K cd11 "is_sign" = true) (k11 : PySem.W.keepIn K (.ref f11) = true)
    {f12 : Addr} {od12 an12 : Option Addr} {sl12 : Array (Option Value)} {oc12 kV12 dc12 pm12 cd12 ct12 : Value}
    (a12 : PySem.W.nsIn K mainGlobals "is_line" = some (some (.ref f12))) (l12 : K.lookup f12 = some ⟨oc12, od12, .func (PySem.W.fnOf "is_line" "is_line" (defArgs f_is_line.st) (defBody f_is_line.st) (defScope f_is_line.st) .none kV12 dc12 pm12 an12 cd12 ct12), sl12⟩) (c12 : PySem.W.codeIn K cd12 "is_line" = true) (k12 : PySem.W.keepIn K (.ref f12) = true)
    {f13 : Addr} {od13 an13 : Option Addr} {sl13 : Array (Option Value)} {oc13 kV13 dc13 pm13 cd13 ct13 : Value}
    (a13 : PySem.W.nsIn K mainGlobals "is_lines" = some (some (.ref f13))) (l13 : K.lookup f13 = some ⟨oc13, od13, .func (PySem.W.fnOf "is_lines" "is_lines" (defArgs f_is_lines.st) (defBody f_is_lines.st) (defScope f_is_lines.st) .none kV13 dc13 pm13 an13 cd13 ct13), sl13⟩) (c13 : PySem.W.codeIn K cd13 "is_lines" = true) (k13 : PySem.W.keepIn K (.ref f13) = true)
    {f14 : Addr} {od14 an14 : Option Addr} {sl14 : Array (Option Value)} {oc14 kV14 dc14 pm14 cd14 ct14 : Value}
    (a14 : PySem.W.nsIn K mainGlobals "need_spans" = some (some (.ref f14))) (l14 : K.lookup f14 = some ⟨oc14, od14, .func (PySem.W.fnOf "need_spans" "need_spans" (defArgs f_need_spans.st) (defBody f_need_spans.st) (defScope f_need_spans.st) .none kV14 dc14 pm14 an14 cd14 ct14), sl14⟩) (c14 : PySem.W.codeIn K cd14 "need_spans" = true) (k14 : PySem.W.keepIn K (.ref f14) = true)
    {f15 : Addr} {od15 an15 : Option Addr} {sl15 : Array (Option Value)} {oc15 kV15 dc15 pm15 cd15 ct15 : Value}
    (a15 : PySem.W.nsIn K mainGlobals "spans_done" = some (some (.ref f15))) (l15 : K.lookup f15 = some ⟨oc15, od15, .func (PySem.W.fnOf "spans_done" "spans_done" (defArgs f_spans_done.st) (defBody f_spans_done.st) (defScope f_spans_done.st) .none kV15 dc15 pm15 an15 cd15 ct15), sl15⟩) (c15 : PySem.W.codeIn K cd15 "spans_done" = true) (k15 : PySem.W.keepIn K (.ref f15) = true)
    {f16 : Addr} {od16 an16 : Option Addr} {sl16 : Array (Option Value)} {oc16 kV16 dc16 pm16 cd16 ct16 : Value}
    (a16 : PySem.W.nsIn K mainGlobals "patched" = some (some (.ref f16))) (l16 : K.lookup f16 = some ⟨oc16, od16, .func (PySem.W.fnOf "patched" "patched" (defArgs f_patched.st) (defBody f_patched.st) (defScope f_patched.st) .none kV16 dc16 pm16 an16 cd16 ct16), sl16⟩) (c16 : PySem.W.codeIn K cd16 "patched" = true) (k16 : PySem.W.keepIn K (.ref f16) = true)
    {f17 : Addr} {od17 an17 : Option Addr} {sl17 : Array (Option Value)} {oc17 kV17 dc17 pm17 cd17 ct17 : Value}
    (a17 : PySem.W.nsIn K mainGlobals "_law_patched" = some (some (.ref f17))) (l17 : K.lookup f17 = some ⟨oc17, od17, .func (PySem.W.fnOf "_law_patched" "_law_patched" (defArgs g_patched.st) (defBody g_patched.st) (defScope g_patched.st) .none kV17 dc17 pm17 an17 cd17 ct17), sl17⟩) (c17 : PySem.W.codeIn K cd17 "_law_patched" = true) (k17 : PySem.W.keepIn K (.ref f17) = true)
    {f18 : Addr} {od18 an18 : Option Addr} {sl18 : Array (Option Value)} {oc18 kV18 dc18 pm18 cd18 ct18 : Value}
    (a18 : PySem.W.nsIn K mainGlobals "table_row" = some (some (.ref f18))) (l18 : K.lookup f18 = some ⟨oc18, od18, .func (PySem.W.fnOf "table_row" "table_row" (defArgs f_table_row.st) (defBody f_table_row.st) (defScope f_table_row.st) .none kV18 dc18 pm18 an18 cd18 ct18), sl18⟩) (c18 : PySem.W.codeIn K cd18 "table_row" = true) (k18 : PySem.W.keepIn K (.ref f18) = true)
    {f19 : Addr} {od19 an19 : Option Addr} {sl19 : Array (Option Value)} {oc19 kV19 dc19 pm19 cd19 ct19 : Value}
    (a19 : PySem.W.nsIn K mainGlobals "common_table" = some (some (.ref f19))) (l19 : K.lookup f19 = some ⟨oc19, od19, .func (PySem.W.fnOf "common_table" "common_table" (defArgs f_common_table.st) (defBody f_common_table.st) (defScope f_common_table.st) .none kV19 dc19 pm19 an19 cd19 ct19), sl19⟩) (c19 : PySem.W.codeIn K cd19 "common_table" = true) (k19 : PySem.W.keepIn K (.ref f19) = true)
    {f20 : Addr} {od20 an20 : Option Addr} {sl20 : Array (Option Value)} {oc20 kV20 dc20 pm20 cd20 ct20 : Value}
    (a20 : PySem.W.nsIn K mainGlobals "kept_pairs" = some (some (.ref f20))) (l20 : K.lookup f20 = some ⟨oc20, od20, .func (PySem.W.fnOf "kept_pairs" "kept_pairs" (defArgs f_kept_pairs.st) (defBody f_kept_pairs.st) (defScope f_kept_pairs.st) .none kV20 dc20 pm20 an20 cd20 ct20), sl20⟩) (c20 : PySem.W.codeIn K cd20 "kept_pairs" = true) (k20 : PySem.W.keepIn K (.ref f20) = true)
    {f21 : Addr} {od21 an21 : Option Addr} {sl21 : Array (Option Value)} {oc21 kV21 dc21 pm21 cd21 ct21 : Value}
    (a21 : PySem.W.nsIn K mainGlobals "spans_of" = some (some (.ref f21))) (l21 : K.lookup f21 = some ⟨oc21, od21, .func (PySem.W.fnOf "spans_of" "spans_of" (defArgs f_spans_of.st) (defBody f_spans_of.st) (defScope f_spans_of.st) .none kV21 dc21 pm21 an21 cd21 ct21), sl21⟩) (c21 : PySem.W.codeIn K cd21 "spans_of" = true) (k21 : PySem.W.keepIn K (.ref f21) = true)
    {f22 : Addr} {od22 an22 : Option Addr} {sl22 : Array (Option Value)} {oc22 kV22 dc22 pm22 cd22 ct22 : Value}
    (a22 : PySem.W.nsIn K mainGlobals "cost_of" = some (some (.ref f22))) (l22 : K.lookup f22 = some ⟨oc22, od22, .func (PySem.W.fnOf "cost_of" "cost_of" (defArgs f_cost_of.st) (defBody f_cost_of.st) (defScope f_cost_of.st) .none kV22 dc22 pm22 an22 cd22 ct22), sl22⟩) (c22 : PySem.W.codeIn K cd22 "cost_of" = true) (k22 : PySem.W.keepIn K (.ref f22) = true)
    {f23 : Addr} {od23 an23 : Option Addr} {sl23 : Array (Option Value)} {oc23 kV23 dc23 pm23 cd23 ct23 : Value}
    (a23 : PySem.W.nsIn K mainGlobals "law" = some (some (.ref f23))) (l23 : K.lookup f23 = some ⟨oc23, od23, .func (PySem.W.fnOf "law" "law" (defArgs g_law.st) (defBody g_law.st) (defScope g_law.st) .none kV23 dc23 pm23 an23 cd23 ct23), sl23⟩) (c23 : PySem.W.codeIn K cd23 "law" = true) (k23 : PySem.W.keepIn K (.ref f23) = true)
    (z_len : PySem.W.nsIn K mainGlobals "len" = some none)
    (z_list : PySem.W.nsIn K mainGlobals "list" = some none)
    (z_tuple : PySem.W.nsIn K mainGlobals "tuple" = some none)
    (z_range : PySem.W.nsIn K mainGlobals "range" = some none)
    (z_isinstance : PySem.W.nsIn K mainGlobals "isinstance" = some none)
    (z_int : PySem.W.nsIn K mainGlobals "int" = some none)
    (z_bool : PySem.W.nsIn K mainGlobals "bool" = some none)
    (z_max : PySem.W.nsIn K mainGlobals "max" = some none)
    (z_sum : PySem.W.nsIn K mainGlobals "sum" = some none)
    (z_reversed : PySem.W.nsIn K mainGlobals "reversed" = some none)
    (z_all : PySem.W.nsIn K mainGlobals "all" = some none)
    (z_ord : PySem.W.nsIn K mainGlobals "ord" = some none)
    (z_str : PySem.W.nsIn K mainGlobals "str" = some none)
    (z_LONGEST_LINE : PySem.W.nsIn K mainGlobals "LONGEST_LINE" = some (some (.int 20 t1)))
    (z_PERCENT : PySem.W.nsIn K mainGlobals "PERCENT" = some (some (.int 37 t4)))
    (z_COST_OF_A_SPAN : PySem.W.nsIn K mainGlobals "COST_OF_A_SPAN" = some (some (.int 2 t5)))
    (z_NoFit : PySem.W.nsIn K mainGlobals "NoFit" = some (some (.ref aN)))
    (s_xNoFit : PySem.W.excIn K aN mroVE "ValueError.__new__" = true)
    (s_hib : PySem.W.kitOne K (.type "int") (.type "bool") = some false)
    (s_kit : ∀ a ∈ kinds, ∀ b ∈ kinds, PySem.W.kitOne K (.type a) (.type b) = some (a == b || (a == "bool" && b == "int")))
    (s_exm : PySem.W.exmOne K (.ref aN) (.ref aN) = some true) :
    ∃ fd : FuncData, (∀ (s : Shared) (v : Value), BindsTo s fd ⟨[v], []⟩ [("_law_script", v)]) ∧ ∀ base : Heap, K.In base → base.Ns mainGlobals mg → FnOk l.prog w K mg base CX0 7 fa fd ["_law_script"] (spLaw K) := by
  have e := hfa.symm.trans (PySem.W.mg_of X G a23)
  cases e
  have T : Txt K mg aN t1 t4 t5 := ⟨PySem.W.mg_none_of X G z_len, PySem.W.mg_none_of X G z_list, PySem.W.mg_none_of X G z_tuple, PySem.W.mg_none_of X G z_range, PySem.W.mg_none_of X G z_isinstance, PySem.W.mg_none_of X G z_int, PySem.W.mg_none_of X G z_bool, PySem.W.mg_none_of X G z_max, PySem.W.mg_none_of X G z_sum, PySem.W.mg_none_of X G z_reversed, PySem.W.mg_none_of X G z_all, PySem.W.mg_none_of X G z_ord, PySem.W.mg_none_of X G z_str, PySem.W.mg_of X G z_LONGEST_LINE, PySem.W.mg_of X G z_PERCENT, PySem.W.mg_of X G z_COST_OF_A_SPAN, PySem.W.mg_of X G z_NoFit, s_xNoFit, s_hib, s_kit, s_exm⟩
  have F0 := fun_mk (st := g_whole.st) l0 c0 k0
  have b0 := F0.binds (ps := ["_law_found"]) fun _ _ _ _ _ _ us hl => match us, hl with | [_], _ => rfl
  have F1 := fun_mk (st := g_cell.st) l1 c1 k1
  have b1 := F1.binds (ps := ["_law_script", "_law_k"]) fun _ _ _ _ _ _ us hl => match us, hl with | [_, _], _ => rfl
  have F2 := fun_mk (st := g_mixed.st) l2 c2 k2
  have b2 := F2.binds (ps := ["_law_cell_here", "_law_k"]) fun _ _ _ _ _ _ us hl => match us, hl with | [_, _], _ => rfl
  have F3 := fun_mk (st := g_text.st) l3 c3 k3
  have b3 := F3.binds (ps := ["_law_cell_here"]) fun _ _ _ _ _ _ us hl => match us, hl with | [_], _ => rfl
  have F4 := fun_mk (st := g_pool.st) l4 c4 k4
  have b4 := F4.binds (ps := ["_law_cell_here"]) fun _ _ _ _ _ _ us hl => match us, hl with | [_], _ => rfl
  have F5 := fun_mk (st := g_row.st) l5 c5 k5
  have b5 := F5.binds (ps := ["_law_cell_here", "_law_pool_here", "_law_most"]) fun _ _ _ _ _ _ us hl => match us, hl with | [_, _, _], _ => rfl
  have F6 := fun_mk (st := g_put_in.st) l6 c6 k6
  have b6 := F6.binds (ps := ["_law_row_here", "_law_more", "_law_cell_here"]) fun _ _ _ _ _ _ us hl => match us, hl with | [_, _, _], _ => rfl
  have F7 := fun_mk (st := g_due.st) l7 c7 k7
  have b7 := F7.binds (ps := ["_law_old", "_law_new", "_law_pairs"]) fun _ _ _ _ _ _ us hl => match us, hl with | [_, _, _], _ => rfl
  have F8 := fun_mk (st := g_drawn.st) l8 c8 k8
  have b8 := F8.binds (ps := ["_law_cell_here", "_law_old", "_law_pool_here", "_law_last"]) fun _ _ _ _ _ _ us hl => match us, hl with | [_, _, _, _], _ => rfl
  have F9 := fun_mk (st := g_rows.st) l9 c9 k9
  have b9 := F9.binds (ps := ["_law_script", "_law_old", "_law_pool_here"]) fun _ _ _ _ _ _ us hl => match us, hl with | [_, _, _], _ => rfl
  have F10 := fun_mk (st := g_fit.st) l10 c10 k10
  have b10 := F10.binds (ps := ["_law_old", "_law_rows_here"]) fun _ _ _ _ _ _ us hl => match us, hl with | [_, _], _ => rfl
  have F11 := fun_mk (st := f_is_sign.st) l11 c11 k11
  have b11 := F11.binds (ps := ["sign"]) fun _ _ _ _ _ _ us hl => match us, hl with | [_], _ => rfl
  have F12 := fun_mk (st := f_is_line.st) l12 c12 k12
  have b12 := F12.binds (ps := ["thing"]) fun _ _ _ _ _ _ us hl => match us, hl with | [_], _ => rfl
  have F13 := fun_mk (st := f_is_lines.st) l13 c13 k13
  have b13 := F13.binds (ps := ["thing"]) fun _ _ _ _ _ _ us hl => match us, hl with | [_], _ => rfl
  have F14 := fun_mk (st := f_need_spans.st) l14 c14 k14
  have b14 := F14.binds (ps := ["old", "rows"]) fun _ _ _ _ _ _ us hl => match us, hl with | [_, _], _ => rfl
  have F15 := fun_mk (st := f_spans_done.st) l15 c15 k15
  have b15 := F15.binds (ps := ["old", "rows"]) fun _ _ _ _ _ _ us hl => match us, hl with | [_, _], _ => rfl
  have F16 := fun_mk (st := f_patched.st) l16 c16 k16
  have b16 := F16.binds (ps := ["old", "rows"]) fun _ _ _ _ _ _ us hl => match us, hl with | [_, _], _ => rfl
  have F17 := fun_mk (st := g_patched.st) l17 c17 k17
  have b17 := F17.binds (ps := ["_law_old", "_law_rows_here"]) fun _ _ _ _ _ _ us hl => match us, hl with | [_, _], _ => rfl
  have F18 := fun_mk (st := f_table_row.st) l18 c18 k18
  have b18 := F18.binds (ps := ["line", "new", "behind"]) fun _ _ _ _ _ _ us hl => match us, hl with | [_, _, _], _ => rfl
  have F19 := fun_mk (st := f_common_table.st) l19 c19 k19
  have b19 := F19.binds (ps := ["old", "new"]) fun _ _ _ _ _ _ us hl => match us, hl with | [_, _], _ => rfl
  have F20 := fun_mk (st := f_kept_pairs.st) l20 c20 k20
  have b20 := F20.binds (ps := ["old", "new"]) fun _ _ _ _ _ _ us hl => match us, hl with | [_, _], _ => rfl
  have F21 := fun_mk (st := f_spans_of.st) l21 c21 k21
  have b21 := F21.binds (ps := ["old", "new"]) fun _ _ _ _ _ _ us hl => match us, hl with | [_, _], _ => rfl
  have F22 := fun_mk (st := f_cost_of.st) l22 c22 k22
  have b22 := F22.binds (ps := ["rows"]) fun _ _ _ _ _ _ us hl => match us, hl with | [_], _ => rfl
  have F23 := fun_mk (st := g_law.st) l23 c23 k23
  have b23 := F23.binds (ps := ["_law_script"]) fun _ _ _ _ _ _ us hl => match us, hl with | [_], _ => rfl
  refine ⟨PySem.W.fnOf "law" "law" (defArgs g_law.st) (defBody g_law.st) (defScope g_law.st) .none kV23 dc23 pm23 an23 cd23 ct23, fun s v => .of_eq rfl, fun base _ _ => ?_⟩
  have C0 := Cal.mk' F0 (g_whole.ok (P := l.prog) (w := w) (base := base) F0 T ) (PySem.W.mg_of X G a0) b0
  have C1 := Cal.mk' F1 (g_cell.ok (P := l.prog) (w := w) (base := base) F1 T ) (PySem.W.mg_of X G a1) b1
  have C2 := Cal.mk' F2 (g_mixed.ok (P := l.prog) (w := w) (base := base) F2 T ) (PySem.W.mg_of X G a2) b2
  have C3 := Cal.mk' F3 (g_text.ok (P := l.prog) (w := w) (base := base) F3 T C2) (PySem.W.mg_of X G a3) b3
  have C4 := Cal.mk' F4 (g_pool.ok (P := l.prog) (w := w) (base := base) F4 T C2 C3) (PySem.W.mg_of X G a4) b4
  have C5 := Cal.mk' F5 (g_row.ok (P := l.prog) (w := w) (base := base) F5 T C2) (PySem.W.mg_of X G a5) b5
  have C6 := Cal.mk' F6 (g_put_in.ok (P := l.prog) (w := w) (base := base) F6 T C2) (PySem.W.mg_of X G a6) b6
  have C7 := Cal.mk' F7 (g_due.ok (P := l.prog) (w := w) (base := base) F7 T ) (PySem.W.mg_of X G a7) b7
  have C8 := Cal.mk' F8 (g_drawn.ok (P := l.prog) (w := w) (base := base) F8 T C2 C5) (PySem.W.mg_of X G a8) b8
  have C9 := Cal.mk' F9 (g_rows.ok (P := l.prog) (w := w) (base := base) F9 T C1 C8) (PySem.W.mg_of X G a9) b9
  have C10 := Cal.mk' F10 (g_fit.ok (P := l.prog) (w := w) (base := base) F10 T ) (PySem.W.mg_of X G a10) b10
  have C11 := Cal.mk' F11 (f_is_sign.ok (P := l.prog) (w := w) (base := base) F11 T ) (PySem.W.mg_of X G a11) b11
  have C12 := Cal.mk' F12 (f_is_line.ok (P := l.prog) (w := w) (base := base) F12 T C11) (PySem.W.mg_of X G a12) b12
  have C13 := Cal.mk' F13 (f_is_lines.ok (P := l.prog) (w := w) (base := base) F13 T C12) (PySem.W.mg_of X G a13) b13
  have C14 := CalX.mk' F14 (f_need_spans.ok (P := l.prog) (w := w) (base := base) F14 T C13) (PySem.W.mg_of X G a14) b14
  have C15 := Cal.mk' F15 (f_spans_done.ok (P := l.prog) (w := w) (base := base) F15 T ) (PySem.W.mg_of X G a15) b15
  have C16 := CalX.mk' F16 (f_patched.ok (P := l.prog) (w := w) (base := base) F16 T C14 C15) (PySem.W.mg_of X G a16) b16
  have C17 := Cal.mk' F17 (g_patched.ok (P := l.prog) (w := w) (base := base) F17 T C16) (PySem.W.mg_of X G a17) b17
  have C18 := Cal.mk' F18 (f_table_row.ok (P := l.prog) (w := w) (base := base) F18 T ) (PySem.W.mg_of X G a18) b18
  have C19 := Cal.mk' F19 (f_common_table.ok (P := l.prog) (w := w) (base := base) F19 T C18) (PySem.W.mg_of X G a19) b19
  have C20 := Cal.mk' F20 (f_kept_pairs.ok (P := l.prog) (w := w) (base := base) F20 T C19) (PySem.W.mg_of X G a20) b20
  have C21 := Cal.mk' F21 (f_spans_of.ok (P := l.prog) (w := w) (base := base) F21 T C20) (PySem.W.mg_of X G a21) b21
  have C22 := Cal.mk' F22 (f_cost_of.ok (P := l.prog) (w := w) (base := base) F22 T ) (PySem.W.mg_of X G a22) b22
  exact g_law.ok F23 T C0 C1 C4 C5 C6 C7 C9 C10 C17 C20 C21 C22 C16
theorem walk {l : PySem.W.OpenLaw} {q : Program} {loose : List Str} {XP : (Str → Option Value) → Heap → Prop} {YP : World → Heap → Prop} {d : DefRec} {K : Params → PySem.W.Frag} (hn : l.most = some 63) (hdf : d.params.defaults = [])
    (hY : ∀ (w : World) (h : Heap), YP w h → (K w.params).In h)
    (F : ∀ (w : World) (mg : Str → Option Value) (fa : Addr) (h : Heap), (K w.params).In h → h.Ns mainGlobals mg → mg d.name = some (.ref fa) →
      ∃ fd : FuncData, (∀ (s : Shared) (u : Value), BindsTo s fd ⟨[u], []⟩ [("_law_script", u)]) ∧ ∀ base : Heap, (K w.params).In base → base.Ns mainGlobals mg → FnOk l.prog w (K w.params) mg base CX0 7 fa fd ["_law_script"] (spLaw (K w.params))) :
    PySem.W.WalkO q loose XP YP l.row.toRowW d [] (fun f vs => PySem.call f vs) :=
  L2.walk_of (n := 63) (k := 7) (x := "_law_script") (CX := fun _ => CX0) (sp := fun w => spLaw (K w.params)) hn (by decide) hdf ⟨rfl, by decide, by decide⟩ hY F (fun _ _ a ns hl _ hS => ⟨a, ns, rfl, hS, fun _ => rfl⟩) fun _ _ _ _ _ z => z
end An12
open PySem PySem.W PyProof.Rows
set_option maxRecDepth 100000 in
set_option maxHeartbeats 0 in
theorem PySem.Challenge.cw_annals_k12_spans_and_patched_holds : PySem.Challenge.rw_annals_k12_spans_and_patched.Holds := by
  w_on; o_law; k_head; (case hw => w_witness2)
  k_fill
  refine An12.walk (l := PySem.Challenge.rw_annals_k12_spans_and_patched) rfl rfl (fun w h Y => PySem.W.kIn_of Y) ?F
  case F =>
    intro w mg fa h KX G hmg
    refine' An12.all_mk KX G hmg ?a0 ?l0 ?c0 ?k0 ?a1 ?l1 ?c1 ?k1 ?a2 ?l2 ?c2 ?k2 ?a3 ?l3 ?c3 ?k3 ?a4 ?l4 ?c4 ?k4 ?a5 ?l5 ?c5 ?k5 ?a6 ?l6 ?c6 ?k6 ?a7 ?l7 ?c7 ?k7 ?a8 ?l8 ?c8 ?k8 ?a9 ?l9 ?c9 ?k9 ?a10 ?l10 ?c10 ?k10 ?a11 ?l11 ?c11 ?k11 ?a12 ?l12 ?c12 ?k12 ?a13 ?l13 ?c13 ?k13 ?a14 ?l14 ?c14 ?k14 ?a15 ?l15 ?c15 ?k15 ?a16 ?l16 ?c16 ?k16 ?a17 ?l17 ?c17 ?k17 ?a18 ?l18 ?c18 ?k18 ?a19 ?l19 ?c19 ?k19 ?a20 ?l20 ?c20 ?k20 ?a21 ?l21 ?c21 ?k21 ?a22 ?l22 ?c22 ?k22 ?a23 ?l23 ?c23 ?k23 ?z_len ?z_list ?z_tuple ?z_range ?z_isinstance ?z_int ?z_bool ?z_max ?z_sum ?z_reversed ?z_all ?z_ord ?z_str ?z_LONGEST_LINE ?z_PERCENT ?z_COST_OF_A_SPAN ?z_NoFit ?s_xNoFit ?s_hib ?s_kit ?s_exm
    (case a0 => k_is); (case l0 => k_is); (case c0 => k_is); (case k0 => k_is); (case a1 => k_is); (case l1 => k_is); (case c1 => k_is); (case k1 => k_is)
    (case a2 => k_is); (case l2 => k_is); (case c2 => k_is); (case k2 => k_is); (case a3 => k_is); (case l3 => k_is); (case c3 => k_is); (case k3 => k_is)
    (case a4 => k_is); (case l4 => k_is); (case c4 => k_is); (case k4 => k_is); (case a5 => k_is); (case l5 => k_is); (case c5 => k_is); (case k5 => k_is)
    (case a6 => k_is); (case l6 => k_is); (case c6 => k_is); (case k6 => k_is); (case a7 => k_is); (case l7 => k_is); (case c7 => k_is); (case k7 => k_is)
    (case a8 => k_is); (case l8 => k_is); (case c8 => k_is); (case k8 => k_is); (case a9 => k_is); (case l9 => k_is); (case c9 => k_is); (case k9 => k_is)
    (case a10 => k_is); (case l10 => k_is); (case c10 => k_is); (case k10 => k_is); (case a11 => k_is); (case l11 => k_is); (case c11 => k_is); (case k11 => k_is)
    (case a12 => k_is); (case l12 => k_is); (case c12 => k_is); (case k12 => k_is); (case a13 => k_is); (case l13 => k_is); (case c13 => k_is); (case k13 => k_is)
    (case a14 => k_is); (case l14 => k_is); (case c14 => k_is); (case k14 => k_is); (case a15 => k_is); (case l15 => k_is); (case c15 => k_is); (case k15 => k_is)
    (case a16 => k_is); (case l16 => k_is); (case c16 => k_is); (case k16 => k_is); (case a17 => k_is); (case l17 => k_is); (case c17 => k_is); (case k17 => k_is)
    (case a18 => k_is); (case l18 => k_is); (case c18 => k_is); (case k18 => k_is); (case a19 => k_is); (case l19 => k_is); (case c19 => k_is); (case k19 => k_is)
    (case a20 => k_is); (case l20 => k_is); (case c20 => k_is); (case k20 => k_is); (case a21 => k_is); (case l21 => k_is); (case c21 => k_is); (case k21 => k_is)
    (case a22 => k_is); (case l22 => k_is); (case c22 => k_is); (case k22 => k_is); (case a23 => k_is); (case l23 => k_is); (case c23 => k_is); (case k23 => k_is)
    (case z_len => k_is); (case z_list => k_is); (case z_tuple => k_is); (case z_range => k_is); (case z_isinstance => k_is); (case z_int => k_is); (case z_bool => k_is); (case z_max => k_is)
    (case z_sum => k_is); (case z_reversed => k_is); (case z_all => k_is); (case z_ord => k_is); (case z_str => k_is); (case z_LONGEST_LINE => k_is); (case z_PERCENT => k_is); (case z_COST_OF_A_SPAN => k_is)
    (case z_NoFit => k_is); (case s_xNoFit => first | k_is | kernel_rfl | rfl | (with_unfolding_all rfl) | decide +kernel +revert); (case s_hib => first | k_is | kernel_rfl | rfl | (with_unfolding_all rfl) | decide +kernel +revert); (case s_kit => (intro a ha b hb; simp only [An12.kinds, List.mem_cons, List.not_mem_nil, or_false] at ha hb; rcases ha with rfl | rfl | rfl | rfl | rfl | rfl | rfl <;> rcases hb with rfl | rfl | rfl | rfl | rfl | rfl | rfl <;> rfl)); (case s_exm => first | k_is | kernel_rfl | rfl | (with_unfolding_all rfl) | decide +kernel +revert)
