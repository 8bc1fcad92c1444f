import PyProof.Rows.All
import Wide.All
import OpenK.AllK
import Wide.FinOn
import Lean
import PyProof.EqAt
import PyProof.EqKinds
import PyProof.TupleCall
import KE.LcSums
import PyProof.FString5
import PyProof.Rows.Range3
import KE.KRevIter
import PyProof.StrBlock2
import PyProof.P3In
import PyProof.Rows.SumAny
import PyProof.SetKind
import PyProof.Rows.SetFrom
import PyProof.FactsAll.set
import PyProof.SetRoads
import KE.KDictSum
import PyProof.WalksMore
import PyProof.Rows.StrMeet
import KE.KTryMore
import PyProof.StationsW
import PyProof.FactsAll.dict_1
import PyProof.ExcArgsOwn
import PyProof.ExcAttrAll.ValueError
import KE.KIsAll
import PyProof.CollectIter
import PyProof.TupleOfStr
import PyProof.StrLawsIn
import PySem.Challenge.RW_annals_k02_things_or_not
-- CHANGE: your row's module here, as the last of these rows
set_option Elab.async false
set_option linter.all false
set_option maxRecDepth 100000
/-! THE HAND LAYER, for ints, bools, texts, own classes, LISTS and tuples (index, slices, in, append, pop ..), calls, loops. Paste it whole ahead of your own text; what your proof does not reach may be deleted. -/
namespace L2
open PySem PySem.Spec PyProof.Rows

/-- a key: an int or a str -/
abbrev Key := Sum Int Str
def keyIs : Key → Value → Bool
  | .inl k, v => Value.isInt k v
  | .inr x, v => Value.isStrOf x v
def keyH (w : World) : Key → Int
  | .inl k => hashInt k
  | .inr x => hashStr w x
theorem keyIs_shape : ∀ {k : Key} {v : Value}, keyIs k v = true → (∃ i t, k = Sum.inl i ∧ v = Value.int i t) ∨ (∃ x t, k = Sum.inr x ∧ v = Value.str x t)
  | .inl i, v, h => by
    obtain ⟨t, e⟩ := Value.isInt_shape (k := i) (v := v) h
    exact .inl ⟨i, t, rfl, e⟩
  | .inr x, v, h => by
    obtain ⟨t, e⟩ := Value.isStrOf_shape (x := x) (v := v) h
    exact .inr ⟨x, t, rfl, e⟩
theorem keyIs_int (i : Int) (t : Tok) : keyIs (.inl i) (.int i t) = true := by simp [keyIs, Value.isInt]
theorem keyIs_str (x : Str) (t : Tok) : keyIs (.inr x) (.str x t) = true := by simp [keyIs, Value.isStrOf]
theorem key_ll (a b : Int) : decide ((Sum.inl a : Key) = Sum.inl b) = (a == b) := by
  by_cases e : a = b
  · subst e; simp
  · have h : ¬ (Sum.inl a : Key) = Sum.inl b := fun q => e (Sum.inl.inj q)
    rw [decide_eq_false h]
    exact (beq_eq_false_iff_ne.mpr e).symm
theorem key_rr (a b : Str) : decide ((Sum.inr a : Key) = Sum.inr b) = decide (a = b) := by
  by_cases e : a = b
  · subst e; simp
  · have h : ¬ (Sum.inr a : Key) = Sum.inr b := fun q => e (Sum.inr.inj q)
    rw [decide_eq_false h, decide_eq_false e]
theorem key_lr (a : Int) (b : Str) : decide ((Sum.inl a : Key) = Sum.inr b) = false := decide_eq_false (fun q => nomatch q)
theorem key_rl (a : Str) (b : Int) : decide ((Sum.inr a : Key) = Sum.inl b) = false := decide_eq_false (fun q => nomatch q)

def mixKind (prog : Program) (w : World) : PySem.KeyKind prog w Key where
  is := keyIs
  hash := keyH w
  inj := fun v a b ha hb => by
    rcases keyIs_shape ha with ⟨i, t, rfl, rfl⟩ | ⟨x, t, rfl, rfl⟩
    · rcases keyIs_shape hb with ⟨j, u, rfl, e⟩ | ⟨y, u, rfl, e⟩
      · injection e with e1 _; rw [e1]
      · exact nomatch e
    · rcases keyIs_shape hb with ⟨j, u, rfl, e⟩ | ⟨y, u, rfl, e⟩
      · exact nomatch e
      · injection e with e1 _; rw [e1]
  byValue := fun k v h => by
    rcases keyIs_shape h with ⟨i, t, rfl, rfl⟩ | ⟨x, t, rfl, rfl⟩ <;> rfl
  pyHash := fun hv h => by
    rcases keyIs_shape hv with ⟨i, t, rfl, rfl⟩ | ⟨x, t, rfl, rfl⟩
    · exact wpAny_pyHash_int h
    · exact wpAny_pyHash_str h
  eqBool := fun hu hv h => by
    rcases keyIs_shape hu with ⟨i, t, rfl, rfl⟩ | ⟨x, t, rfl, rfl⟩
    · rcases keyIs_shape hv with ⟨j, u, rfl, rfl⟩ | ⟨y, u, rfl, rfl⟩
      · rw [key_ll] at h; exact wpAny_eqBool_int h
      · rw [key_lr] at h; exact SeqAt.EqAt.int_str i t y u _ _ _ _ h
    · rcases keyIs_shape hv with ⟨j, u, rfl, rfl⟩ | ⟨y, u, rfl, rfl⟩
      · rw [key_rl] at h; exact SeqAt.EqAt.str_int x t j u _ _ _ _ h
      · rw [key_rr] at h; exact wpAny_eqBool_str h
  «strs» := fun k x t v h => by
    rcases keyIs_shape h with ⟨i, u, rfl, e⟩ | ⟨y, u, rfl, e⟩
    · exact nomatch e
    · injection e with e1 _
      subst e1
      cases v <;> rfl

theorem mixKind_int (prog : Program) (w : World) (i : Int) (t : Tok) : (mixKind prog w).is (.inl i) (.int i t) = true := keyIs_int i t
theorem mixKind_str (prog : Program) (w : World) (x : Str) (t : Tok) : (mixKind prog w).is (.inr x) (.str x t) = true := keyIs_str x t
end L2

namespace L2
open PySem PySem.Spec PyProof.Rows

/-- a value, without the heap -/
inductive V where
  | non | bl (b : Bool) | int (i : Int) | str (x : Str) | byt (b : Array UInt8) | flt (b : UInt64) | ref (a : Addr) | ty (n : String)
  deriving DecidableEq

def RelV : V → Value → Prop
  | .non, u => u = Value.none
  | .bl b, u => u = Value.bool b
  | .int i, u => ∃ t, u = Value.int i t
  | .str x, u => ∃ t, u = Value.str x t
  | .byt b, u => ∃ t, u = Value.bytes b t
  | .flt b, u => ∃ t, u = Value.float b t
  | .ref a, u => u = Value.ref a
  | .ty n, u => u = Value.type n

abbrev Vals : List V → List Value → Prop := Paired RelV
theorem Vals.length {xs : List V} {us : List Value} (r : Vals xs us) : xs.length = us.length := Paired.length r
theorem Vals.get : ∀ {xs : List V} {us : List Value} {i : Nat} {x : V}, Vals xs us → xs[i]? = some x → ∃ u, us[i]? = some u ∧ RelV x u
  | _, _, _, _, .nil, e => by simp at e
  | _, _, 0, _, .cons r _, e => by simp at e; subst e; exact ⟨_, rfl, r⟩
  | _, _, i + 1, x, .cons _ t, e => by
    obtain ⟨u, h1, h2⟩ := Vals.get (i := i) (x := x) t (by simpa using e)
    exact ⟨u, by simpa using h1, h2⟩
theorem Vals.set {x : V} {u : Value} (r : RelV x u) : ∀ {xs : List V} {us : List Value} (i : Nat), Vals xs us → Vals (xs.set i x) (us.set i u)
  | _, _, _, .nil => .nil
  | _, _, 0, .cons _ t => .cons r t
  | _, _, i + 1, .cons q t => .cons q (Vals.set r i t)
theorem Vals.append : ∀ {xs ys : List V} {us ws : List Value}, Vals xs us → Vals ys ws → Vals (xs ++ ys) (us ++ ws)
  | _, _, _, _, .nil, s => s
  | _, _, _, _, .cons r t, s => .cons r (Vals.append t s)
theorem Vals.take : ∀ {xs : List V} {us : List Value} (n : Nat), Vals xs us → Vals (xs.take n) (us.take n)
  | _, _, 0, _ => .nil
  | _, _, _ + 1, .nil => .nil
  | _, _, n + 1, .cons r t => .cons r (Vals.take n t)
theorem Vals.drop : ∀ {xs : List V} {us : List Value} (n : Nat), Vals xs us → Vals (xs.drop n) (us.drop n)
  | _, _, 0, r => r
  | _, _, _ + 1, .nil => .nil
  | _, _, n + 1, .cons _ t => Vals.drop n t

def RelO : Option V → Option Value → Prop
  | some v, some u => RelV v u
  | none, none => True
  | _, _ => False
def KV {κ : Type} : List (κ × V) → List (κ × Value) → Prop := Paired fun (p : κ × V) (q : κ × Value) => p.1 = q.1 ∧ RelV p.2 q.2

/-- a key of a dict (00_mix): an int or a text -/
def kV : Key → V
  | .inl i => .int i
  | .inr x => .str x

/-- what stands at a tracked address -/
inductive HO where
  /-- a list -/
  | lst (xs : List V)
  /-- a tuple (never changes) -/
  | tup (xs : List V)
  /-- a dict whose keys are ints and texts; one whose keys are tuples of ints and texts (the empty one is both) -/
  | dK (kvs : List (Key × V)) | dT (kvs : List (List Key × V))
  /-- a set of ints: its members, its size -/
  | set (S : Int → Bool) (n : Nat)
  /-- an instance of the class at C, its dict at dx, its attributes -/
  | ins (C dx : Addr) (fs : List (Str × V))
  /-- the dict of the instance at x -/
  | own (x : Addr)
  /-- the dict of an exception -/
  | xd (fs : List (Str × V))
  /-- a bound method, f of x -/
  | met (f x : Addr)
  /-- a range object lo, lo + 1, .. below hi -/
  | rng (lo hi : Int)
  /-- a thing that is known to the object (the script; a dict while a loop walks it): read, never written while it is so -/
  | frz (o : Obj) (u : HO)
  /-- a code object's table -/
  | tbl (ps : Array Value)
  /-- any other thing, by what is true of its one object (a def of one's own: SetO a S n := HO.ext fun h => ..) -/
  | ext (φ : Heap → Prop)

abbrev Hp := Addr → Option HO
def upd (H : Hp) (a : Addr) (o : HO) : Hp := fun b => if b = a then some o else H b
theorem upd_same {H : Hp} {a : Addr} {o : HO} : upd H a o a = some o := by unfold upd; rw [if_pos rfl]
theorem upd_ne {H : Hp} {a b : Addr} {o : HO} (h : b ≠ a) : upd H a o b = H b := by unfold upd; rw [if_neg h]
theorem upd_upd {H : Hp} {a : Addr} {o u : HO} : upd (upd H a o) a u = upd H a u := by
  funext b; unfold upd; split <;> rfl
/-- two objects of different content stand apart -/
theorem ne_of {H : Hp} {a b : Addr} {o u : HO} (h : H a = some o) (h' : H b = some u) (d : o ≠ u) : a ≠ b := by
  intro e; subst e; rw [h] at h'; exact d (Option.some.inj h')
theorem ne_of_none {H : Hp} {a b : Addr} {o : HO} (h : H a = some o) (h' : H b = none) : a ≠ b := by
  intro e; subst e; rw [h] at h'; cases h'

section
variable (P : Program) (w : World)
def ObjOk (H : Hp) (h : Heap) (a : Addr) : HO → Prop
  | .lst xs => xs.length ≤ sizeLine ∧ ∃ (its : List Value) (n : Nat), Vals xs its ∧ h.get? a = some { cls := .type "list", data := .seq its.toArray n }
  | .tup xs => xs.length ≤ sizeLine ∧ ∃ its : List Value, Vals xs its ∧ IsTup h a its.toArray
  | .dK kvs => kvs.length ≤ sizeLine ∧ (a == sysModules) = false ∧ ∃ vs, KV kvs vs ∧ h.DictOf (mixKind P w) a vs
  | .dT kvs => kvs.length ≤ sizeLine ∧ (a == sysModules) = false ∧ ∃ xs : List (List Key × Addr × Value),
      Paired (fun (p : List Key × V) (q : List Key × Addr × Value) => p.1 = q.1 ∧ H q.2.1 = some (.tup (p.1.map kV)) ∧ RelV p.2 q.2.2) kvs xs ∧
      ∃ o es ep, h.get? a = some o ∧ o.ExactDict ∧ o.data = .dict es ep ∧ es.toList = xs.map (entryOfKey (tupleKind (mixKind P w))) ∧ (xs.map (·.1)).Nodup
  | .set S n => h.SetOf (intKind P w) a S n
  | .ins C dx fs => H dx = some (.own a) ∧ fs.length ≤ 1000 ∧ dx ≠ a ∧ h.get? a = some (PySem.W.instObj C dx) ∧
      ∃ mA, h.Ns1 dx mA ∧ (∀ f, RelO (fs.lookup f) (mA f)) ∧ PySem.Within mA (fs.map (·.1))
  | .own _ => ∃ o, h.get? a = some o
  | .xd fs => ∃ mA, h.Ns1 a mA ∧ ∀ f, RelO (fs.lookup f) (mA f)
  | .rng lo hi => ∃ t u v, h.get? a = some { cls := .type "range", data := .fields #[.int lo t, .int hi u, .int 1 v] }
  | .frz o u => h.get? a = some o ∧ ObjOk H h a u
  | .tbl ps => h.get? a = some { cls := .none, data := .fields ps }
  | .met f x => h.get? a = some (PySem.W.methodObj (.ref f) (.ref x))
  | .ext φ => φ h ∧ (∃ o, h.get? a = some o) ∧ ∀ h1 h2 : Heap, φ h1 → (∀ o, h1.get? a = some o → h2.get? a = some o) → φ h2
/-- the abstract heap is held -/
def HOk (H : Hp) (h : Heap) : Prop := ∀ a o, H a = some o → ObjOk P w H h a o
end

section
variable {P : Program} {w : World} {H H' : Hp} {h h' : Heap} {a : Addr} {o : HO}
theorem ObjOk.lt (x : ObjOk P w H h a o) : a < h.objs.size := by
  cases o with
  | lst xs => obtain ⟨_, _, _, _, e⟩ := x; exact Heap.lt_size e
  | tup xs => obtain ⟨_, _, _, p⟩ := x; exact p.lt
  | dK kvs => obtain ⟨_, _, _, _, o, _, _, e, _⟩ := x; exact Heap.lt_size e
  | dT kvs => obtain ⟨_, _, _, _, o, _, _, e, _⟩ := x; exact Heap.lt_size e
  | set S n => obtain ⟨o, _, _, _, e, _⟩ := x; exact Heap.lt_size e
  | ins C dx fs => obtain ⟨_, _, _, e, _⟩ := x; exact Heap.lt_size e
  | own y => obtain ⟨_, e⟩ := x; exact Heap.lt_size e
  | xd fs => obtain ⟨_, ⟨_, _, _, e, _⟩, _⟩ := x; exact Heap.lt_size e
  | rng lo hi => obtain ⟨_, _, _, e⟩ := x; exact Heap.lt_size e
  | frz ob u => obtain ⟨e, _⟩ := x; exact Heap.lt_size e
  | tbl ps => exact Heap.lt_size (show h.get? a = some _ from x)
  | met f y => exact Heap.lt_size (show h.get? a = some _ from x)
  | ext φ => obtain ⟨_, ⟨_, e⟩, _⟩ := x; exact Heap.lt_size e
theorem Paired.mapP {α β : Type} {F G : α → β → Prop} : ∀ {l₁ : List α} {l₂ : List β}, Paired F l₁ l₂ → (∀ a b, F a b → G a b) → Paired G l₁ l₂
  | _, _, .nil, _ => .nil
  | _, _, .cons r t, f => .cons (f _ _ r) (Paired.mapP t f)
/-- what an object's description leans on: its own object, its own dict, the tuples -/
theorem ObjOk.stay (x : ObjOk P w H h a o) (k : ∀ b u, (b = a ∨ H b = some (.own a)) → h.get? b = some u → h'.get? b = some u)
    (ho : ∀ b, H b = some (.own a) → H' b = some (.own a)) (ht : ∀ b xs, H b = some (.tup xs) → H' b = some (.tup xs)) : ObjOk P w H' h' a o := by
  induction o with
  | lst xs => obtain ⟨z, its, n, r, e⟩ := x; exact ⟨z, its, n, r, k _ _ (.inl rfl) e⟩
  | tup xs => obtain ⟨z, its, r, ob, e, c⟩ := x; exact ⟨z, its, r, ob, k _ _ (.inl rfl) e, c⟩
  | dK kvs => obtain ⟨z, y, vs, r, ob, es, ep, e, c⟩ := x; exact ⟨z, y, vs, r, ob, es, ep, k _ _ (.inl rfl) e, c⟩
  | dT kvs =>
    obtain ⟨z, y, xs, r, ob, es, ep, e, c⟩ := x
    exact ⟨z, y, xs, Paired.mapP r fun p q z => ⟨z.1, ht _ _ z.2.1, z.2.2⟩, ob, es, ep, k _ _ (.inl rfl) e, c⟩
  | set S n => obtain ⟨ob, es, ep, t, e, c⟩ := x; exact ⟨ob, es, ep, t, k _ _ (.inl rfl) e, c⟩
  | ins C dx fs =>
    obtain ⟨d, z, ne, e, mA, ⟨od, es, ep, e2, c⟩, r⟩ := x
    exact ⟨ho _ d, z, ne, k _ _ (.inl rfl) e, mA, ⟨od, es, ep, k _ _ (.inr d) e2, c⟩, r⟩
  | own y => obtain ⟨ob, e⟩ := x; exact ⟨ob, k _ _ (.inl rfl) e⟩
  | xd fs => obtain ⟨mA, ⟨od, es, ep, e, c⟩, r⟩ := x; exact ⟨mA, ⟨od, es, ep, k _ _ (.inl rfl) e, c⟩, r⟩
  | rng lo hi => obtain ⟨t, u, v, e⟩ := x; exact ⟨t, u, v, k _ _ (.inl rfl) e⟩
  | frz ob u ih => obtain ⟨e, q⟩ := x; exact ⟨k _ _ (.inl rfl) e, ih q⟩
  | tbl ps =>
    have e : h.get? a = some { cls := .none, data := .fields ps } := x
    show h'.get? a = some { cls := .none, data := .fields ps }
    exact k a _ (.inl rfl) e
  | met f y =>
    have e : h.get? a = some (PySem.W.methodObj (.ref f) (.ref y)) := x
    show h'.get? a = some (PySem.W.methodObj (.ref f) (.ref y))
    exact k a _ (.inl rfl) e
  | ext φ => obtain ⟨p, ⟨o, e⟩, st⟩ := x; exact ⟨st _ _ p fun o q => k _ _ (.inl rfl) q, ⟨o, k _ _ (.inl rfl) e⟩, st⟩
theorem HOk.lt (x : HOk P w H h) (e : H a = some o) : a < h.objs.size := (x a o e).lt
theorem HOk.fresh (x : HOk P w H h) (e : h.objs.size ≤ a) : H a = none := by
  cases q : H a with
  | none => rfl
  | some u => exact absurd (Nat.lt_of_lt_of_le (x.lt q) e) (Nat.lt_irrefl _)
/-- every object of the heap is kept -/
theorem HOk.kept (x : HOk P w H h) (k : ∀ b u, h.get? b = some u → h'.get? b = some u) : HOk P w H h' := fun a o e =>
  (x a o e).stay (fun b u _ q => k b u q) (fun _ q => q) fun _ _ q => q
/-- a new object is laid and tracked -/
theorem HOk.laid (x : HOk P w H h) (k : ∀ b u, h.get? b = some u → h'.get? b = some u) (hp : h.objs.size ≤ a) (new : ObjOk P w (upd H a o) h' a o) : HOk P w (upd H a o) h' := fun b u e => by
  have hn := x.fresh hp
  by_cases hb : b = a
  · subst hb; rw [upd_same] at e; cases e; exact new
  · rw [upd_ne hb] at e
    exact (x b u e).stay (fun c v _ q => k c v q) (fun c q => by rw [upd_ne (ne_of_none q hn)]; exact q) fun c xs q => by rw [upd_ne (ne_of_none q hn)]; exact q
end

/-- what may be read as u: it is u, or a known u -/
def Rd (H : Hp) (a : Addr) (u : HO) : Prop := H a = some u ∨ ∃ o, H a = some (.frz o u)
theorem Rd.ok {P : Program} {w : World} {H : Hp} {h : Heap} {a : Addr} {u : HO} (r : Rd H a u) (x : HOk P w H h) : ObjOk P w H h a u := by
  rcases r with r | ⟨o, r⟩
  · exact x a u r
  · obtain ⟨_, q⟩ := x a _ r
    exact q
/-- what may be written -/
def Mut : Option HO → Prop
  | some (.lst _) => True
  | some (.dK _) => True
  | some (.dT _) => True
  | some (.set _ _) => True
  | some (.ins _ _ _) => True
  | some (.ext _) => True
  | _ => False
section
variable {P : Program} {w : World} {H : Hp} {h h' : Heap} {x e : Addr} {o' : HO}
/-- the object at e is changed: x itself, or the dict of the instance x -/
theorem HOk.write (ok : HOk P w H h) (mu : Mut (H x)) (he : e = x ∨ H e = some (.own x)) (k : ∀ b u, b ≠ e → h.get? b = some u → h'.get? b = some u) (heo : ∃ u, h'.get? e = some u)
    (new : ObjOk P w (upd H x o') h' x o') : HOk P w (upd H x o') h' := fun b u q => by
  have nown : ∀ c y, H c = some (.own y) → c ≠ x := fun c y r z => by subst z; rw [r] at mu; exact mu
  have ntup : ∀ c xs, H c = some (.tup xs) → c ≠ x := fun c xs r z => by subst z; rw [r] at mu; exact mu
  by_cases hb : b = x
  · subst hb; rw [upd_same] at q; cases q; exact new
  · rw [upd_ne hb] at q
    by_cases hbe : b = e
    · have q' : H b = some (.own x) := by
        rcases he with z | z
        · exact absurd (hbe.trans z) hb
        · rw [hbe]; exact z
      rw [q] at q'; cases q'
      obtain ⟨v, hv⟩ := heo
      exact ⟨v, by rw [hbe]; exact hv⟩
    · refine (ok b u q).stay (fun c v hc r => k c v ?_ r) (fun c r => by rw [upd_ne (nown c b r)]; exact r) fun c xs r => by rw [upd_ne (ntup c xs r)]; exact r
      rcases hc with rfl | hc
      · exact hbe
      · rintro rfl
        rcases he with z | z
        · exact nown c b hc z
        · rw [hc] at z; cases z; exact hb rfl
end

/-! ### kept unless tracked; of the frames at fs (the callers') the slots may change (an exception that passes writes there); of the records at ex (iterators) nothing is said -/
structure Un (fs ex : List Addr) (H H' : Hp) (h h' : Heap) : Prop where
  keep : ∀ b o, h.get? b = some o → H b = none → b ∉ fs → b ∉ ex → h'.get? b = some o
  slot : ∀ b o, h.get? b = some o → H b = none → b ∈ fs → b ∉ ex → ∃ sl, h'.get? b = some { o with slots := sl }
  free : ∀ b o, h.get? b = some o → H b = none → b ∉ ex → H' b = none
  there : ∀ b o, h.get? b = some o → b ∉ ex → ∃ o', h'.get? b = some o'
  tups : ∀ b xs, H b = some (.tup xs) → H' b = some (.tup xs)
  frzs : ∀ b o u, H b = some (.frz o u) → H' b = some (.frz o u)
  tbls : ∀ b ps, H b = some (.tbl ps) → ∃ more, H' b = some (.tbl (ps ++ more))
section
variable {fs fs' ex ex' : List Addr} {H H1 H2 : Hp} {h h1 h2 h' : Heap} {a x e : Addr} {o : HO}
theorem Un.any (u : Un fs ex H H1 h h1) {b : Addr} {ob : Obj} (q : h.get? b = some ob) (n : H b = none) (hx : b ∉ ex) : ∃ sl, h1.get? b = some { ob with slots := sl } := by
  by_cases hb : b ∈ fs
  · exact u.slot b ob q n hb hx
  · exact ⟨ob.slots, u.keep b ob q n hb hx⟩
theorem Un.kept (k : ∀ b u, h.get? b = some u → h'.get? b = some u) : Un fs ex H H h h' :=
  ⟨fun b ob q _ _ _ => k b ob q, fun b ob q _ _ _ => ⟨ob.slots, k b ob q⟩, fun _ _ _ n _ => n, fun b ob q _ => ⟨ob, k b ob q⟩, fun _ _ q => q, fun _ _ _ q => q, fun _ ps q => ⟨#[], by rw [q]; simp⟩⟩
theorem Un.refl : Un fs ex H H h h := Un.kept fun _ _ q => q
theorem Un.laid (k : ∀ b u, h.get? b = some u → h'.get? b = some u) (hp : h.objs.size ≤ a) (hn : H a = none) : Un fs ex H (upd H a o) h h' where
  keep := fun b u q _ _ _ => k b u q
  slot := fun b u q _ _ _ => ⟨u.slots, k b u q⟩
  free := fun b u q n _ => by rw [upd_ne (Nat.ne_of_lt (Nat.lt_of_lt_of_le (Heap.lt_size q) hp))]; exact n
  there := fun b u q _ => ⟨u, k b u q⟩
  tups := fun b xs q => by rw [upd_ne (ne_of_none q hn)]; exact q
  frzs := fun b u xs q => by rw [upd_ne (ne_of_none q hn)]; exact q
  tbls := fun b ps q => ⟨#[], by rw [upd_ne (ne_of_none q hn), q]; simp⟩
theorem Un.write (mu : Mut (H x)) (he : e = x ∨ H e = some (.own x)) (k : ∀ b u, b ≠ e → h.get? b = some u → h'.get? b = some u) (heo : ∃ u, h'.get? e = some u) : Un fs ex H (upd H x o) h h' := by
  have hx : ∀ b, H b = none → b ≠ x := fun b n z => by subst z; rw [n] at mu; exact mu
  have hb : ∀ b, H b = none → b ≠ e := fun b n z => by
    subst z
    rcases he with r | r
    · exact hx b n r
    · rw [n] at r; cases r
  have hm : ∀ b u, H b = some u → ¬ Mut (some u) → b ≠ x := fun b u q nm z => by subst z; rw [q] at mu; exact nm mu
  refine ⟨fun b u q n _ _ => k b u (hb b n) q, fun b u q n _ _ => ⟨u.slots, k b u (hb b n) q⟩, fun b u q n _ => by rw [upd_ne (hx b n)]; exact n, fun b u q _ => ?_,
    fun b xs q => by rw [upd_ne (hm b _ q fun z => z)]; exact q, fun b u xs q => by rw [upd_ne (hm b _ q fun z => z)]; exact q, fun b ps q => ⟨#[], by rw [upd_ne (hm b _ q fun z => z), q]; simp⟩⟩
  by_cases hbe : b = e
  · subst hbe; exact heo
  · exact ⟨u, k b u hbe q⟩
end

/-! ### the heap without what is tracked -/
def trk (h : Heap) (H : Hp) : List Addr := (List.range h.objs.size).filter fun a => (H a).isSome
def hidT (h : Heap) (H : Hp) : Heap := PySem.W.hideAll h (trk h H)
theorem hidT_size (h : Heap) (H : Hp) : (hidT h H).objs.size = h.objs.size := PySem.W.hideAll_size _ _
theorem hidT_get {h : Heap} {H : Hp} {b : Addr} {o : Obj} (e : h.get? b = some o) (n : H b = none) : (hidT h H).get? b = some o :=
  PySem.W.hideAll_get _ e fun hm => by
    have q : (H b).isSome = true := (List.mem_filter.mp hm).2
    rw [n] at q; simp at q
theorem of_hidT {h : Heap} {H : Hp} {b : Addr} {o : Obj} (e : (hidT h H).get? b = some o) : h.get? b = some o ∧ H b = none := by
  have e' : h.get? b = some o := PySem.W.of_hideAll (trk h H) e
  refine ⟨e', ?_⟩
  cases q : H b with
  | none => rfl
  | some x =>
    have hm : b ∈ trk h H := List.mem_filter.mpr ⟨List.mem_range.mpr (Heap.lt_size e'), by simp [q]⟩
    have z : (hidT h H).get? b = none := PySem.W.hideAll_none (trk h H) hm
    rw [z] at e; cases e

/-! ### OpenK's ledger, filled with every new object but one -/
end L2

namespace L2
open PySem PySem.Spec PyProof.Rows

/-- the module's facts, over the base: the heap at the law's entry without what is tracked there -/
structure Mod (K : PySem.W.Frag) (mg : Str → Option Value) (base : Heap) : Prop where
  kin : K.In base
  glob : base.Ns mainGlobals mg
  blt : ∃ mb, base.Ns builtinsNs mb ∧ ∀ x : Str, x ≠ "__name__" → mb x = bootBuiltins x
  nolimit : base.NoLimit

/-- the context: a def's body (or a comprehension's block) running. base: fixed through the whole law; s₀, H₀: the entry; outer: the frames whose slots others may change (a def's callers); stack: all frames that run;
   ex: iterators that were made ahead of the entry and are walked here (a comprehension's); fn: the names whose cells were made at the entry (a def: all; a comprehension's block: its own); calm: not within an except suite; pn: pins that every state bears; xe: what is wanted of an exception that leaves the code -/
structure Cx where
  prog : Program
  w : World
  K : PySem.W.Frag
  mg : Str → Option Value
  base : Heap
  A : Around
  N : List Str
  s₀ : Shared
  H₀ : Hp
  env : Env
  outer : List Env
  stack : List Env
  ex : List Addr
  fn : Str → Bool
  calm : Bool
  pn : List (Addr × Obj)
  xe : Value → Shared → Prop
/-- the callers' frames -/
def frs (l : List Env) : List Addr := l.filterMap (·.frame)
abbrev Cx.fs (X : Cx) : List Addr := frs X.outer

def Vis (sc : Scope) (x : Str) : Prop := sc.names.lookup x = some .local ∨ sc.names.lookup x = some .cell ∨ sc.names.lookup x = some .free
def Loc (sc : Scope) (x : Str) : Prop := sc.names.lookup x = some .local ∨ sc.names.lookup x = some .cell
def Look (env : Env) (h : Heap) (m : Str → Option Value) (x : Str) (u : Value) : Prop :=
  (env.kindOf x = some .local ∧ m x = some u) ∨ ((env.kindOf x = some .cell ∨ env.kindOf x = some .free) ∧ ∃ c, env.cells.lookup x = some c ∧ h.IsCell c (some u))

structure Cx.Ok (X : Cx) : Prop where
  mod : Mod X.K X.mg X.base
  kind : X.env.scope.kind = .function
  glob : X.env.globals = mainGlobals
  blt : X.env.builtins = builtinsNs
  above : X.s₀.heap.objs.size ≤ X.env.locals
  inj : ∀ x y c, X.env.cells.lookup x = some c → X.env.cells.lookup y = some c → x = y
  has : ∀ x, (X.env.kindOf x = some .cell ∨ X.env.kindOf x = some .free) → ∃ c, X.env.cells.lookup x = some c
  cab : ∀ x c, X.fn x = true → X.env.cells.lookup x = some c → X.s₀.heap.objs.size ≤ c
  hd : X.calm = true → X.A.handled = none
  frames : X.A.frames = some X.stack
  stk : X.stack = X.outer ∨ (X.stack = X.env :: X.outer ∧ X.env.frame = some X.env.locals)
  exf : ∀ b ∈ X.ex, b ≠ X.env.locals ∧ ∀ x c, X.env.cells.lookup x = some c → c ≠ b
  bs : ∀ b o, X.base.get? b = some o → X.s₀.heap.get? b = some o ∧ X.H₀ b = none
  bsz : X.base.objs.size ≤ X.s₀.heap.objs.size
  noex : ∀ b o, X.base.get? b = some o → b ∉ X.ex
  exfs : ∀ b ∈ X.ex, b ∉ X.fs
  funs : X.s₀.heap.FunFrames X.base X.outer
  frf : ∀ b ∈ X.fs, X.H₀ b = none

structure Inv (X : Cx) (pins : List (Addr × Obj)) (σ : List (Option V)) (H : Hp) (s : Shared) : Prop where
  ok : X.Ok
  os : s.os = X.s₀.os
  bare : AllBare s.gens
  base : Un X.fs X.ex X.H₀ H X.s₀.heap s.heap
  loc : ∃ m, s.heap.Ns X.env.locals m ∧ ∀ (i : Nat) (x : Str) (v : V), X.N[i]? = some x → σ[i]? = some (some v) → Vis X.env.scope x → ∃ u, RelV v u ∧ Look X.env s.heap m x u
  cell : ∀ x c, X.env.cells.lookup x = some c → ∃ v, s.heap.IsCell c v
  free : H X.env.locals = none
  freeC : ∀ x c, X.env.cells.lookup x = some c → H c = none
  pin : ∀ p ∈ X.pn ++ pins, s.heap.get? p.1 = some p.2 ∧ H p.1 = none ∧ p.1 ≠ X.env.locals ∧ p.1 ∉ X.fs ∧ ∀ v, p.2.data ≠ .cell v
  hok : HOk X.prog X.w H s.heap
  len : σ.length = X.N.length

section
variable {X : Cx} {pins : List (Addr × Obj)} {σ : List (Option V)} {H H' : Hp} {s : Shared} {h' : Heap}

theorem Cx.Ok.nofr (ok : X.Ok) {b : Addr} {o : Obj} (e : X.base.get? b = some o) : b ∉ X.fs := fun hb => by
  have := (ok.funs.mem hb).1
  rw [e] at this; cases this
theorem Inv.bs (I : Inv X pins σ H s) : ∀ b o, X.base.get? b = some o → s.heap.get? b = some o ∧ H b = none := fun b o e =>
  ⟨I.base.keep b o (I.ok.bs b o e).1 (I.ok.bs b o e).2 (I.ok.nofr e) (I.ok.noex b o e), I.base.free b o (I.ok.bs b o e).1 (I.ok.bs b o e).2 (I.ok.noex b o e)⟩
theorem Inv.bk (I : Inv X pins σ H s) : ∀ b o, X.base.get? b = some o → s.heap.get? b = some o := fun b o e => (I.bs b o e).1
theorem Inv.mod (I : Inv X pins σ H s) : Mod X.K X.mg X.base := I.ok.mod
theorem Inv.kIn (I : Inv X pins σ H s) : X.K.In s.heap := I.ok.mod.kin.keeps I.bk
theorem Inv.lt (I : Inv X pins σ H s) : X.env.locals < s.heap.objs.size := let ⟨_, hn, _⟩ := I.loc; hn.lt
theorem Inv.sz (I : Inv X pins σ H s) : X.s₀.heap.objs.size ≤ s.heap.objs.size := Nat.le_trans I.ok.above (Nat.le_of_lt I.lt)
theorem Inv.nofs (I : Inv X pins σ H s) {a : Addr} (h : s.heap.objs.size ≤ a) : a ∉ X.fs := fun hb => by
  obtain ⟨_, o, ho, _⟩ := I.ok.funs.mem hb
  exact absurd (Nat.lt_of_lt_of_le (Heap.lt_size ho) (Nat.le_trans I.sz h)) (Nat.lt_irrefl _)
theorem Inv.cne (I : Inv X pins σ H s) : ∀ x c, X.env.cells.lookup x = some c → c ≠ X.env.locals := fun x c e z => by
  obtain ⟨v, o, ho, hd⟩ := I.cell x c e
  obtain ⟨m, ⟨o', es, ep, ho', hd', _⟩, _⟩ := I.loc
  rw [z, ho'] at ho; cases ho; rw [hd'] at hd; cases hd
theorem Inv.funs (I : Inv X pins σ H s) : s.heap.FunFrames X.base X.outer := by
  have all : ∀ (l : List Env), (∀ b ∈ frs l, b ∈ X.fs) → X.s₀.heap.FunFrames X.base l → s.heap.FunFrames X.base l := by
    intro l
    induction l with
    | nil => intro _ _; trivial
    | cons env r ih =>
      intro hs hl
      obtain ⟨hk, ⟨L, o, hf, hn, ho, hd⟩, hr⟩ := hl
      have hL : L ∈ X.fs := hs L (by unfold frs; rw [List.filterMap_cons, hf]; exact List.mem_cons_self)
      obtain ⟨sl, e⟩ := I.base.slot L o ho (I.ok.frf L hL) hL fun z => I.ok.exfs L z hL
      exact ⟨hk, ⟨L, _, hf, hn, e, hd⟩, ih (fun b hb => hs b (by unfold frs; rw [List.filterMap_cons, hf]; exact List.mem_cons_of_mem _ hb)) hr⟩
  exact all X.outer (fun _ hb => hb) I.ok.funs

/-- the frames that run, for a call -/
theorem Inv.stack (I : Inv X pins σ H s) : s.heap.FunFrames X.base X.stack := by
  rcases I.ok.stk with e | ⟨e, hf⟩
  · rw [e]; exact I.funs
  · rw [e]
    obtain ⟨m, hn, _⟩ := I.loc
    refine .cons (by rw [I.ok.kind]; decide) hf hn ?_ I.funs
    exact Heap.get?_none_of_le (Nat.le_trans I.ok.bsz I.ok.above)
theorem Inv.stkSub (I : Inv X pins σ H s) : ∀ b ∈ frs X.stack, b ∈ X.env.locals :: X.fs := fun b hb => by
  rcases I.ok.stk with e | ⟨e, hf⟩
  · rw [e] at hb; exact List.mem_cons_of_mem _ hb
  · rw [e] at hb
    unfold frs at hb
    rw [List.filterMap_cons, hf] at hb
    exact hb
theorem Inv.stkFree (I : Inv X pins σ H s) : ∀ b ∈ frs X.stack, H b = none := fun b hb => by
  rcases List.mem_cons.mp (I.stkSub b hb) with e | hb
  · rw [e]; exact I.free
  · obtain ⟨_, o, ho, _⟩ := I.ok.funs.mem hb
    exact I.base.free b o ho (I.ok.frf b hb) fun z => I.ok.exfs b z hb

/-- THE STEP: the untracked objects but the frame and the records at ch are kept (the callers' frames up to slots), the frame's map is kept, the new abstract heap is held -/
theorem Inv.step {g' : Array GenState} {t' : Nat} {d' : Drawn} {ch : List Addr} (I : Inv X pins σ H s)
    (hch : ∀ b ∈ ch, (b ∈ X.ex ∨ X.s₀.heap.objs.size ≤ b) ∧ b ≠ X.env.locals ∧ (∀ x c, X.env.cells.lookup x = some c → c ≠ b) ∧ ∀ p ∈ X.pn ++ pins, p.1 ≠ b)
    (keep : ∀ b o, b ≠ X.env.locals → b ∉ X.fs → b ∉ ch → s.heap.get? b = some o → H b = none → h'.get? b = some o)
    (slot : ∀ b o, b ≠ X.env.locals → b ∈ X.fs → b ∉ ch → s.heap.get? b = some o → H b = none → ∃ sl, h'.get? b = some { o with slots := sl }) (free : ∀ b o, b ∉ ch → s.heap.get? b = some o → H b = none → H' b = none)
    (there : ∀ b o, b ∉ ch → s.heap.get? b = some o → ∃ o', h'.get? b = some o')
    (tups : ∀ b xs, H b = some (.tup xs) → H' b = some (.tup xs)) (frzs : ∀ b o u, H b = some (.frz o u) → H' b = some (.frz o u)) (tbls : ∀ b ps, H b = some (.tbl ps) → ∃ more, H' b = some (.tbl (ps ++ more)))
    (ns : ∀ m, s.heap.Ns X.env.locals m → h'.Ns X.env.locals m) (hok : HOk X.prog X.w H' h') (hg : AllBare g') :
    Inv X pins σ H' { s with heap := h', gens := g', drawn := d', toks := t' } := by
  have neL : ∀ b o, X.s₀.heap.get? b = some o → b ≠ X.env.locals := fun b o e => Nat.ne_of_lt (Nat.lt_of_lt_of_le (Heap.lt_size e) I.ok.above)
  have neC : ∀ b o, X.s₀.heap.get? b = some o → b ∉ X.ex → b ∉ ch := fun b o e hx hb => by
    rcases (hch b hb).1 with z | z
    · exact hx z
    · exact absurd (Nat.lt_of_lt_of_le (Heap.lt_size e) z) (Nat.lt_irrefl _)
  have cellK : ∀ x c, X.env.cells.lookup x = some c → ∀ v, s.heap.IsCell c v → h'.IsCell c v := fun x c e v ⟨o, ho, hd⟩ => by
    have nch : c ∉ ch := fun z => (hch c z).2.2.1 x c e rfl
    by_cases hc : c ∈ X.fs
    · obtain ⟨sl, q⟩ := slot c o (I.cne x c e) hc nch ho (I.freeC x c e)
      exact ⟨_, q, hd⟩
    · exact ⟨o, keep c o (I.cne x c e) hc nch ho (I.freeC x c e), hd⟩
  refine ⟨I.ok, I.os, hg, ⟨fun b o e n hb hx => ?_, fun b o e n hb hx => ?_, fun b o e n hx => ?_, fun b o e hx => ?_, fun b xs e => tups b xs (I.base.tups b xs e), fun b o xs e => frzs b o xs (I.base.frzs b o xs e), fun b ps e => ?_⟩, ?_, fun x c e => ?_, ?_, fun x c e => ?_, fun p hp => ?_, hok, I.len⟩
  · exact keep b o (neL b o e) hb (neC b o e hx) (I.base.keep b o e n hb hx) (I.base.free b o e n hx)
  · obtain ⟨sl, e1⟩ := I.base.slot b o e n hb hx
    obtain ⟨sl', e2⟩ := slot b _ (neL b o e) hb (neC b o e hx) e1 (I.base.free b o e n hx)
    exact ⟨sl', e2⟩
  · obtain ⟨o', e1⟩ := I.base.there b o e hx
    exact free b o' (neC b o e hx) e1 (I.base.free b o e n hx)
  · obtain ⟨o', e1⟩ := I.base.there b o e hx
    exact there b o' (neC b o e hx) e1
  · obtain ⟨m1, e1⟩ := I.base.tbls b ps e
    obtain ⟨m2, e2⟩ := tbls b _ e1
    exact ⟨m1 ++ m2, by rw [e2, Array.append_assoc]⟩
  · obtain ⟨m, hn, hl⟩ := I.loc
    refine ⟨m, ns m hn, fun i x v e1 e2 e3 => ?_⟩
    obtain ⟨u, r, l⟩ := hl i x v e1 e2 e3
    refine ⟨u, r, ?_⟩
    rcases l with l | ⟨k, c, e, z⟩
    · exact .inl l
    · exact .inr ⟨k, c, e, cellK x c e _ z⟩
  · obtain ⟨v, z⟩ := I.cell x c e
    exact ⟨v, cellK x c e v z⟩
  · obtain ⟨m, ⟨o, _, _, ho, _⟩, _⟩ := I.loc
    exact free _ o (fun z => (hch _ z).2.1 rfl) ho I.free
  · obtain ⟨v, o, ho, hd⟩ := I.cell x c e
    exact free c o (fun z => (hch c z).2.2.1 x c e rfl) ho (I.freeC x c e)
  · obtain ⟨e, n, ne, nf, d⟩ := I.pin p hp
    have nch : p.1 ∉ ch := fun z => (hch p.1 z).2.2.2 p hp rfl
    exact ⟨keep p.1 p.2 ne nf nch e n, free p.1 p.2 nch e n, ne, nf, d⟩
/-- .. where the frame's own object is kept too -/
theorem Inv.un {t' : Nat} (I : Inv X pins σ H s) (u : Un X.fs [] H H' s.heap h') (hok : HOk X.prog X.w H' h') : Inv X pins σ H' { s with heap := h', toks := t' } := by
  obtain ⟨m, ⟨o, es, ep, ho, r⟩, _⟩ := id I.loc
  obtain ⟨sl, hL⟩ := u.any ho I.free (by simp)
  exact I.step (g' := s.gens) (d' := s.drawn) (ch := []) (fun _ z => nomatch z) (fun b o _ hb _ e n => u.keep b o e n hb (by simp)) (fun b o _ hb _ e n => u.slot b o e n hb (by simp)) (fun b o _ e n => u.free b o e n (by simp)) (fun b o _ e => u.there b o e (by simp)) u.tups u.frzs u.tbls (fun m' hm => by
    obtain ⟨o', es', ep', ho', r'⟩ := hm
    rw [ho] at ho'; cases ho'
    exact ⟨_, es', ep', hL, r'⟩) hok I.bare
/-- behind a call (or a comprehension's block): the slots of this frame may have changed too, the records at ch may have turned -/
theorem Inv.call {g' : Array GenState} {t' : Nat} {d' : Drawn} {ch : List Addr} (I : Inv X pins σ H s) (u : Un (frs X.stack) ch H H' s.heap h') (hok : HOk X.prog X.w H' h') (hg : AllBare g')
    (hch : ∀ b ∈ ch, (b ∈ X.ex ∨ X.s₀.heap.objs.size ≤ b) ∧ b ≠ X.env.locals ∧ (∀ x c, X.env.cells.lookup x = some c → c ≠ b) ∧ ∀ p ∈ X.pn ++ pins, p.1 ≠ b) :
    Inv X pins σ H' { s with heap := h', gens := g', drawn := d', toks := t' } := by
  obtain ⟨m, ⟨o, es, ep, ho, r⟩, _⟩ := id I.loc
  obtain ⟨sl, hL⟩ := u.any ho I.free fun z => (hch _ z).2.1 rfl
  exact I.step (ch := ch) hch (fun b o hL hb hc e n => u.keep b o e n (fun z => (List.mem_cons.mp (I.stkSub b z)).elim hL hb) hc) (fun b o _ _ hc e n => u.any e n hc) (fun b o hc e n => u.free b o e n hc) (fun b o hc e => u.there b o e hc) u.tups u.frzs u.tbls (fun m' hm => by
    obtain ⟨o', es', ep', ho', r'⟩ := hm
    rw [ho] at ho'; cases ho'
    exact ⟨_, es', ep', hL, r'⟩) hok hg
/-- an untracked record of ours (an iterator) has turned -/
theorem Inv.turned {t' : Nat} {it : Addr} (I : Inv X pins σ H s) (k : ∀ b o, b ≠ it → s.heap.get? b = some o → h'.get? b = some o) (hn : H it = none) (hL : it ≠ X.env.locals)
    (h1 : it ∈ X.ex ∨ X.s₀.heap.objs.size ≤ it) (h2 : ∀ x c, X.env.cells.lookup x = some c → c ≠ it) (h3 : ∀ p ∈ X.pn ++ pins, p.1 ≠ it) : Inv X pins σ H { s with heap := h', toks := t' } := by
  have nit : ∀ b u, H b = some u → b ≠ it := fun b u e z => by rw [z, hn] at e; cases e
  refine I.step (g' := s.gens) (d' := s.drawn) (ch := [it]) (fun b hb => ?_) (fun b o _ _ hc e _ => k b o (fun z => hc (by simp [z])) e) (fun b o _ _ hc e _ => ⟨o.slots, k b o (fun z => hc (by simp [z])) e⟩) (fun _ _ _ _ n => n)
    (fun b o hc e => ⟨o, k b o (fun z => hc (by simp [z])) e⟩) (fun _ _ e => e) (fun _ _ _ e => e) (fun b ps e => ⟨#[], by rw [e]; simp⟩) (fun m hm => ?_) (fun b u e => ?_) I.bare
  · have e : b = it := by simpa using hb
    subst e
    exact ⟨h1, hL, h2, h3⟩
  · obtain ⟨o, es, ep, ho, r⟩ := hm
    exact ⟨o, es, ep, k _ o (Ne.symm hL) ho, r⟩
  · refine (I.hok b u e).stay (fun c v hc q => k c v ?_ q) (fun _ q => q) fun _ _ q => q
    rcases hc with z | z
    · rw [z]; exact nit b u e
    · exact nit c _ z
theorem Inv.tok (I : Inv X pins σ H s) (t : Nat) : Inv X pins σ H { s with toks := t } := I.un (h' := s.heap) (t' := t) Un.refl I.hok
/-- all objects kept -/
theorem Inv.kept {t' : Nat} (I : Inv X pins σ H s) (k : ∀ b u, s.heap.get? b = some u → h'.get? b = some u) : Inv X pins σ H { s with heap := h', toks := t' } := I.un (Un.kept k) (I.hok.kept k)
/-- a new object laid and tracked -/
theorem Inv.laid {a : Addr} {o : HO} {t' : Nat} (I : Inv X pins σ H s) (k : ∀ b u, s.heap.get? b = some u → h'.get? b = some u) (hp : s.heap.objs.size ≤ a) (new : ObjOk X.prog X.w (upd H a o) h' a o) :
    Inv X pins σ (upd H a o) { s with heap := h', toks := t' } := I.un (Un.laid k hp (I.hok.fresh hp)) (I.hok.laid k hp new)
/-- an object written -/
theorem Inv.write {x e : Addr} {o : HO} {t' : Nat} (I : Inv X pins σ H s) (mu : Mut (H x)) (he : e = x ∨ H e = some (.own x)) (k : ∀ b u, b ≠ e → s.heap.get? b = some u → h'.get? b = some u) (heo : ∃ u, h'.get? e = some u)
    (new : ObjOk X.prog X.w (upd H x o) h' x o) : Inv X pins σ (upd H x o) { s with heap := h', toks := t' } := I.un (Un.write mu he k heo) (I.hok.write mu he k heo new)
theorem Inv.pins_of {pins' : List (Addr × Obj)} (I : Inv X pins σ H s) (h : ∀ p ∈ pins', s.heap.get? p.1 = some p.2 ∧ H p.1 = none ∧ p.1 ≠ X.env.locals ∧ p.1 ∉ X.fs ∧ ∀ v, p.2.data ≠ .cell v) : Inv X pins' σ H s :=
  ⟨I.ok, I.os, I.bare, I.base, I.loc, I.cell, I.free, I.freeC, fun p hp => (List.mem_append.mp hp).elim (fun z => I.pin p (List.mem_append_left _ z)) (h p), I.hok, I.len⟩

theorem nodup_ix {N : List Str} (hN : N.Nodup) {i j : Nat} {x : Str} (a : N[i]? = some x) (b : N[j]? = some x) : i = j := by
  obtain ⟨h1, e1⟩ := List.getElem?_eq_some_iff.mp a
  obtain ⟨h2, e2⟩ := List.getElem?_eq_some_iff.mp b
  exact (List.getElem_inj hN).mp (e1.trans e2.symm)

/-- a name is stored; what changed -/
theorem store_ok2 {M : Model} {A : Around} {E : Value → Shared → Prop} {i : Nat} {x : Str} {v : V} {u : Value} {Q : Unit → Shared → Prop} (I : Inv X pins σ H s) (hN : X.N.Nodup) (hi : X.N[i]? = some x) (hx : Loc X.env.scope x) (r : RelV v u)
    (h : ∀ s', Inv X pins (σ.set i (some v)) H s' → (∃ a, Heap.SameBut a s.heap s'.heap ∧ (a = X.env.locals ∨ X.env.cells.lookup x = some a)) → Q () s') (hf : X.fn x = true ∨ X.env.scope.names.lookup x = some .local := by first | exact .inl rfl | exact .inr rfl | assumption) : wpAny M A (storeName X.env x u) Q E s := by
  obtain ⟨m, hn, hl⟩ := id I.loc
  have hcls : (X.env.scope.kind == .class || (X.env.scope.kind == .module && X.env.locals != X.env.globals)) = false := by rw [I.ok.kind]; rfl
  have hiσ : i < σ.length := by rw [I.len]; exact (List.getElem?_eq_some_iff.mp hi).1
  have cne := I.cne
  have tracked : ∀ {a : Addr} {h' : Heap}, (∃ o, s.heap.get? a = some o ∧ H a = none) → Heap.SameBut a s.heap h' → HOk X.prog X.w H h' := fun {a h'} ha hs b ob e => by
    obtain ⟨_, _, hfree⟩ := ha
    refine (I.hok b ob e).stay (fun c w' hc q => (hs.2 c ?_).trans q) (fun _ q => q) fun _ _ q => q
    rintro rfl
    rcases hc with rfl | hc
    · rw [hfree] at e; cases e
    · rw [hfree] at hc; cases hc
  rcases hx with hk | hk
  · refine wpAny_storeName_local hk hn (fun h' hn' hs => ?_) hcls
    obtain ⟨oL, _, _, hoL, _⟩ := id hn
    refine h _ ⟨I.ok, I.os, I.bare, ⟨fun b o e n hb hx => ?_, fun b o e n hb hx => ?_, I.base.free, fun b o e hx => ?_, I.base.tups, I.base.frzs, I.base.tbls⟩, ⟨_, hn', fun j y v' e1 e2 e3 => ?_⟩, fun y c e => ?_, I.free, I.freeC, fun p hp => ?_, tracked ⟨oL, hoL, I.free⟩ hs, by simpa using I.len⟩ ⟨_, hs, .inl rfl⟩
    · exact (hs.2 b (Nat.ne_of_lt (Nat.lt_of_lt_of_le (Heap.lt_size e) I.ok.above))).trans (I.base.keep b o e n hb hx)
    · obtain ⟨sl, e1⟩ := I.base.slot b o e n hb hx
      exact ⟨sl, (hs.2 b (Nat.ne_of_lt (Nat.lt_of_lt_of_le (Heap.lt_size e) I.ok.above))).trans e1⟩
    · obtain ⟨o', e1⟩ := I.base.there b o e hx
      exact ⟨o', (hs.2 b (Nat.ne_of_lt (Nat.lt_of_lt_of_le (Heap.lt_size e) I.ok.above))).trans e1⟩
    · by_cases hj : j = i
      · subst hj
        rw [hi] at e1; cases e1
        rw [List.getElem?_set_self hiσ] at e2
        cases e2
        exact ⟨u, r, .inl ⟨hk, by simp⟩⟩
      · rw [List.getElem?_set_ne (Ne.symm hj)] at e2
        obtain ⟨u', r', q⟩ := hl j y v' e1 e2 e3
        refine ⟨u', r', ?_⟩
        rcases q with ⟨k, e⟩ | ⟨k, c, e, z⟩
        · refine .inl ⟨k, ?_⟩
          have : y ≠ x := fun e => hj (nodup_ix hN e1 (e ▸ hi))
          simp [this, e]
        · exact .inr ⟨k, c, e, z.sameBut hs (cne y c e)⟩
    · obtain ⟨w', z⟩ := I.cell y c e
      exact ⟨w', z.sameBut hs (cne y c e)⟩
    · obtain ⟨e, n, ne, nf, d⟩ := I.pin p hp
      exact ⟨(hs.2 p.1 ne).trans e, n, ne, nf, d⟩
  · have hfn : X.fn x = true := by
      rcases hf with z | z
      · exact z
      · rw [z] at hk; cases hk
    obtain ⟨c, hc⟩ := I.ok.has x (.inl hk)
    obtain ⟨w', z⟩ := I.cell x c hc
    refine wpAny_storeName_cell I.ok.kind hk hc z (fun h' hc' hs => ?_)
    obtain ⟨oc, hoc, hocd⟩ := id z
    refine h { s with heap := h' } ⟨I.ok, I.os, I.bare, ⟨fun b o e n hb hx => ?_, fun b o e n hb hx => ?_, I.base.free, fun b o e hx => ?_, I.base.tups, I.base.frzs, I.base.tbls⟩, ⟨m, hn.sameBut hs (Ne.symm (cne x c hc)), fun j y v' e1 e2 e3 => ?_⟩, fun y c' e => ?_, I.free, I.freeC, fun p hp => ?_, tracked ⟨oc, hoc, I.freeC x c hc⟩ hs, by simpa using I.len⟩ ⟨c, hs, .inr hc⟩
    · exact (hs.2 b (Nat.ne_of_lt (Nat.lt_of_lt_of_le (Heap.lt_size e) (I.ok.cab x c hfn hc)))).trans (I.base.keep b o e n hb hx)
    · obtain ⟨sl, e1⟩ := I.base.slot b o e n hb hx
      exact ⟨sl, (hs.2 b (Nat.ne_of_lt (Nat.lt_of_lt_of_le (Heap.lt_size e) (I.ok.cab x c hfn hc)))).trans e1⟩
    · obtain ⟨o', e1⟩ := I.base.there b o e hx
      exact ⟨o', (hs.2 b (Nat.ne_of_lt (Nat.lt_of_lt_of_le (Heap.lt_size e) (I.ok.cab x c hfn hc)))).trans e1⟩
    · by_cases hj : j = i
      · subst hj
        rw [hi] at e1; cases e1
        rw [List.getElem?_set_self hiσ] at e2
        cases e2
        exact ⟨u, r, .inr ⟨.inl hk, c, hc, hc'⟩⟩
      · rw [List.getElem?_set_ne (Ne.symm hj)] at e2
        obtain ⟨u', r', q⟩ := hl j y v' e1 e2 e3
        refine ⟨u', r', ?_⟩
        rcases q with q | ⟨k, c', e, z'⟩
        · exact .inl q
        · refine .inr ⟨k, c', e, z'.sameBut hs ?_⟩
          rintro rfl
          exact hj (nodup_ix hN e1 (I.ok.inj _ _ _ e hc ▸ hi))
    · by_cases hcc : c' = c
      · subst hcc; exact ⟨_, hc'⟩
      · obtain ⟨w2, z2⟩ := I.cell y c' e
        exact ⟨w2, z2.sameBut hs hcc⟩
    · obtain ⟨e, n, ne, nf, d⟩ := I.pin p hp
      refine ⟨(hs.2 p.1 ?_).trans e, n, ne, nf, d⟩
      intro q
      rw [q, hoc] at e
      have q' : oc = p.2 := Option.some.inj e
      exact d w' (by rw [← q']; exact hocd)
theorem store_ok {M : Model} {A : Around} {E : Value → Shared → Prop} {i : Nat} {x : Str} {v : V} {u : Value} {Q : Unit → Shared → Prop} (I : Inv X pins σ H s) (hN : X.N.Nodup) (hi : X.N[i]? = some x) (hx : Loc X.env.scope x) (r : RelV v u)
    (h : ∀ s', Inv X pins (σ.set i (some v)) H s' → Q () s') (hf : X.fn x = true ∨ X.env.scope.names.lookup x = some .local := by first | exact .inl rfl | exact .inr rfl | assumption) : wpAny M A (storeName X.env x u) Q E s :=
  store_ok2 I hN hi hx r (fun s' I' _ => h s' I') hf
/-- behind a call or a block, the state as it is -/
theorem Inv.call' {s' : Shared} {ch : List Addr} (I : Inv X pins σ H s) (ho : s'.os = s.os) (u : Un (frs X.stack) ch H H' s.heap s'.heap) (hok : HOk X.prog X.w H' s'.heap) (hg : AllBare s'.gens)
    (hch : ∀ b ∈ ch, (b ∈ X.ex ∨ X.s₀.heap.objs.size ≤ b) ∧ b ≠ X.env.locals ∧ (∀ x c, X.env.cells.lookup x = some c → c ≠ b) ∧ ∀ p ∈ X.pn ++ pins, p.1 ≠ b) : Inv X pins σ H' s' := by
  obtain ⟨h', g', d', t', o'⟩ := s'
  have e : o' = s.os := ho
  subst e
  exact I.call (g' := g') (t' := t') (d' := d') u hok hg hch
end

/-! ### the judgements -/
/-- an exception: its class, its own dict's address (where it has one), the abstract heap behind it -/
abbrev XK := Value → Option Addr → Hp → Prop
abbrev St := List (Option V)
abbrev VK := V → Hp → Prop
/-- an expression's reading; a test's; an argument list's -/
abbrev TE := St → Hp → VK → Prop
abbrev TT := St → Hp → (Bool → Hp → Prop) → Prop
abbrev TA := St → Hp → (List V → Hp → Prop) → Prop
/-- what is wanted behind a statement -/
structure Ends where
  nx : St → Hp → Prop
  rt : VK
  bk : St → Hp → Prop := fun _ _ => False
  ct : St → Hp → Prop := fun _ _ => False
abbrev TS := Ends → St → Hp → Prop

def EP (X : Cx) (pins : List (Addr × Obj)) (σ : St) (Q : VK) (u : Value) (s' : Shared) : Prop := ∃ v H', Inv X pins σ H' s' ∧ RelV v u ∧ Q v H'
def TP (X : Cx) (pins : List (Addr × Obj)) (σ : St) (Q : Bool → Hp → Prop) (b : Bool) (s' : Shared) : Prop := ∃ H', Inv X pins σ H' s' ∧ Q b H'
def AP (X : Cx) (pins : List (Addr × Obj)) (σ : St) (Q : List V → Hp → Prop) (us : List Value) (s' : Shared) : Prop := ∃ vs H', Inv X pins σ H' s' ∧ Vals vs us ∧ Q vs H'
def SP (X : Cx) (pins : List (Addr × Obj)) (D : Ends) (f : Flow) (s' : Shared) : Prop :=
  match f with
  | .next => ∃ σ' H', Inv X pins σ' H' s' ∧ D.nx σ' H'
  | .brk => ∃ σ' H', Inv X pins σ' H' s' ∧ D.bk σ' H'
  | .cont => ∃ σ' H', Inv X pins σ' H' s' ∧ D.ct σ' H'
  | .ret u => ∃ v σ' H', Inv X pins σ' H' s' ∧ RelV v u ∧ D.rt v H'

def PE (X : Cx) (e : Expr) (t : TE) : Prop :=
  ∀ (pins : List (Addr × Obj)) (s : Shared) (σ : St) (H : Hp) (Q : VK), Inv X pins σ H s → t σ H Q → wpAny (model X.prog X.w) X.A (eval e X.env) (EP X pins σ Q) X.xe s
def PT (X : Cx) (e : Expr) (t : TT) : Prop :=
  ∀ (pins : List (Addr × Obj)) (s : Shared) (σ : St) (H : Hp) (Q : Bool → Hp → Prop), Inv X pins σ H s → t σ H Q → wpAny (model X.prog X.w) X.A (isTrue e X.env (eval e X.env)) (TP X pins σ Q) X.xe s
/-- a test whatever its 'whole' is (and, or) -/
def PW (X : Cx) (e : Expr) (t : TT) : Prop :=
  ∀ (whole : Sem Value) (pins : List (Addr × Obj)) (s : Shared) (σ : St) (H : Hp) (Q : Bool → Hp → Prop), Inv X pins σ H s → t σ H Q → wpAny (model X.prog X.w) X.A (isTrue e X.env whole) (TP X pins σ Q) X.xe s
theorem PW.pt {X : Cx} {e : Expr} {t : TT} (h : PW X e t) : PT X e t := h _
/-- an argument list (no star), from the left -/
def PA (X : Cx) (es : List Expr) (t : TA) : Prop :=
  ∀ (pos : Pos) (pins : List (Addr × Obj)) (s : Shared) (σ : St) (H : Hp) (Q : List V → Hp → Prop), Inv X pins σ H s → t σ H Q → wpAny (model X.prog X.w) X.A (spliced (backTo pos (starEach es X.env))) (AP X pins σ Q) X.xe s
def PS (X : Cx) (st : Stmt) (t : TS) : Prop :=
  ∀ (pins : List (Addr × Obj)) (s : Shared) (σ : St) (H : Hp) (D : Ends), Inv X pins σ H s → t D σ H → wpAny (model X.prog X.w) X.A (exec st X.env) (SP X pins D) X.xe s
def PSs (X : Cx) (st : List Stmt) (t : TS) : Prop :=
  ∀ (pins : List (Addr × Obj)) (s : Shared) (σ : St) (H : Hp) (D : Ends), Inv X pins σ H s → t D σ H → wpAny (model X.prog X.w) X.A (execs st X.env) (SP X pins D) X.xe s
/-- weaken the end -/
theorem thn {α : Type} {t : Sem α} {Q Q' : α → Shared → Prop} {M : Model} {A : Around} {E : Value → Shared → Prop} {s : Shared} (h : wpAny M A t Q E s) (hQ : ∀ a s, Q a s → Q' a s) : wpAny M A t Q' E s := wpAny_mono h hQ fun _ _ x => x
end L2

namespace L2
open PySem PySem.Spec PyProof.Rows
section
variable {X : Cx}


/-! ### names and constants -/
def tVar (i : Nat) : TE := fun σ H Q => ∃ v, σ[i]? = some (some v) ∧ Q v H
def tC (v : V) : TE := fun _ H Q => Q v H
theorem pe_var {i : Nat} {x : Str} {pos : Pos} (hN : X.N[i]? = some x) (hv : Vis X.env.scope x) (hd : (x == ("__debug__" : Str)) = false := by decide) (hcd : (x == ("__classdict__" : Str)) = false := by decide) : PE X (.Name x pos) (tVar i) := by
  intro pins s σ H Q I h
  obtain ⟨v, e, h⟩ := h
  obtain ⟨m, hn, hl⟩ := I.loc
  obtain ⟨u, r, l⟩ := hl i x v hN e hv
  have fin : EP X pins σ Q u s := ⟨v, H, I, r, h⟩
  rcases l with ⟨hk, hm⟩ | ⟨hk, c, hc, hcell⟩
  · exact wpAny_Name (wpAny_loadName_local I.ok.kind hk hn hm fin) hd
  · rcases hk with hk | hk
    · exact wpAny_Name (wpAny_loadName_cell I.ok.kind hk hc hcell fin) hd
    · exact wpAny_Name (wpAny_loadName_free I.ok.kind hk hc hcell fin hcd) hd
theorem pe_int {i j pos} : PE X (.Constant (.int i) j pos) (tC (.int i)) := fun _ _ _ H _ I h => wpAny_Constant_int ⟨.int i, H, I.tok _, ⟨_, rfl⟩, h⟩
theorem pe_bl {b j pos} : PE X (.Constant (.bool b) j pos) (tC (.bl b)) := fun _ _ _ H _ I h => Constant_bool ⟨.bl b, H, I, rfl, h⟩
theorem pe_non {j pos} : PE X (.Constant .none j pos) (tC .non) := fun _ _ _ H _ I h => Constant_none ⟨.non, H, I, rfl, h⟩
theorem pe_str {x j pos} : PE X (.Constant (.str x) j pos) (tC (.str x)) := fun _ _ _ H _ I h => Calls.Constant_str ⟨.str x, H, I.tok _, ⟨_, rfl⟩, h⟩

/-- a global name of the def -/
def Gl (X : Cx) (x : Str) : Prop := X.env.kindOf x = some .globalImplicit
theorem ld_glob {E : Value → Shared → Prop} {pins : List (Addr × Obj)} {s : Shared} {σ : St} {H : Hp} {x : Str} {u : Value} {pos : Pos} {Q : Value → Shared → Prop} (I : Inv X pins σ H s) (hg : Gl X x) (hm : X.mg x = some u) (h : Q u s)
    (hd : (x == ("__debug__" : Str)) = false := by decide) : wpAny (model X.prog X.w) X.A (eval (.Name x pos) X.env) Q E s :=
  Calls.Name_function_global I.ok.kind hg (Calls.loadGlobal_global (by rw [I.ok.glob]; exact I.mod.glob.keeps I.bk) hm h) hd
theorem ld_blt {E : Value → Shared → Prop} {pins : List (Addr × Obj)} {s : Shared} {σ : St} {H : Hp} {x : Str} {u : Value} {pos : Pos} {Q : Value → Shared → Prop} (I : Inv X pins σ H s) (hg : Gl X x) (hm : X.mg x = none) (hv : bootBuiltins x = some u) (h : Q u s)
    (hn : x ≠ "__name__" := by decide) (hd : (x == ("__debug__" : Str)) = false := by decide) : wpAny (model X.prog X.w) X.A (eval (.Name x pos) X.env) Q E s := by
  obtain ⟨mb, h1, h2⟩ := I.mod.blt
  exact Calls.Name_function_global I.ok.kind hg (Calls.loadGlobal_builtin (by rw [I.ok.glob]; exact I.mod.glob.keeps I.bk) hm (by rw [I.ok.blt]; exact h1.keeps I.bk) ((h2 x hn).trans hv) h) hd
/-- a module's constant, a class, a function, as a value -/
theorem pe_glob {x : Str} {v : V} {u : Value} {pos : Pos} (hg : Gl X x) (hm : X.mg x = some u) (r : RelV v u) (hd : (x == ("__debug__" : Str)) = false := by decide) : PE X (.Name x pos) (tC v) :=
  fun _ _ _ H _ I h => ld_glob I hg hm ⟨v, H, I, r, h⟩ hd
theorem pe_bltn {x : Str} {v : V} {u : Value} {pos : Pos} (hg : Gl X x) (hm : X.mg x = none) (hv : bootBuiltins x = some u) (r : RelV v u) (hn : x ≠ "__name__" := by decide) (hd : (x == ("__debug__" : Str)) = false := by decide) : PE X (.Name x pos) (tC v) :=
  fun _ _ _ H _ I h => ld_blt I hg hm hv ⟨v, H, I, r, h⟩ hn hd

/-! ### arithmetic -/
variable {a b : Expr} {ta tb : TE} {pos : Pos}

/-! ### comparisons -/
def PC (X : Cx) (op : CmpOp) (a b : Expr) (t : TE) : Prop :=
  ∀ (pins : List (Addr × Obj)) (s : Shared) (σ : St) (H : Hp) (Q : VK), Inv X pins σ H s → t σ H Q →
    wpAny (model X.prog X.w) X.A (eval a X.env) (fun v s₁ => wpAny (model X.prog X.w) X.A (eval b X.env) (fun u s₂ => wpAny (model X.prog X.w) X.A (compareOp op v u) (EP X pins σ Q) X.xe s₂) X.xe s₁) X.xe s

/-! ### and, or, not -/
variable {tA tB' : TT} {rest : List Expr}
def tAnd (t u : TT) : TT := fun σ H Q => t σ H fun c H1 => if c = true then u σ H1 Q else Q false H1
def tOr (t u : TT) : TT := fun σ H Q => t σ H fun c H1 => if c = true then Q true H1 else u σ H1 Q
def tNot (t : TT) : TT := fun σ H Q => t σ H fun c H1 => Q (!c) H1
theorem pw_and1 (ha : PT X a tA) : PW X (.BoolOp .And [a] pos) tA := by
  intro wh pins s σ H Q I h
  refine isTrue_and (thn (ha pins s σ H Q I h) fun c s1 e => ?_)
  cases c with
  | true => exact isTrue_and_nil e
  | false => exact e
theorem pw_or1 (ha : PT X a tA) : PW X (.BoolOp .Or [a] pos) tA := by
  intro wh pins s σ H Q I h
  refine isTrue_or (thn (ha pins s σ H Q I h) fun c s1 e => ?_)
  cases c with
  | false => exact isTrue_or_nil e
  | true => exact e
theorem pw_and (ha : PT X a tA) (hb : PW X (.BoolOp .And (b :: rest) pos) tB') : PW X (.BoolOp .And (a :: b :: rest) pos) (tAnd tA tB') := by
  intro wh pins s σ H Q I h
  refine isTrue_and (thn (ha pins s σ H _ I h) fun c s1 ⟨H1, I1, q1⟩ => ?_)
  cases c with
  | true => exact hb wh pins s1 σ H1 Q I1 q1
  | false => exact ⟨H1, I1, q1⟩
theorem pw_or (ha : PT X a tA) (hb : PW X (.BoolOp .Or (b :: rest) pos) tB') : PW X (.BoolOp .Or (a :: b :: rest) pos) (tOr tA tB') := by
  intro wh pins s σ H Q I h
  refine isTrue_or (thn (ha pins s σ H _ I h) fun c s1 ⟨H1, I1, q1⟩ => ?_)
  cases c with
  | true => exact ⟨H1, I1, q1⟩
  | false => exact hb wh pins s1 σ H1 Q I1 q1
theorem pt_not (ha : PT X a tA) : PT X (.UnaryOp .Not a pos) (tNot tA) := by
  intro pins s σ H Q I h
  exact isTrue_not (ha pins s σ H (fun c H1 => Q (!c) H1) I h)
/-- .. as values (bools) -/
def tAndV (ta tb : TE) : TE := fun σ H Q => ta σ H fun x H1 => ∃ c, x = .bl c ∧ if c = true then tb σ H1 Q else Q (.bl false) H1
def tOrV (ta tb : TE) : TE := fun σ H Q => ta σ H fun x H1 => ∃ c, x = .bl c ∧ if c = true then Q (.bl true) H1 else tb σ H1 Q
theorem pe_one {op} {t : TE} (h : PE X a t) : PE X (.BoolOp op [a] pos) t := fun pins s σ H Q I hw => BoolOp_one (h pins s σ H Q I hw)
theorem pe_and (ha : PE X a ta) (hb : PE X (.BoolOp .And (b :: rest) pos) tb) : PE X (.BoolOp .And (a :: b :: rest) pos) (tAndV ta tb) := by
  intro pins s σ H Q I h
  refine BoolOp_and (thn (ha pins s σ H _ I h) fun v s1 ⟨x, H1, I1, r1, q1⟩ => ?_)
  obtain ⟨c, rfl, q1⟩ := q1
  cases r1
  refine wpAny_truthy_bool ?_
  cases c with
  | true => exact hb pins s1 σ H1 Q I1 q1
  | false => exact ⟨.bl false, H1, I1, rfl, q1⟩
theorem pe_or (ha : PE X a ta) (hb : PE X (.BoolOp .Or (b :: rest) pos) tb) : PE X (.BoolOp .Or (a :: b :: rest) pos) (tOrV ta tb) := by
  intro pins s σ H Q I h
  refine BoolOp_or (thn (ha pins s σ H _ I h) fun v s1 ⟨x, H1, I1, r1, q1⟩ => ?_)
  obtain ⟨c, rfl, q1⟩ := q1
  cases r1
  refine wpAny_truthy_bool ?_
  cases c with
  | false => exact hb pins s1 σ H1 Q I1 q1
  | true => exact ⟨.bl true, H1, I1, rfl, q1⟩
end
end L2

namespace L2
open PySem PySem.Spec PyProof.Rows

/-! ### a list, a tuple that is read: tracked, frozen, or an object of the module -/
def SqL (K : PySem.W.Frag) (H : Hp) (a : Addr) (xs : List V) : Prop :=
  Rd H a (.lst xs) ∨
    ∃ (o : Obj) (its : Array Value) (n : Nat), K.lookup a = some o ∧ o.cls = .type "list" ∧ o.dict = none ∧ o.data = .seq its n ∧ its.size ≤ sizeLine ∧ Vals xs its.toList
def SqT (K : PySem.W.Frag) (H : Hp) (a : Addr) (xs : List V) : Prop :=
  Rd H a (.tup xs) ∨
    ∃ (o : Obj) (its : Array Value) (n : Nat), K.lookup a = some o ∧ o.cls = .type "tuple" ∧ o.data = .seq its n ∧ its.size ≤ sizeLine ∧ Vals xs its.toList
def absV : Value → Option V
  | .none => some .non
  | .bool b => some (.bl b)
  | .int i _ => some (.int i)
  | .str x _ => some (.str x)
  | .bytes b _ => some (.byt b)
  | .float b _ => some (.flt b)
  | .ref a => some (.ref a)
  | .type n => some (.ty n)
  | _ => none
theorem RelV.abs {x : V} {u : Value} (r : RelV x u) : absV u = some x := by
  cases x with
  | non => cases r; rfl
  | bl _ => cases r; rfl
  | int _ => obtain ⟨t, rfl⟩ := r; rfl
  | str _ => obtain ⟨t, rfl⟩ := r; rfl
  | byt _ => obtain ⟨t, rfl⟩ := r; rfl
  | flt _ => obtain ⟨t, rfl⟩ := r; rfl
  | ref _ => cases r; rfl
  | ty _ => cases r; rfl
theorem RelV.inj {x y : V} {u : Value} (r : RelV x u) (q : RelV y u) : x = y := Option.some.inj (r.abs.symm.trans q.abs)
theorem Vals.inj : ∀ {xs ys : List V} {us : List Value}, Vals xs us → Vals ys us → xs = ys
  | _, _, _, .nil, .nil => rfl
  | _, _, _, .cons r t, .cons r' t' => by rw [r.inj r', Vals.inj t t']
section
variable {X : Cx} {pins : List (Addr × Obj)} {σ : St} {H : Hp} {s : Shared} {a : Addr} {xs ys : List V}
theorem SqL.of {K : PySem.W.Frag} (h : H a = some (.lst xs)) : SqL K H a xs := .inl (.inl h)
theorem SqT.of {K : PySem.W.Frag} (h : H a = some (.tup xs)) : SqT K H a xs := .inl (.inl h)
theorem Inv.list (I : Inv X pins σ H s) (h : SqL X.K H a xs) : ∃ its : List Value, Vals xs its ∧ PlainL s.heap a its.toArray ∧ xs.length ≤ sizeLine := by
  rcases h with h | ⟨o, its, n, hk, hc, hd, hs, hz, r⟩
  · obtain ⟨z, its, n, r, e⟩ := h.ok I.hok
    exact ⟨its, r, ⟨_, n, e, rfl, rfl, rfl⟩, z⟩
  · refine ⟨its.toList, r, ⟨o, n, I.kIn a o hk, hc, hd, by simpa using hs⟩, ?_⟩
    have e := r.length
    simp only [Array.length_toList] at e
    omega
theorem Inv.tuple (I : Inv X pins σ H s) (h : SqT X.K H a xs) : ∃ its : List Value, Vals xs its ∧ IsTup s.heap a its.toArray ∧ xs.length ≤ sizeLine := by
  rcases h with h | ⟨o, its, n, hk, hc, hs, hz, r⟩
  · obtain ⟨z, its, r, p⟩ := h.ok I.hok
    exact ⟨its, r, p, z⟩
  · refine ⟨its.toList, r, ⟨o, I.kIn a o hk, hc, n, by simpa using hs⟩, ?_⟩
    have e := r.length
    simp only [Array.length_toList] at e
    omega
theorem Inv.list_inj (I : Inv X pins σ H s) (h : SqL X.K H a xs) (h' : SqL X.K H a ys) : xs = ys := by
  obtain ⟨its, r, ⟨o, n, e, _, _, d⟩, _⟩ := I.list h
  obtain ⟨its', r', ⟨o', n', e', _, _, d'⟩, _⟩ := I.list h'
  rw [e] at e'; cases e'
  rw [d] at d'
  injection d' with d1 _
  have : its = its' := by simpa using congrArg Array.toList d1
  subst this
  exact r.inj r'
theorem Inv.tuple_inj (I : Inv X pins σ H s) (h : SqT X.K H a xs) (h' : SqT X.K H a ys) : xs = ys := by
  obtain ⟨its, r, ⟨o, e, _, n, d⟩, _⟩ := I.tuple h
  obtain ⟨its', r', ⟨o', e', _, n', d'⟩, _⟩ := I.tuple h'
  rw [e] at e'; cases e'
  rw [d] at d'
  injection d' with d1 _
  have : its = its' := by simpa using congrArg Array.toList d1
  subst this
  exact r.inj r'
end

/-! ### another wish about exceptions -/
abbrev Cx.wish (X : Cx) (E : Value → Shared → Prop) : Cx := { X with xe := E }
/-- no exception leaves -/
abbrev Cx.nox (X : Cx) : Cx := X.wish fun _ _ => False
theorem Cx.Ok.wish {X : Cx} (ok : X.Ok) (E : Value → Shared → Prop) : (X.wish E).Ok :=
  ⟨ok.mod, ok.kind, ok.glob, ok.blt, ok.above, ok.inj, ok.has, ok.cab, ok.hd, ok.frames, ok.stk, ok.exf, ok.bs, ok.bsz, ok.noex, ok.exfs, ok.funs, ok.frf⟩
theorem Cx.Ok.unwish {X : Cx} {E : Value → Shared → Prop} (ok : (X.wish E).Ok) : X.Ok :=
  ⟨ok.mod, ok.kind, ok.glob, ok.blt, ok.above, ok.inj, ok.has, ok.cab, ok.hd, ok.frames, ok.stk, ok.exf, ok.bs, ok.bsz, ok.noex, ok.exfs, ok.funs, ok.frf⟩
section
variable {X : Cx} {pins : List (Addr × Obj)} {σ : St} {H : Hp} {s : Shared} {E : Value → Shared → Prop}
theorem Inv.wish (I : Inv X pins σ H s) (E : Value → Shared → Prop) : Inv (X.wish E) pins σ H s := ⟨I.ok.wish E, I.os, I.bare, I.base, I.loc, I.cell, I.free, I.freeC, I.pin, I.hok, I.len⟩
theorem Inv.unwish (I : Inv (X.wish E) pins σ H s) : Inv X pins σ H s := ⟨I.ok.unwish, I.os, I.bare, I.base, I.loc, I.cell, I.free, I.freeC, I.pin, I.hok, I.len⟩
theorem SP.unwish {D : Ends} {f : Flow} {s' : Shared} (h : SP (X.wish E) pins D f s') : SP X pins D f s' := by
  cases f with
  | next => obtain ⟨σ', H', I, q⟩ := h; exact ⟨σ', H', I.unwish, q⟩
  | brk => obtain ⟨σ', H', I, q⟩ := h; exact ⟨σ', H', I.unwish, q⟩
  | cont => obtain ⟨σ', H', I, q⟩ := h; exact ⟨σ', H', I.unwish, q⟩
  | ret u => obtain ⟨v, σ', H', I, r, q⟩ := h; exact ⟨v, σ', H', I.unwish, r, q⟩
theorem PSs.nox {st : List Stmt} {t : TS} (h : PSs X.nox st t) : PSs X st t := fun pins s σ H D I hw =>
  wpAny_mono (h pins s σ H D (I.wish _) hw) (fun _ _ q => q.unwish) fun _ _ z => False.elim z
end

/-! ### blocks and small statements -/
section
variable {X : Cx} {st : Stmt} {rest : List Stmt} {t u : TS} {e : Expr} {te : TE} {pos : Pos}
def tNext : TS := fun D σ H => D.nx σ H
def tSeq (t u : TS) : TS := fun D σ H => t { D with nx := u D } σ H
theorem pss_nil : PSs X [] tNext := fun _ _ σ H _ I h => wpAny_execs_nil ⟨σ, H, I, h⟩
theorem pss_cons (h1 : PS X st t) (h2 : PSs X rest u) : PSs X (st :: rest) (tSeq t u) := by
  intro pins s σ H D I h
  refine wpAny_execs_cons (thn (h1 pins s σ H { D with nx := u D } I h) fun f s1 q => ?_)
  cases f with
  | next =>
    obtain ⟨σ', H', I', q⟩ := q
    exact h2 pins s1 σ' H' D I' q
  | ret v => exact q
  | brk => exact q
  | cont => exact q
theorem pss_one (h1 : PS X st t) : PSs X [st] t := by
  intro pins s σ H D I h
  refine wpAny_execs_cons (thn (h1 pins s σ H D I h) fun f s1 q => ?_)
  cases f with
  | next => exact wpAny_execs_nil q
  | ret v => exact q
  | brk => exact q
  | cont => exact q
/-- in a def's body nothing is shown -/
theorem Inv.quiet {pins : List (Addr × Obj)} {σ : St} {H : Hp} {s : Shared} (I : Inv X pins σ H s) : interactive X.env = false := by simp [interactive, I.ok.kind]
/-- an expression whose value is dropped -/
def tDrop (te : TE) : TS := fun D σ H => te σ H fun _ H1 => D.nx σ H1
theorem ps_expr (he : PE X e te) (hs : swapsWith e none pos.line X.env = pure false := by rfl) : PS X (.Expr e pos) (tDrop te) := by
  intro pins s σ H D I h
  exact wpAny_Expr_any (thn (he pins s σ H _ I h) fun v s1 ⟨x, H1, I1, r1, q1⟩ => ⟨σ, H1, I1, q1⟩) I.quiet hs
def tRet (te : TE) : TS := fun D σ H => te σ H D.rt
theorem ps_ret (he : PE X e te) : PS X (.Return (some e) pos) (tRet te) := by
  intro pins s σ H D I h
  exact wpAny_Return_some (thn (he pins s σ H _ I h) fun v s1 ⟨x, H1, I1, r1, q1⟩ => ⟨x, σ, H1, I1, r1, q1⟩)
def tIfS (c : TT) (t u : TS) : TS := fun D σ H => c σ H fun b H1 => if b = true then t D σ H1 else u D σ H1
theorem ps_if {c : Expr} {a b : List Stmt} {tc : TT} (hc : PT X c tc) (ha : PSs X a t) (hb : PSs X b u) : PS X (.If c a b pos) (tIfS tc t u) := by
  intro pins s σ H D I h
  refine wpAny_If (thn (hc pins s σ H _ I h) fun d s1 ⟨H1, I1, q1⟩ => ?_)
  cases d with
  | true => exact ha pins s1 σ H1 D I1 q1
  | false => exact hb pins s1 σ H1 D I1 q1
end

/-! ### targets -/
abbrev TG := V → St → Hp → (St → Hp → Prop) → Prop
abbrev TGs := List V → St → Hp → (St → Hp → Prop) → Prop
def PG (X : Cx) (target : Expr) (t : TG) : Prop :=
  ∀ (pins : List (Addr × Obj)) (s : Shared) (σ : St) (H : Hp) (v : V) (u : Value) (Q : St → Hp → Prop), Inv X pins σ H s → RelV v u → t v σ H Q →
    wpAny (model X.prog X.w) X.A (assign target X.env u) (fun _ s' => ∃ σ' H', Inv X pins σ' H' s' ∧ Q σ' H') X.xe s
/-- several targets, one after another -/
def PGs (X : Cx) (ts : List Expr) (t : TGs) : Prop :=
  ∀ (pins : List (Addr × Obj)) (s : Shared) (σ : St) (H : Hp) (vs : List V) (us : List Value) (Q : St → Hp → Prop), Inv X pins σ H s → Vals vs us → t vs σ H Q →
    wpAny (model X.prog X.w) X.A (assignInOrder ((assignEach ts X.env).map (·.2)) us) (fun _ s' => ∃ σ' H', Inv X pins σ' H' s' ∧ Q σ' H') X.xe s
/-- o[i] = v, by values -/
abbrev TSet := V → V → V → Hp → (Hp → Prop) → Prop
def PSet (X : Cx) (t : TSet) : Prop :=
  ∀ (pins : List (Addr × Obj)) (s : Shared) (σ : St) (H : Hp) (o i v : V) (ov iv u : Value) (Q : Hp → Prop), Inv X pins σ H s → RelV o ov → RelV i iv → RelV v u → t o i v H Q →
    wpAny (model X.prog X.w) X.A (setItem ov iv u) (fun _ s' => ∃ H', Inv X pins σ H' s' ∧ Q H') X.xe s
section
variable {X : Cx} {pos : Pos}
def gName (i : Nat) : TG := fun v σ H Q => Q (σ.set i (some v)) H
theorem pg_name {i : Nat} {x : Str} (hN : X.N.Nodup) (hi : X.N[i]? = some x) (hx : Loc X.env.scope x) (hf : X.fn x = true ∨ X.env.scope.names.lookup x = some .local := by first | exact .inl rfl | exact .inr rfl | assumption) : PG X (.Name x pos) (gName i) := by
  intro pins s σ H v u Q I r h
  exact wpAny_assign_Name (store_ok I hN hi hx r (fun s' I' => ⟨_, H, I', h⟩) hf)
/-- o[i] = .. -/
def gSub (to ti : TE) (t : TSet) : TG := fun v σ H Q => to σ H fun o H1 => ti σ H1 fun i H2 => t o i v H2 fun H3 => Q σ H3
theorem pg_sub {o i : Expr} {to ti : TE} {t : TSet} (ho : PE X o to) (hi : PE X i ti) (hs : PSet X t)
    (ha : ∀ v, assign (.Subscript o i pos) X.env v = (do
      let ov ← holding [v] (eval o X.env)
      let iv ← holding [v, ov] (eval i X.env)
      standAt pos
      holding [v, ov, iv] (setItem ov iv v)
      release [v, ov, iv] []) := by intro _; rfl) : PG X (.Subscript o i pos) (gSub to ti t) := by
  intro pins s σ H v u Q I r h
  rw [ha]
  refine wpAny_bind (wpAny_holding (thn (ho pins s σ H _ I h) fun ov s1 ⟨x, H1, I1, r1, q1⟩ => ?_))
  refine wpAny_bind (wpAny_holding (thn (hi pins s1 σ H1 _ I1 q1) fun iv s2 ⟨y, H2, I2, r2, q2⟩ => ?_))
  refine wpAny_bind (wpAny_standAt (wpAny_bind (wpAny_holding (thn (hs pins s2 σ H2 x y v ov iv u _ I2 r1 r2 r q2) fun _ s3 ⟨H3, I3, q3⟩ => ?_))))
  exact wpAny_release ⟨σ, H3, I3, q3⟩
/-- target = value -/
def tAsg (te : TE) (g : TG) : TS := fun D σ H => te σ H fun x H1 => g x σ H1 D.nx
theorem ps_asg {tg e : Expr} {te : TE} {g : TG} (he : PE X e te) (hg : PG X tg g) (hs : swapsWithSole [tg] e pos.line X.env = pure false := by rfl) (hw : swappedStores [tg] e X.env = pure none := by rfl)
    (h1 : (assignEach [tg] X.env).map (·.2) = [assign tg X.env] := by rfl) : PS X (.Assign [tg] e pos) (tAsg te g) := by
  intro pins s σ H D I h
  refine wpAny_Assign_stores (thn (he pins s σ H _ I h) fun v s1 ⟨x, H1, I1, r1, q1⟩ => ?_) hs hw
  rw [h1]
  exact thn (hg pins s1 σ H1 x v _ I1 r1 q1) fun _ s2 q => q
/-- name = value -/
theorem ps_set {i : Nat} {x : Str} {e : Expr} {te : TE} {pos' : Pos} (hN : X.N.Nodup) (hi : X.N[i]? = some x) (hx : Loc X.env.scope x) (he : PE X e te) (hs : swapsWith e (some (.Name x pos')) pos.line X.env = pure false := by rfl) (hf : X.fn x = true ∨ X.env.scope.names.lookup x = some .local := by first | exact .inl rfl | exact .inr rfl | assumption) :
    PS X (.Assign [.Name x pos'] e pos) (tAsg te (gName i)) := by
  intro pins s σ H D I h
  refine wpAny_Assign_Name (thn (he pins s σ H _ I h) fun v s1 ⟨y, H1, I1, r1, q1⟩ => ?_) hs
  exact store_ok I1 hN hi hx r1 (fun s2 I2 => ⟨_, H1, I2, q1⟩) hf
end

/-! ### while -/
section
variable {X : Cx} {pos : Pos}
end

/-! ### what a loop or a comprehension walks -/
/-- at turn i: it yields x (the heap may grow), or it stops -/
structure It where
  go : Nat → Hp → Prop
  yld : Nat → Hp → V → Hp → Prop
  stop : Nat → Hp → Prop
/-- the iterator's own objects may turn: they are not the frame's, not pinned, younger than the entry (or a comprehension's own) -/
def FpOk (X : Cx) (pins : List (Addr × Obj)) (H : Hp) (b : Addr) : Prop :=
  H b = none ∧ b ≠ X.env.locals ∧ b ∉ X.fs ∧ (b ∈ X.ex ∨ X.s₀.heap.objs.size ≤ b) ∧ (∀ x c, X.env.cells.lookup x = some c → c ≠ b) ∧ ∀ p ∈ X.pn ++ pins, p.1 ≠ b
theorem Inv.fpOk {X : Cx} {pins : List (Addr × Obj)} {σ : St} {H H' : Hp} {s : Shared} {b : Addr} (I : Inv X pins σ H s) (hb : s.heap.objs.size ≤ b) (hn : H' b = none) : FpOk X pins H' b := by
  refine ⟨hn, Nat.ne_of_gt (Nat.lt_of_lt_of_le I.lt hb), I.nofs hb, .inr (Nat.le_trans I.sz hb), fun x c e z => ?_, fun p hp z => ?_⟩
  · obtain ⟨v, q⟩ := I.cell x c e
    exact absurd (Nat.lt_of_lt_of_le q.lt (by rw [z]; exact hb)) (Nat.lt_irrefl _)
  · exact absurd (Nat.lt_of_lt_of_le (Heap.lt_size (I.pin p hp).1) (by rw [z]; exact hb)) (Nat.lt_irrefl _)
structure Turn (P : Program) (w : World) (K : PySem.W.Frag) (tg : Expr) (J : It) (fp : List Addr) (it : Addr) (tn : Nat → Heap → Prop) : Prop where
  mem : it ∈ fp
  obj : ∀ i h, tn i h → ∀ b ∈ fp, ∃ o, h.get? b = some o ∧ ∀ v, o.data ≠ .cell v
  keep : ∀ i h h', tn i h → (∀ b ∈ fp, ∀ o, h.get? b = some o → h'.get? b = some o) → tn i h'
  item : ∀ (X : Cx), X.prog = P → X.w = w → X.K = K → X.calm = true → ∀ (i : Nat) (pins : List (Addr × Obj)) (s : Shared) (σ : St) (H : Hp) (E : Value → Shared → Prop), Inv X pins σ H s → (∀ b ∈ fp, FpOk X pins H b) → tn i s.heap → J.go i H →
    wpAny (model P w) X.A (pyNext (.ref it)) (fun r s1 => ∃ u, r = some u ∧
      wpAny (model P w) X.A (letOwnedTupleGo tg (.ref it) u) (fun _ s2 => ∃ x H', Inv X pins σ H' s2 ∧ RelV x u ∧ J.yld i H x H' ∧ tn (i + 1) s2.heap ∧ ∀ b ∈ fp, H' b = none) E s1) E s
  done : ∀ (X : Cx), X.prog = P → X.w = w → X.K = K → X.calm = true → ∀ (i : Nat) (pins : List (Addr × Obj)) (s : Shared) (σ : St) (H : Hp) (E : Value → Shared → Prop), Inv X pins σ H s → (∀ b ∈ fp, FpOk X pins H b) → tn i s.heap → J.stop i H →
    wpAny (model P w) X.A (pyNext (.ref it)) (fun r s1 => r = none ∧ Inv X pins σ H s1) E s
  self : ∀ (A : Around) (i : Nat) (s : Shared) (Q : Value → Shared → Prop) (E : Value → Shared → Prop), tn i s.heap → Q (.ref it) s → wpAny (model P w) A (pyIter (.ref it)) Q E s
abbrev TI := St → Hp → (It → Hp → Prop) → Prop
/-- an iterator has come -/
def PIE (X : Cx) (pins : List (Addr × Obj)) (σ : St) (tg : Expr) (R : It → Hp → Prop) (itv : Value) (s2 : Shared) : Prop :=
  ∃ (it : Addr) (fp : List Addr) (tn : Nat → Heap → Prop) (J : It) (H' : Hp), itv = .ref it ∧ Inv X pins σ H' s2 ∧ Turn X.prog X.w X.K tg J fp it tn ∧ tn 0 s2.heap ∧ (∀ b ∈ fp, FpOk X pins H' b) ∧ R J H'
def PI (X : Cx) (tg iter : Expr) (wi : TI) : Prop :=
  ∀ (pins : List (Addr × Obj)) (s : Shared) (σ : St) (H : Hp) (R : It → Hp → Prop), Inv X pins σ H s → wi σ H R →
    wpAny (model X.prog X.w) X.A (eval iter X.env) (fun v s1 => wpAny (model X.prog X.w) X.A (pyIter v) (PIE X pins σ tg R) X.xe s1) X.xe s

/-- the step ahead of the store is nothing for an iterator that keeps no tuple -/
theorem go_of {M : Model} {A : Around} {E : Value → Shared → Prop} {s : Shared} {tg : Expr} {it : Addr} {u : Value} {o : Obj} {n : String} {vs : Array Value} {Q : Unit → Shared → Prop} (ho : s.heap.get? it = some o) (hc : o.cls = .type n) (hd : o.data = .fields vs)
    (hn : ["enumerate", "zip", "dict_itemiterator", "dict_reverseitemiterator", "odict_iterator", "itertools.zip_longest", "itertools.pairwise"].contains n = false) (hQ : Q () s) : wpAny M A (letOwnedTupleGo tg (.ref it) u) Q E s := by
  unfold letOwnedTupleGo
  cases tg <;> first
    | exact wpAny_pure hQ
    | (cases u <;> first
        | exact wpAny_pure hQ
        | (refine wpAny_bind (wpAny_load ho ?_)
           rw [hc, hd]
           show wpAny M A (if (["enumerate", "zip", "dict_itemiterator", "dict_reverseitemiterator", "odict_iterator", "itertools.zip_longest", "itertools.pairwise"].contains n && vs[0]? == some (rawInt _)) = true then _ else _) Q E s
           rw [if_neg (by intro h; rw [hn, Bool.false_and] at h; cases h)]
           exact wpAny_pure hQ))

/-- the list at a, as it stands at each turn (a loop may append to it) -/
def Itl (K : PySem.W.Frag) (a : Addr) : It :=
  ⟨fun i H => ∃ xs x, SqL K H a xs ∧ xs[i]? = some x, fun i H x H' => H' = H ∧ ∀ xs, SqL K H a xs → xs[i]? = some x, fun i H => ∃ xs, SqL K H a xs ∧ xs.length ≤ i⟩
def Itt (K : PySem.W.Frag) (a : Addr) : It :=
  ⟨fun i H => ∃ xs x, SqT K H a xs ∧ xs[i]? = some x, fun i H x H' => H' = H ∧ ∀ xs, SqT K H a xs → xs[i]? = some x, fun i H => ∃ xs, SqT K H a xs ∧ xs.length ≤ i⟩
/-- lo, lo + 1, .. (n of them) -/
def Itr (lo : Int) (n : Nat) : It := ⟨fun i _ => i < n, fun i H x H' => H' = H ∧ x = .int (lo + i), fun i _ => n ≤ i⟩
theorem turn_list {P : Program} {w : World} {K : PySem.W.Frag} {tg : Expr} (a it : Addr) : Turn P w K tg (Itl K a) [it] it (fun i h => h.IsListIter it a i) where
  mem := by simp
  obj := fun i h st b hb => by
    have e : b = it := by simpa using hb
    subst e
    obtain ⟨o, e, c, d⟩ := st
    exact ⟨o, e, fun v z => by rw [d] at z; cases z⟩
  keep := fun i h h' st k => st.at fun o e => k it (by simp) o e
  item := by
    intro X hP hw hK hc i pins s σ H E I hf st hg
    subst hP hw hK
    obtain ⟨xs, x, hq, hx⟩ := hg
    obtain ⟨its, rv, p, hz⟩ := I.list hq
    obtain ⟨u, hu, ru⟩ := rv.get hx
    obtain ⟨f0, f1, f2, f3, f4, f5⟩ := hf it (by simp)
    refine wpAny_pyNext_list_item st p.isList (x := u) (by simpa using hu) fun h' st' sb => ?_
    have I1 : Inv X pins σ H { s with heap := h' } := I.turned (t' := s.toks) (fun b o hb e => (sb.2 b hb).trans e) f0 f1 f3 f4 f5
    obtain ⟨o, e, c, d⟩ := id st'
    exact ⟨u, rfl, go_of (s := { s with heap := h' }) e c d (by decide) ⟨x, H, I1, ru, ⟨rfl, fun ys hy => by rw [I.list_inj hy hq]; exact hx⟩, st', fun b hb => (hf b hb).1⟩⟩
  done := by
    intro X hP hw hK hc i pins s σ H E I hf st hg
    subst hP hw hK
    obtain ⟨xs, hq, hx⟩ := hg
    obtain ⟨its, rv, p, hz⟩ := I.list hq
    obtain ⟨f0, f1, f2, f3, f4, f5⟩ := hf it (by simp)
    have hl := rv.length
    exact wpAny_pyNext_list_end (I.ok.hd hc) st p.isList (by simp; omega) fun h' eb => ⟨rfl, I.turned (t' := s.toks) (fun b o hb e => eb b o hb e) f0 f1 f3 f4 f5⟩
  self := fun _ _ _ _ _ st h => wpAny_pyIter_listiter st h
theorem turn_tuple {P : Program} {w : World} {K : PySem.W.Frag} {tg : Expr} (a it : Addr) : Turn P w K tg (Itt K a) [it] it (fun i h => h.IsTupleIter it a i) where
  mem := by simp
  obj := fun i h st b hb => by
    have e : b = it := by simpa using hb
    subst e
    obtain ⟨o, e, c, d⟩ := st
    exact ⟨o, e, fun v z => by rw [d] at z; cases z⟩
  keep := fun i h h' st k => st.at fun o e => k it (by simp) o e
  item := by
    intro X hP hw hK hc i pins s σ H E I hf st hg
    subst hP hw hK
    obtain ⟨xs, x, hq, hx⟩ := hg
    obtain ⟨its, rv, p, hz⟩ := I.tuple hq
    obtain ⟨u, hu, ru⟩ := rv.get hx
    obtain ⟨f0, f1, f2, f3, f4, f5⟩ := hf it (by simp)
    refine wpAny_pyNext_tuple_item st (show s.heap.IsTuple a its.toArray from p) (x := u) (by simpa using hu) fun h' st' sb => ?_
    have I1 : Inv X pins σ H { s with heap := h' } := I.turned (t' := s.toks) (fun b o hb e => (sb.2 b hb).trans e) f0 f1 f3 f4 f5
    obtain ⟨o, e, c, d⟩ := id st'
    exact ⟨u, rfl, go_of (s := { s with heap := h' }) e c d (by decide) ⟨x, H, I1, ru, ⟨rfl, fun ys hy => by rw [I.tuple_inj hy hq]; exact hx⟩, st', fun b hb => (hf b hb).1⟩⟩
  done := by
    intro X hP hw hK hc i pins s σ H E I hf st hg
    subst hP hw hK
    obtain ⟨xs, hq, hx⟩ := hg
    obtain ⟨its, rv, p, hz⟩ := I.tuple hq
    obtain ⟨f0, f1, f2, f3, f4, f5⟩ := hf it (by simp)
    have hl := rv.length
    exact wpAny_pyNext_tuple_end (I.ok.hd hc) st (show s.heap.IsTuple a its.toArray from p) (by simp; omega) fun h' eb => ⟨rfl, I.turned (t' := s.toks) (fun b o hb e => eb b o hb e) f0 f1 f3 f4 f5⟩
  self := fun _ _ _ _ _ st h => wpAny_pyIter_tupleiter st h
theorem turn_range {P : Program} {w : World} {K : PySem.W.Frag} {tg : Expr} (it : Addr) (lo : Int) (n : Nat) : Turn P w K tg (Itr lo n) [it] it (fun i h => IsRangeIter h it (lo + (i : Nat) * 1) ((n : Int) - (i : Nat)) 1) where
  mem := by simp
  obj := fun i h st b hb => by
    have e : b = it := by simpa using hb
    subst e
    exact ⟨_, st, fun v z => by
      have z' : Data.fields _ = Data.cell v := z
      cases z'⟩
  keep := fun i h h' st k => k it (by simp) _ st
  item := by
    intro X hP hw hK hc i pins s σ H E I hf st hg
    subst hP hw hK
    obtain ⟨f0, f1, f2, f3, f4, f5⟩ := hf it (by simp)
    have W := Walks.range (prog := X.prog) (w := X.w) (I.ok.hd hc) it lo 1 n
    refine W.item i s _ _ hg st fun v h' tk hv st' kk => ?_
    obtain ⟨t, rfl⟩ := hv
    have I1 : Inv X pins σ H { s with heap := h', toks := tk } := I.turned (fun b o hb e => kk b o (by simpa using hb) e) f0 f1 f3 f4 f5
    refine ⟨_, rfl, go_of (s := { s with heap := h', toks := tk }) (n := "range_iterator") st' rfl rfl (by decide) ⟨.int (lo + i), H, I1, ⟨t, ?_⟩, ⟨rfl, rfl⟩, st', fun b hb => (hf b hb).1⟩⟩
    rw [Int.mul_one]
  done := by
    intro X hP hw hK hc i pins s σ H E I hf st hg
    subst hP hw hK
    obtain ⟨f0, f1, f2, f3, f4, f5⟩ := hf it (by simp)
    exact wpAny_pyNext_range_end (I.ok.hd hc) st (by have : n ≤ i := hg; omega) fun h' eb => ⟨rfl, I.turned (t' := s.toks) (fun b o hb e => eb b o hb e) f0 f1 f3 f4 f5⟩
  self := fun _ _ _ _ _ st h => wpAny_pyIter_rangeiter st h
end L2

namespace L2
open PySem PySem.Spec PyProof.Rows
section
variable {X : Cx} {tg : Expr}
def iList (K : PySem.W.Frag) (tl : TE) : TI := fun σ H R => tl σ H fun x H1 => ∃ a, x = .ref a ∧ (∃ xs, SqL K H1 a xs) ∧ R (Itl K a) H1
def iTup (K : PySem.W.Frag) (tl : TE) : TI := fun σ H R => tl σ H fun x H1 => ∃ a, x = .ref a ∧ (∃ xs, SqT K H1 a xs) ∧ R (Itt K a) H1
theorem pi_list {l : Expr} {tl : TE} (hl : PE X l tl) : PI X tg l (iList X.K tl) := by
  intro pins s σ H R I h
  refine thn (hl pins s σ H _ I h) fun v s1 ⟨x, H1, I1, r1, q1⟩ => ?_
  obtain ⟨a, e, ⟨xs, hq⟩, q⟩ := q1
  subst e
  cases r1
  obtain ⟨its, rv, p, hz⟩ := I1.list hq
  refine wpAny_pyIter_list p.isList ?_
  refine ⟨s1.heap.objs.size, [s1.heap.objs.size], _, _, H1, rfl, I1.kept (t' := s1.toks) fun b o e => Heap.get?_push_of_some _ e, turn_list a _, ⟨_, Heap.get?_push_size _ rfl, rfl, rfl⟩, fun b hb => ?_, q⟩
  have e : b = s1.heap.objs.size := by simpa using hb
  subst e
  exact I1.fpOk (Nat.le_refl _) (I1.hok.fresh (Nat.le_refl _))
theorem pi_tup {l : Expr} {tl : TE} (hl : PE X l tl) : PI X tg l (iTup X.K tl) := by
  intro pins s σ H R I h
  refine thn (hl pins s σ H _ I h) fun v s1 ⟨x, H1, I1, r1, q1⟩ => ?_
  obtain ⟨a, e, ⟨xs, hq⟩, q⟩ := q1
  subst e
  cases r1
  obtain ⟨its, rv, p, hz⟩ := I1.tuple hq
  refine wpAny_pyIter_tuple (show s1.heap.IsTuple a its.toArray from p) ?_
  refine ⟨s1.heap.objs.size, [s1.heap.objs.size], _, _, H1, rfl, I1.kept (t' := s1.toks) fun b o e => Heap.get?_push_of_some _ e, turn_tuple a _, ⟨_, Heap.get?_push_size _ rfl, rfl, rfl⟩, fun b hb => ?_, q⟩
  have e : b = s1.heap.objs.size := by simpa using hb
  subst e
  exact I1.fpOk (Nat.le_refl _) (I1.hok.fresh (Nat.le_refl _))
/-- a range object just made, walked -/
theorem range_it {pins : List (Addr × Obj)} {σ : St} {H : Hp} {s : Shared} {R : It → Hp → Prop} {E : Value → Shared → Prop} {lo hi : Int} {t u v : Tok} {tk : Nat} (I : Inv X pins σ H s) (h1 : -(2 ^ 62) ≤ lo) (h2 : lo < 2 ^ 62) (h3 : -(2 ^ 62) ≤ hi) (h4 : hi < 2 ^ 62)
    (q : R (Itr lo (hi - lo).toNat) H) : wpAny (model X.prog X.w) X.A (pyIter (.ref s.heap.objs.size)) (PIE X pins σ tg R) E { s with heap := s.heap.push { cls := .type "range", data := .fields #[.int lo t, .int hi u, .int 1 v] }, toks := tk } := by
  refine wpAny_pyIter_range (IsRange.new ..) (small_one h1 h2 h3 h4) ?_
  have I1 : Inv X pins σ H { s with heap := s.heap.push { cls := .type "range", data := .fields #[.int lo t, .int hi u, .int 1 v] }, toks := tk } := I.kept fun b o e => Heap.get?_push_of_some _ e
  refine ⟨(s.heap.push { cls := .type "range", data := .fields #[.int lo t, .int hi u, .int 1 v] }).objs.size, [(s.heap.push { cls := .type "range", data := .fields #[.int lo t, .int hi u, .int 1 v] }).objs.size], _, _, H, rfl,
    I1.kept (t' := tk) fun b o e => Heap.get?_push_of_some _ e, turn_range _ lo (hi - lo).toNat, ?_, fun b hb => ?_, q⟩
  · have e1 : lo + ((0 : Nat) : Int) * 1 = lo := by simp
    have e2 : (((hi - lo).toNat : Nat) : Int) - ((0 : Nat) : Int) = Builtin.Range.rangeSize lo hi 1 := by rw [rangeSize_one]; split <;> omega
    show IsRangeIter _ _ (lo + ((0 : Nat) : Int) * 1) ((((hi - lo).toNat : Nat) : Int) - ((0 : Nat) : Int)) 1
    rw [e1, e2]
    exact Heap.get?_push_size _ rfl
  · have e : b = (s.heap.push { cls := .type "range", data := .fields #[.int lo t, .int hi u, .int 1 v] }).objs.size := by simpa using hb
    subst e
    exact I1.fpOk (Nat.le_refl _) (I1.hok.fresh (Nat.le_refl _))
def iRng1 (ta : TA) : TI := fun σ H R => ta σ H fun vs H1 => ∃ j : Int, vs = [.int j] ∧ -(2 ^ 62) ≤ j ∧ j < 2 ^ 62 ∧ R (Itr 0 j.toNat) H1
theorem pi_range1 {a : Expr} {ta : TA} {p pos : Pos} (hg : Gl X "range") (hm : X.mg "range" = none) (ha : PA X [a] ta) (hs : starEach [a] X.env = [(false, eval a X.env)] := by rfl) : PI X tg (.Call (.Name "range" p) [a] [] pos) (iRng1 ta) := by
  intro pins s σ H R I h
  refine Call_ (ld_blt I hg hm boot_range (PyProof.Rows.callWith_type1 (thn (ha pos pins s σ H _ I h) fun us s1 ⟨vs, H1, I1, r1, q1⟩ => ?_) hs rfl))
  obtain ⟨j, e, q1, q2, q⟩ := q1
  subst e
  cases r1 with
  | cons r rr =>
    cases rr
    obtain ⟨t, rfl⟩ := r
    exact call_range_1 (range_it I1 (by omega) (by omega) q1 q2 (by simpa using q))

/-! ### for -/
/-- W: the invariant by the turn and a measure; N: what the body is to reach -/
def tFor (wi : TI) (g : TG) (tb : TS) : TS := fun D σ H => wi σ H fun J H1 => ∃ W : Nat → Nat → St → Hp → Prop, (∃ m, W 0 m σ H1) ∧ ∀ i m σ H, W i m σ H →
  (J.stop i H ∧ D.nx σ H) ∨ (J.go i H ∧ ∃ N : St → Hp → Prop, (∀ σ' H', N σ' H' → ∃ m', m' < m ∧ W (i + 1) m' σ' H') ∧ ∀ x H', J.yld i H x H' → g x σ H' fun σ2 H2 => tb { D with nx := N, ct := N, bk := D.nx } σ2 H2)
/-- the records at fp as they stand -/
def pinsAt (fp : List Addr) (h : Heap) : List (Addr × Obj) := fp.filterMap fun b => (h.get? b).map fun o => (b, o)
theorem mem_pinsAt {fp : List Addr} {h : Heap} {b : Addr} {o : Obj} (hb : b ∈ fp) (e : h.get? b = some o) : (b, o) ∈ pinsAt fp h := List.mem_filterMap.mpr ⟨b, hb, by rw [e]; rfl⟩
theorem of_pinsAt {fp : List Addr} {h : Heap} {p : Addr × Obj} (hp : p ∈ pinsAt fp h) : p.1 ∈ fp ∧ h.get? p.1 = some p.2 := by
  obtain ⟨b, hb, e⟩ := List.mem_filterMap.mp hp
  cases q : h.get? b with
  | none => rw [q] at e; cases e
  | some o =>
    rw [q] at e
    have e' : (b, o) = p := Option.some.inj e
    subst e'
    exact ⟨hb, q⟩
theorem Inv.pinned {pins : List (Addr × Obj)} {σ : St} {H : Hp} {s : Shared} {fp : List Addr} (I : Inv X pins σ H s) (hf : ∀ b ∈ fp, FpOk X pins H b) (ho : ∀ b ∈ fp, ∃ o, s.heap.get? b = some o ∧ ∀ v, o.data ≠ .cell v) : Inv X (pins ++ pinsAt fp s.heap) σ H s :=
  I.pins_of fun p hp => (List.mem_append.mp hp).elim (fun z => I.pin p (List.mem_append_right _ z)) fun z => by
    obtain ⟨hb, e⟩ := of_pinsAt z
    obtain ⟨f0, f1, f2, _⟩ := hf p.1 hb
    obtain ⟨o, e', d⟩ := ho p.1 hb
    rw [e] at e'; cases e'
    exact ⟨e, f0, f1, f2, d⟩
theorem Inv.unpinned {pins pl : List (Addr × Obj)} {σ : St} {H : Hp} {s : Shared} (I : Inv X (pins ++ pl) σ H s) : Inv X pins σ H s := I.pins_of fun p hp => I.pin p (List.mem_append_right _ (List.mem_append_left _ hp))
theorem ps_for {iter : Expr} {body : List Stmt} {wi : TI} {g : TG} {tb : TS} {pos : Pos} (hp : PassesOwn (model X.prog X.w) X.A X.env X.xe) (hc : X.calm = true) (hi : PI X tg iter wi) (hg : PG X tg g) (hb : PSs X body tb)
    (hs : ∀ x, foldedSetIterable iter X.env x = pure x := by intro _; rfl) : PS X (.For tg iter body [] pos) (tFor wi g tb) := by
  intro pins s σ H D I h
  refine wpAny_For (thn (hi pins s σ H _ I h) fun v s1 h1 => thn h1 fun itv s2 h2 => ?_) hs
  obtain ⟨it, fp, tn, J, H2, e, I2, T, st2, f2, W, ⟨m0, w0⟩, turn⟩ := h2
  subst e
  -- what stays true of the iterator's objects through the loop
  have stat : ∀ {H' : Hp}, (∀ b ∈ fp, H' b = none) → ∀ b ∈ fp, FpOk X pins H' b := fun hn b hb => ⟨hn b hb, (f2 b hb).2⟩
  refine codeAny_forLoop_any (fun n s' => ∃ i σ' H', Inv X pins σ' H' s' ∧ tn i s'.heap ∧ (∀ b ∈ fp, H' b = none) ∧ W i n σ' H') ?_ m0 ⟨0, σ, H2, I2, st2, fun b hb => (f2 b hb).1, w0⟩
  rintro n s3 ⟨i, σ3, H3, I3, st3, fr3, w3⟩
  rcases turn i n σ3 H3 w3 with ⟨stop, qn⟩ | ⟨go, N, hN, step⟩
  · refine wpAny_passesOwn hp (thn (T.done X rfl rfl rfl hc i pins s3 σ3 H3 X.xe I3 (stat fr3) st3 stop) fun r s4 ⟨hr, I4⟩ => ?_)
    subst hr
    exact wpAny_execs_nil ⟨σ3, H3, I4, qn⟩
  · refine wpAny_passesOwn hp (thn (T.item X rfl rfl rfl hc i pins s3 σ3 H3 X.xe I3 (stat fr3) st3 go) fun r s4 ⟨u, hr, h4⟩ => ?_)
    subst hr
    refine wpAny_passesOwn hp (thn h4 fun _ s5 ⟨x, H5, I5, r5, y5, st5, fr5⟩ => ?_)
    have I5' := I5.pinned (stat fr5) (T.obj _ _ st5)
    refine wpAny_passesOwn hp (thn (hg _ s5 σ3 H5 x u _ I5' r5 (step x H5 y5)) fun _ s6 ⟨σ6, H6, I6, q6⟩ => ?_)
    refine wpAny_passesOwn hp (thn (hb _ s6 σ6 H6 _ I6 q6) fun f s7 q7 => ?_)
    have again : ∀ {σ7 : St} {H7 : Hp}, Inv X (pins ++ pinsAt fp s5.heap) σ7 H7 s7 → N σ7 H7 → ∃ m, m < n ∧ ∃ i σ' H', Inv X pins σ' H' s7 ∧ tn i s7.heap ∧ (∀ b ∈ fp, H' b = none) ∧ W i m σ' H' := fun {σ7 H7} I7 n7 => by
      obtain ⟨m', hm, w7⟩ := hN σ7 H7 n7
      refine ⟨m', hm, i + 1, σ7, H7, I7.unpinned, T.keep _ _ _ st5 fun b hb o e => (I7.pin (b, o) (List.mem_append_right _ (List.mem_append_right _ (mem_pinsAt hb e)))).1, fun b hb => ?_, w7⟩
      obtain ⟨o, e, d⟩ := T.obj _ _ st5 b hb
      exact (I7.pin (b, o) (List.mem_append_right _ (List.mem_append_right _ (mem_pinsAt hb e)))).2.1
    cases f with
    | next => obtain ⟨σ7, H7, I7, n7⟩ := q7; exact again I7 n7
    | cont => obtain ⟨σ7, H7, I7, n7⟩ := q7; exact again I7 n7
    | brk => obtain ⟨σ7, H7, I7, q7⟩ := q7; exact ⟨σ7, H7, I7.unpinned, q7⟩
    | ret v => obtain ⟨x7, σ7, H7, I7, r7, q7⟩ := q7; exact ⟨x7, σ7, H7, I7.unpinned, r7, q7⟩
end

/-! ### the forms one uses -/
/-- over a list that the body leaves as it is -/
theorem for_list {K : PySem.W.Frag} {a : Addr} {xs : List V} {g : TG} {tb : TS} {D : Ends} {σ : St} {H : Hp} (Pv : Nat → St → Hp → Prop) (h0 : Pv 0 σ H) (hl : ∀ i σ H, i ≤ xs.length → Pv i σ H → SqL K H a xs)
    (hs : ∀ i x σ H, xs[i]? = some x → Pv i σ H → g x σ H fun σ2 H2 => tb { D with nx := Pv (i + 1), ct := Pv (i + 1), bk := D.nx } σ2 H2) (hd : ∀ σ H, Pv xs.length σ H → D.nx σ H) :
    ∃ W : Nat → Nat → St → Hp → Prop, (∃ m, W 0 m σ H) ∧ ∀ i m σ H, W i m σ H →
      ((Itl K a).stop i H ∧ D.nx σ H) ∨ ((Itl K a).go i H ∧ ∃ N : St → Hp → Prop, (∀ σ' H', N σ' H' → ∃ m', m' < m ∧ W (i + 1) m' σ' H') ∧ ∀ x H', (Itl K a).yld i H x H' → g x σ H' fun σ2 H2 => tb { D with nx := N, ct := N, bk := D.nx } σ2 H2) := by
  refine ⟨fun i m σ H => m = xs.length - i ∧ i ≤ xs.length ∧ Pv i σ H, ⟨xs.length, by simp, Nat.zero_le _, h0⟩, ?_⟩
  rintro i m σ H ⟨rfl, hi, p⟩
  have q := hl i σ H hi p
  by_cases hlt : i < xs.length
  · refine .inr ⟨⟨xs, xs[i], q, by simp [hlt]⟩, Pv (i + 1), fun σ' H' p' => ⟨xs.length - (i + 1), by omega, rfl, hlt, p'⟩, fun x H' y => ?_⟩
    obtain ⟨e, y⟩ := y
    subst e
    exact hs i x σ _ (y xs q) p
  · have e : i = xs.length := by omega
    subst e
    exact .inl ⟨⟨xs, q, Nat.le_refl _⟩, hd σ H p⟩
end L2

namespace L2
open PySem PySem.Spec PyProof.Rows

abbrev R2 := V → V → Hp → VK → Prop
/-- a two-place operation on values: f is binaryOp op, inplaceOp op or compareOp op -/
def OpR (X : Cx) (f : Value → Value → Sem Value) (r : R2) : Prop :=
  ∀ (pins : List (Addr × Obj)) (s : Shared) (σ : St) (H : Hp) (x y : V) (v u : Value) (Q : VK), Inv X pins σ H s → RelV x v → RelV y u → r x y H Q →
    wpAny (model X.prog X.w) X.A (f v u) (EP X pins σ Q) X.xe s
/-- a call of a value that is known (a builtin, a type) with values -/
def CallR (X : Cx) (f : Value) (r : List V → Hp → VK → Prop) : Prop :=
  ∀ (pins : List (Addr × Obj)) (s : Shared) (σ : St) (H : Hp) (xs : List V) (us : List Value) (Q : VK), Inv X pins σ H s → Vals xs us → r xs H Q →
    wpAny (model X.prog X.w) X.A (call f us) (EP X pins σ Q) X.xe s
/-- a value's truth -/
def TruR (X : Cx) (r : V → Hp → (Bool → Hp → Prop) → Prop) : Prop :=
  ∀ (pins : List (Addr × Obj)) (s : Shared) (σ : St) (H : Hp) (x : V) (v : Value) (Q : Bool → Hp → Prop), Inv X pins σ H s → RelV x v → r x H Q →
    wpAny (model X.prog X.w) X.A (truthy v) (TP X pins σ Q) X.xe s

def tOp (r : R2) (ta tb : TE) : TE := fun σ H Q => ta σ H fun x H1 => tb σ H1 fun y H2 => r x y H2 Q
/-- ints in, under C, and a value out -/
def rI (C : Int → Int → Prop) (g : Int → Int → V) : R2 := fun x y H Q => ∃ i j, x = .int i ∧ y = .int j ∧ C i j ∧ Q (g i j) H
def rI0 (g : Int → Int → V) : R2 := fun x y H Q => ∃ i j, x = .int i ∧ y = .int j ∧ Q (g i j) H

section
variable {X : Cx} {a b c : Expr} {ta tb tc : TE} {pos : Pos}

theorem binT (ha : PE X a ta) (hb : PE X b tb) {pins : List (Addr × Obj)} {s : Shared} {σ : St} {H : Hp} {R : V → V → Hp → Prop} (I : Inv X pins σ H s)
    (h : ta σ H fun x H1 => tb σ H1 fun y H2 => R x y H2) {Q : Value → Shared → Prop} {f : Value → Value → Sem Value}
    (hf : ∀ v u s2 x y H2, Inv X pins σ H2 s2 → RelV x v → RelV y u → R x y H2 → wpAny (model X.prog X.w) X.A (f v u) Q X.xe s2) :
    wpAny (model X.prog X.w) X.A (eval a X.env) (fun v s₁ => wpAny (model X.prog X.w) X.A (eval b X.env) (fun u s₂ => wpAny (model X.prog X.w) X.A (f v u) Q X.xe s₂) X.xe s₁) X.xe s := by
  refine thn (ha pins s σ H _ I h) fun v s1 ⟨x, H1, I1, r1, q1⟩ => ?_
  refine thn (hb pins s1 σ H1 _ I1 q1) fun u s2 ⟨y, H2, I2, r2, q2⟩ => ?_
  exact hf v u s2 x y H2 I2 r1 r2 q2

theorem pe_op {op : Operator} {r : R2} (ho : OpR X (binaryOp op) r) (ha : PE X a ta) (hb : PE X b tb) : PE X (.BinOp a op b pos) (tOp r ta tb) := by
  intro pins s σ H Q I h
  exact wpAny_BinOp (binT ha hb I h fun v u s2 x y H2 I2 rx ry q => ho pins s2 σ H2 x y v u Q I2 rx ry q)

/-! ### ints -/
theorem opI {f : Value → Value → Sem Value} {C : Int → Int → Prop} {g : Int → Int → Int}
    (rule : ∀ (i j : Int) (t u : Tok) (s : Shared) (Q : Value → Shared → Prop) (E : Value → Shared → Prop), C i j → Q (.int (g i j) s.toks) { s with toks := s.toks + 1 } → wpAny (model X.prog X.w) X.A (f (.int i t) (.int j u)) Q E s) :
    OpR X f (rI C fun i j => .int (g i j)) := by
  intro pins s σ H x y v u Q I rx ry h
  obtain ⟨i, j, rfl, rfl, hc, q⟩ := h
  obtain ⟨t, rfl⟩ := rx
  obtain ⟨t', rfl⟩ := ry
  exact rule i j t t' s _ _ hc ⟨.int (g i j), H, I.tok _, ⟨_, rfl⟩, q⟩
theorem opI0 {f : Value → Value → Sem Value} {g : Int → Int → Int}
    (rule : ∀ (i j : Int) (t u : Tok) (s : Shared) (Q : Value → Shared → Prop) (E : Value → Shared → Prop), Q (.int (g i j) s.toks) { s with toks := s.toks + 1 } → wpAny (model X.prog X.w) X.A (f (.int i t) (.int j u)) Q E s) :
    OpR X f (rI0 fun i j => .int (g i j)) := by
  intro pins s σ H x y v u Q I rx ry h
  obtain ⟨i, j, rfl, rfl, q⟩ := h
  obtain ⟨t, rfl⟩ := rx
  obtain ⟨t', rfl⟩ := ry
  exact rule i j t t' s _ _ ⟨.int (g i j), H, I.tok _, ⟨_, rfl⟩, q⟩
theorem opB0 {f : Value → Value → Sem Value} {g : Int → Int → Bool}
    (rule : ∀ (i j : Int) (t u : Tok) (s : Shared) (Q : Value → Shared → Prop) (E : Value → Shared → Prop), Q (.bool (g i j)) s → wpAny (model X.prog X.w) X.A (f (.int i t) (.int j u)) Q E s) :
    OpR X f (rI0 fun i j => .bl (g i j)) := by
  intro pins s σ H x y v u Q I rx ry h
  obtain ⟨i, j, rfl, rfl, q⟩ := h
  obtain ⟨t, rfl⟩ := rx
  obtain ⟨t', rfl⟩ := ry
  exact rule i j t t' s _ _ ⟨.bl (g i j), H, I, rfl, q⟩

def CDiv (i j : Int) : Prop := 0 < j ∧ j < 1073741824
def CMul (i j : Int) : Prop := (-(2 ^ 64) < i ∧ i < 2 ^ 64) ∨ (-(2 ^ 64) < j ∧ j < 2 ^ 64)
theorem CMul.ok {i j : Int} (h : CMul i j) : IntMulOk i j := by
  rcases h with ⟨h1, h2⟩ | ⟨h1, h2⟩
  · exact .of_left (intBits_le_64 h1 h2)
  · exact .of_right (intBits_le_64 h1 h2)

theorem op_add : OpR X (binaryOp .Add) (rI0 fun i j => .int (i + j)) := opI0 fun _ _ _ _ _ _ _ q => add_int q
theorem op_mul : OpR X (binaryOp .Mult) (rI CMul fun i j => .int (i * j)) := opI fun _ _ _ _ _ _ _ hc q => mul_int q hc.ok
/-- // by a positive divisor -/
theorem op_fdiv : OpR X (binaryOp .FloorDiv) (rI CDiv fun i j => .int (i / j)) := opI fun i j _ _ _ _ _ hc q => by
  have h1 : (0 : Int) < j := hc.1
  have h2 : j < 1073741824 := hc.2
  exact floordiv_int (by omega) (by rw [Int.fdiv_eq_ediv_of_nonneg i (by omega)]; exact q) (.inl (PyProof.noPylong_small (by omega)))
/-- % by a positive divisor of any size -/
theorem op_mod : OpR X (binaryOp .Mod) (rI (fun _ j => 0 < j) fun i j => .int (i % j)) := opI fun i j _ _ _ _ _ hc q => by
  have h1 : (0 : Int) < j := hc
  exact mod_int' (by omega) (by rw [Int.fmod_eq_emod_of_nonneg i (by omega)]; exact q)



/-! ### bools among ints: n += (a < b) -/
end

/-! ### comparisons -/
/-- the scalars that == tells apart as data does -/
def scal : V → V → Bool
  | .non, .non => true | .non, .int _ => true | .int _, .non => true | .non, .bl _ => true | .bl _, .non => true | .non, .str _ => true | .str _, .non => true
  | .int _, .int _ => true | .bl _, .bl _ => true | .str _, .str _ => true | .byt _, .byt _ => true
  | .int _, .str _ => true | .str _, .int _ => true | .bl _, .str _ => true | .str _, .bl _ => true
  | _, _ => false
def rEq : R2 := fun x y H Q => scal x y = true ∧ Q (.bl (decide (x = y))) H
def rNe : R2 := fun x y H Q => scal x y = true ∧ Q (.bl (!decide (x = y))) H

theorem dec_int {i j : Int} : decide (V.int i = V.int j) = (i == j) := by
  rw [Bool.eq_iff_iff]
  simp
theorem dec_bl {i j : Bool} : decide (V.bl i = V.bl j) = (i == j) := by
  rw [Bool.eq_iff_iff]
  simp
theorem dec_str {i j : Str} : decide (V.str i = V.str j) = (i == j) := by
  rw [Bool.eq_iff_iff]
  simp
theorem dec_byt {i j : Array UInt8} : decide (V.byt i = V.byt j) = (i.toList == j.toList) := by
  rw [Bool.eq_iff_iff]
  cases i
  cases j
  simp

section
variable {X : Cx} {a b c : Expr} {ta tb tc : TE} {pos : Pos}
theorem fin_bl {pins : List (Addr × Obj)} {σ : St} {H : Hp} {s : Shared} {Q : VK} {k k' : Bool} (I : Inv X pins σ H s) (q : Q (.bl k) H) (e : k = k') : EP X pins σ Q (.bool k') s := by
  subst e
  exact ⟨.bl k, H, I, rfl, q⟩
theorem op_eq : OpR X (compareOp .Eq) rEq := by
  intro pins s σ H x y v u Q I rx ry h
  obtain ⟨hs, q⟩ := h
  cases x with
  | non =>
    cases rx
    cases y with
    | non => cases ry; exact PySem.EqNone.eq_none_none (fin_bl I q (by simp))
    | bl j => cases ry; exact PySem.EqNone.eq_none_bool (fin_bl I q (by simp))
    | int j => obtain ⟨t', rfl⟩ := ry; exact PySem.EqNone.eq_none_int (fin_bl I q (by simp))
    | str j => obtain ⟨t', rfl⟩ := ry; exact PySem.EqNone.eq_none_str (fin_bl I q (by simp))
    | _ => exact absurd (show false = true from hs) Bool.false_ne_true
  | bl i =>
    cases rx
    cases y with
    | non => cases ry; exact PySem.EqNone.eq_bool_none (fin_bl I q (by simp))
    | bl j => cases ry; exact eq_bool (fin_bl I q dec_bl)
    | str j => obtain ⟨t', rfl⟩ := ry; exact PySem.EqMixed.eq_bool_str (fin_bl I q (by simp))
    | _ => exact absurd (show false = true from hs) Bool.false_ne_true
  | int i =>
    obtain ⟨t, rfl⟩ := rx
    cases y with
    | non => cases ry; exact PySem.EqNone.eq_int_none (fin_bl I q (by simp))
    | int j => obtain ⟨t', rfl⟩ := ry; exact eq_int (fin_bl I q dec_int)
    | str j => obtain ⟨t', rfl⟩ := ry; exact PySem.EqMixed.eq_int_str (fin_bl I q (by simp))
    | _ => exact absurd (show false = true from hs) Bool.false_ne_true
  | str i =>
    obtain ⟨t, rfl⟩ := rx
    cases y with
    | non => cases ry; exact PySem.EqNone.eq_str_none (fin_bl I q (by simp))
    | bl j => cases ry; exact PySem.EqMixed.eq_str_bool (fin_bl I q (by simp))
    | int j => obtain ⟨t', rfl⟩ := ry; exact PySem.EqMixed.eq_str_int (fin_bl I q (by simp))
    | str j => obtain ⟨t', rfl⟩ := ry; exact eq_str (fin_bl I q dec_str)
    | _ => exact absurd (show false = true from hs) Bool.false_ne_true
  | byt i =>
    obtain ⟨t, rfl⟩ := rx
    cases y with
    | byt j => obtain ⟨t', rfl⟩ := ry; exact PySem.W.eq_bytes (fin_bl I q dec_byt)
    | _ => exact absurd (show false = true from hs) Bool.false_ne_true
  | _ => cases y <;> exact absurd (show false = true from hs) Bool.false_ne_true
theorem op_ne : OpR X (compareOp .NotEq) rNe := by
  intro pins s σ H x y v u Q I rx ry h
  obtain ⟨hs, q⟩ := h
  cases x with
  | non =>
    cases rx
    cases y with
    | non => cases ry; exact PySem.EqNone.ne_none_none (fin_bl I q (by simp))
    | bl j => cases ry; exact PySem.EqNone.ne_none_bool (fin_bl I q (by simp))
    | int j => obtain ⟨t', rfl⟩ := ry; exact PySem.EqNone.ne_none_int (fin_bl I q (by simp))
    | str j => obtain ⟨t', rfl⟩ := ry; exact PySem.EqNone.ne_none_str (fin_bl I q (by simp))
    | _ => exact absurd (show false = true from hs) Bool.false_ne_true
  | bl i =>
    cases rx
    cases y with
    | non => cases ry; exact PySem.EqNone.ne_bool_none (fin_bl I q (by simp))
    | bl j => cases ry; exact ne_bool (fin_bl I q (congrArg not dec_bl))
    | str j => obtain ⟨t', rfl⟩ := ry; exact PySem.EqMixed.ne_bool_str (fin_bl I q (by simp))
    | _ => exact absurd (show false = true from hs) Bool.false_ne_true
  | int i =>
    obtain ⟨t, rfl⟩ := rx
    cases y with
    | non => cases ry; exact PySem.EqNone.ne_int_none (fin_bl I q (by simp))
    | int j => obtain ⟨t', rfl⟩ := ry; exact ne_int (fin_bl I q (congrArg not dec_int))
    | str j => obtain ⟨t', rfl⟩ := ry; exact PySem.EqMixed.ne_int_str (fin_bl I q (by simp))
    | _ => exact absurd (show false = true from hs) Bool.false_ne_true
  | str i =>
    obtain ⟨t, rfl⟩ := rx
    cases y with
    | non => cases ry; exact PySem.EqNone.ne_str_none (fin_bl I q (by simp))
    | bl j => cases ry; exact PySem.EqMixed.ne_str_bool (fin_bl I q (by simp))
    | int j => obtain ⟨t', rfl⟩ := ry; exact PySem.EqMixed.ne_str_int (fin_bl I q (by simp))
    | str j => obtain ⟨t', rfl⟩ := ry; exact ne_str (fin_bl I q (congrArg not dec_str))
    | _ => exact absurd (show false = true from hs) Bool.false_ne_true
  | byt i =>
    obtain ⟨t, rfl⟩ := rx
    cases y with
    | byt j => obtain ⟨t', rfl⟩ := ry; exact PySem.W.ne_bytes (fin_bl I q (congrArg not dec_byt))
    | _ => exact absurd (show false = true from hs) Bool.false_ne_true
  | _ => cases y <;> exact absurd (show false = true from hs) Bool.false_ne_true

theorem op_lt : OpR X (compareOp .Lt) (rI0 fun i j => .bl (decide (i < j))) := opB0 fun _ _ _ _ _ _ _ q => lt_int q
theorem op_le : OpR X (compareOp .LtE) (rI0 fun i j => .bl (decide (i ≤ j))) := opB0 fun _ _ _ _ _ _ _ q => le_int q
theorem op_gt : OpR X (compareOp .Gt) (rI0 fun i j => .bl (decide (j < i))) := opB0 fun _ _ _ _ _ _ _ q => gt_int q


theorem op_notin_str : OpR X (compareOp .NotIn) (fun x y H Q => ∃ i j, x = .str i ∧ y = .str j ∧ Q (.bl (!(!(Builtin.Str.occurrences j i 0 j.length 1).isEmpty))) H) := by
  intro pins s σ H x y v u Q I rx ry h
  obtain ⟨i, j, rfl, rfl, q⟩ := h
  obtain ⟨t, rfl⟩ := rx
  obtain ⟨t', rfl⟩ := ry
  exact notIn_str (fin_bl I q rfl)

/-- two rules for one operation: by cases -/
theorem OpR.or {f : Value → Value → Sem Value} {r r' : R2} (h : OpR X f r) (h' : OpR X f r') : OpR X f (fun x y H Q => r x y H Q ∨ r' x y H Q) := by
  intro pins s σ H x y v u Q I rx ry q
  rcases q with q | q
  · exact h pins s σ H x y v u Q I rx ry q
  · exact h' pins s σ H x y v u Q I rx ry q

theorem nomark (b : Expr) {op : CmpOp} (h : op ≠ .In := by decide) (h2 : op ≠ .NotIn := by decide) : behindInMarks op b = false := by
  have e1 : (op == CmpOp.In) = false := by cases op <;> first | rfl | exact absurd rfl h
  have e2 : (op == CmpOp.NotIn) = false := by cases op <;> first | rfl | exact absurd rfl h2
  cases b <;> simp [behindInMarks, e1, e2]
/-- a comparison as a value; hm: nomark b, or (for in, not in) by with_unfolding_all rfl -/
theorem pe_cmpR {op : CmpOp} {r : R2} (ho : OpR X (compareOp op) r) (ha : PE X a ta) (hb : PE X b tb) (hm : behindInMarks op b = false) : PE X (.Compare a [op] [b] pos) (tOp r ta tb) := by
  intro pins s σ H Q I h
  exact wpAny_Compare1 (binT ha hb I h fun v u s2 x y H2 I2 rx ry q => ho pins s2 σ H2 x y v u Q I2 rx ry q) hm
/-- a reading of a value as a test -/
def tTest (t : TE) : TT := fun σ H Q => t σ H fun x H' => ∃ k, x = .bl k ∧ Q k H'
theorem pt_cmpR {op : CmpOp} {r : R2} (ho : OpR X (compareOp op) r) (ha : PE X a ta) (hb : PE X b tb) (hm : behindInMarks op b = false) : PT X (.Compare a [op] [b] pos) (tTest (tOp r ta tb)) := by
  intro pins s σ H Q I h
  refine wpAny_isTrue_Compare1 (thn (ha pins s σ H _ I h) fun v s1 ⟨x, H1, I1, r1, q1⟩ => thn (hb pins s1 σ H1 _ I1 q1) fun u s2 ⟨y, H2, I2, r2, q2⟩ =>
    thn (ho pins s2 σ H2 x y v u _ I2 r1 r2 q2) fun c s3 ⟨z, H3, I3, r3, k, e, q3⟩ => ?_) hm
  subst e
  cases r3
  exact wpAny_truthy_bool ⟨H3, I3, q3⟩
/-- a op1 b op2 c -/
def tChain (r r' : R2) (ta tb tc : TE) : TE := fun σ H Q => ta σ H fun x H1 => tb σ H1 fun y H2 => r x y H2 fun z H3 => ∃ k, z = .bl k ∧
  (if k = true then tc σ H3 fun w' H4 => r' y w' H4 Q else Q (.bl false) H3)
theorem pe_chain {op op' : CmpOp} {r r' : R2} (ho : OpR X (compareOp op) r) (ho' : OpR X (compareOp op') r') (ha : PE X a ta) (hb : PE X b tb) (hc : PE X c tc)
    (hm : lastMarks [op, op'] [b, c] = false := by with_unfolding_all rfl) : PE X (.Compare a [op, op'] [b, c] pos) (tChain r r' ta tb tc) := by
  intro pins s σ H Q I h
  refine Compare_chain (thn (ha pins s σ H _ I h) fun v s1 ⟨x, H1, I1, r1, q1⟩ => chain_link (thn (hb pins s1 σ H1 _ I1 q1) fun u s2 ⟨y, H2, I2, r2, q2⟩ =>
    thn (ho pins s2 σ H2 x y v u _ I2 r1 r2 q2) fun d s3 ⟨z, H3, I3, r3, k, e, q3⟩ => ?_)) hm
  subst e
  cases r3
  refine wpAny_truthy_bool ?_
  cases k with
  | false => exact ite_ff ⟨.bl false, H3, I3, rfl, q3⟩
  | true => exact ite_tt (chain_last (thn (hc pins s3 σ H3 _ I3 q3) fun w' s4 ⟨z', H4, I4, r4, q4⟩ => ho' pins s4 σ H4 y z' u w' Q I4 r2 r4 q4))

/-! ### truth -/
/-- a value's truth by the abstract heap -/
def TruV (K : PySem.W.Frag) (x : V) (H : Hp) (k : Bool) : Prop :=
  match x with
  | .non => k = false
  | .bl b => k = b
  | .int i => k = (i != 0)
  | .str y => y.length ≤ sizeLine ∧ k = ((y.length : Int) != 0)
  | .byt y => y.size ≤ sizeLine ∧ k = ((y.size : Int) != 0)
  | .ref p => (∃ xs, SqL K H p xs ∧ k = !xs.isEmpty) ∨ (∃ xs, SqT K H p xs ∧ k = !xs.isEmpty) ∨ ∃ kvs, H p = some (.dK kvs) ∧ k = !kvs.isEmpty
  | _ => False
theorem isEmpty_kv {κ : Type} {kvs : List (κ × V)} {vs : List (κ × Value)} (r : KV kvs vs) : (!vs.isEmpty) = !kvs.isEmpty := by
  cases r <;> rfl
theorem isEmpty_of {xs : List V} {its : List Value} (r : Vals xs its) : (!its.toArray.isEmpty) = !xs.isEmpty := by
  cases r <;> simp
theorem line63 : (sizeLine : Nat) < 2 ^ 63 := by rw [sizeLine_eq]; decide
theorem tru_ok : TruR X (fun x H Q => ∃ k, TruV X.K x H k ∧ Q k H) := by
  intro pins s σ H x v Q I rx h
  obtain ⟨k, e, q⟩ := h
  have hl := line63
  have hs : sizeLine = 16777216 := sizeLine_eq
  cases x with
  | non =>
    cases rx
    have e' : k = false := e
    subst e'
    exact truthy_none ⟨H, I, q⟩
  | bl b =>
    cases rx
    have e' : k = b := e
    subst e'
    exact wpAny_truthy_bool ⟨H, I, q⟩
  | int i =>
    obtain ⟨t, rfl⟩ := rx
    have e' : k = (i != 0) := e
    subst e'
    exact PySem.P.truthy_int ⟨H, I, q⟩
  | str y =>
    obtain ⟨t, rfl⟩ := rx
    obtain ⟨hy, e'⟩ : y.length ≤ sizeLine ∧ k = ((y.length : Int) != 0) := e
    subst e'
    exact PySem.P.truthy_str (by omega) ⟨H, I.tok _, q⟩
  | byt y =>
    obtain ⟨t, rfl⟩ := rx
    obtain ⟨hy, e'⟩ : y.size ≤ sizeLine ∧ k = ((y.size : Int) != 0) := e
    subst e'
    exact PySem.W.truthy_bytes (by omega) ⟨H, I.tok _, q⟩
  | ref p =>
    cases rx
    have e' : (∃ xs, SqL X.K H p xs ∧ k = !xs.isEmpty) ∨ (∃ xs, SqT X.K H p xs ∧ k = !xs.isEmpty) ∨ ∃ kvs, H p = some (.dK kvs) ∧ k = !kvs.isEmpty := e
    rcases e' with ⟨xs, hx, e'⟩ | ⟨xs, hx, e'⟩ | ⟨kvs, hx, e'⟩
    · subst e'
      obtain ⟨its, r, pl, hz⟩ := I.list hx
      have hlen := r.length
      exact wpAny_truthy_list pl.isList (by simp only [List.size_toArray]; omega) ⟨H, I.tok _, by rw [isEmpty_of r]; exact q⟩
    · subst e'
      obtain ⟨its, r, pl, hz⟩ := I.tuple hx
      have hlen := r.length
      exact truthy_tuple pl (by simp only [List.size_toArray]; omega) ⟨H, I.tok _, by rw [isEmpty_of r]; exact q⟩
    · subst e'
      obtain ⟨hz, hS, vs, r, m⟩ : kvs.length ≤ sizeLine ∧ (p == sysModules) = false ∧ ∃ vs, KV kvs vs ∧ s.heap.DictOf (mixKind X.prog X.w) p vs := I.hok p _ hx
      have hlen : kvs.length = vs.length := Paired.length r
      exact wpAny_truthy_dict hS m (by omega) ⟨H, I.tok _, by rw [isEmpty_kv r]; exact q⟩
  | _ => exact (show False from e).elim
/-- any expression whose test is its value's truth (a name, a call, a subscript, a field ..: he by fun _ => rfl) -/
theorem pt_truth (ha : PE X a ta) (he : ∀ whole, isTrue a X.env whole = (do let v ← whole; standAt a.pos; holding [v] (truthy v))) :
    PT X a (fun σ H Q => ta σ H fun x H' => ∃ k, TruV X.K x H' k ∧ Q k H') := by
  intro pins s σ H Q I h
  exact isTrue_plain (thn (ha pins s σ H _ I h) fun v s1 ⟨x, H1, I1, r1, q1⟩ => tru_ok pins s1 σ H1 x v Q I1 r1 q1) (he _)

/-! ### strs and bytes -/
theorem op_add_str : OpR X (binaryOp .Add) (fun x y H Q => ∃ i j, x = .str i ∧ y = .str j ∧ i.length + j.length ≤ sizeLine ∧ Q (.str (i ++ j)) H) := by
  intro pins s σ H x y v u Q I rx ry h
  obtain ⟨i, j, rfl, rfl, hz, q⟩ := h
  obtain ⟨t, rfl⟩ := rx
  obtain ⟨t', rfl⟩ := ry
  exact add_str (fun t' tk => ⟨.str (i ++ j), H, I.tok _, ⟨_, rfl⟩, q⟩) hz


/-! ### scalar builtins, by CallR -/
theorem vals1 {x : V} {us : List Value} (r : Vals [x] us) : ∃ u, us = [u] ∧ RelV x u := by
  cases r with
  | cons r1 r2 => cases r2; exact ⟨_, rfl, r1⟩
theorem vals2 {x y : V} {us : List Value} (r : Vals [x, y] us) : ∃ u w', us = [u, w'] ∧ RelV x u ∧ RelV y w' := by
  cases r with
  | cons r1 r2 =>
    cases r2 with
    | cons r3 r4 => cases r4; exact ⟨_, _, rfl, r1, r3⟩
theorem call_ord : CallR X (.builtin "ord") (fun xs H Q => ∃ x, xs = [.str x] ∧ x.length = 1 ∧ Q (.int (x.cps.getD 0 0 : Nat)) H) := by
  intro pins s σ H xs us Q I r h
  obtain ⟨x, rfl, hz, q⟩ := h
  obtain ⟨u, rfl, t, rfl⟩ := vals1 r
  exact ord_of_one hz ⟨.int _, H, I.tok _, ⟨_, rfl⟩, q⟩
end
end L2

namespace L2
open PySem PySem.Spec PyProof.Rows

/-! ### an instance, its attributes a map -/
structure ObjM (h : Heap) (x dx C : Addr) (mA : Str → Option Value) : Prop where
  obj : h.get? x = some (PySem.W.instObj C dx)
  ns : h.Ns1 dx mA
  ne : dx ≠ x

theorem lookIn_ns {h : Heap} {dx : Addr} {mA : Str → Option Value} (n : h.Ns1 dx mA) : ∃ od, h.get? dx = some od ∧ ∀ name, PySem.W.lookIn name od = some (mA name) := by
  obtain ⟨o, es, ep, ho, hd, hk, _, hm⟩ := n
  refine ⟨o, ho, fun name => ?_⟩
  have e := hm name
  unfold nsFind findBy at e
  rw [← Array.find?_toList] at e
  unfold PySem.W.lookIn
  rw [hd]
  dsimp only
  split
  · rename_i y q
    rw [q] at e
    exact congrArg some e
  · rename_i q
    rw [q] at e
    have a : es.toList.any (·.refKey) = false := by
      rw [List.any_eq_false]
      intro y hy
      obtain ⟨z, t, hkey⟩ := hk y (Array.mem_toList_iff.mp hy)
      simp [DictEntry.refKey, hkey]
    have a' : ¬ es.toList.any (·.refKey) = true := by rw [a]; exact Bool.false_ne_true
    rw [if_neg a']
    exact congrArg some e

theorem ObjM.look {h : Heap} {x dx C : Addr} {mA : Str → Option Value} (I : ObjM h x dx C mA) : ∃ od, PySem.W.InstAt h x (PySem.W.instObj C dx) C (some od) ∧ ∀ name, PySem.W.lookIn name od = some (mA name) :=
  let ⟨od, ho, hl⟩ := lookIn_ns I.ns
  ⟨od, ⟨I.obj, rfl, rfl, ho⟩, hl⟩

section
variable {prog : Program} {w : World} {A : Around} {E : Value → Shared → Prop} {s : Shared} {K : PySem.W.Frag} {x dx C f : Addr} {mA : Str → Option Value} {name : Str} {v : Value}





end

/-! ### the attributes as a list of pairs -/

theorem RelO.some_of {v : V} {o : Option Value} (r : RelO (some v) o) : ∃ u, o = some u ∧ RelV v u := by
  cases o with
  | none => exact (show False from r).elim
  | some u => exact ⟨u, rfl, r⟩

section
variable {P : Program} {w : World} {H H' : Hp} {h h' : Heap} {a C dx : Addr} {fs fs' : List (Str × V)}
theorem ins_get (hok : HOk P w H h) (e : H a = some (.ins C dx fs)) : ∃ mA, ObjM h a dx C mA ∧ (∀ f, RelO (fs.lookup f) (mA f)) ∧ PySem.Within mA (fs.map (·.1)) ∧ fs.length ≤ 1000 ∧ H dx = some (.own a) := by
  obtain ⟨d, z, ne, ob, mA, n, r, q⟩ := (show ObjOk P w H h a (.ins C dx fs) from hok a _ e)
  exact ⟨mA, ⟨ob, n, ne⟩, r, q, z, d⟩
end

/-! ### what of the text a class must have -/
structure Cls (K : PySem.W.Frag) (C : Addr) : Prop where
  pg : PySem.W.plainGet K C Str.empty = true
  hd : PySem.W.hasDictIn K C = true
  po : PySem.W.plainOver K C = true
  sa : PySem.W.findIn K (.ref C) "__setattr__" = some (some (.builtin "object.__setattr__"))
theorem Cls.get {K : PySem.W.Frag} {C : Addr} (c : Cls K C) (f : Str) : PySem.W.plainGet K C f = true := c.pg
/-- a constant of the class -/
structure Con (K : PySem.W.Frag) (C : Addr) (f : Str) (v : V) (u : Value) : Prop where
  at_ : PySem.W.findIn K (.ref C) f = some (some u)
  rel : RelV v u
  get : PySem.W.specialIn K u "__get__" = some none
  cp : PySem.W.copiedNames.contains f = false
/-- a method: a plain def of the class or of one above it -/
structure Meth (K : PySem.W.Frag) (C : Addr) (m : Str) (f : Addr) : Prop where
  at_ : PySem.W.findIn K (.ref C) m = some (some (.ref f))
  fn : PySem.W.isFn K (.ref f) = true
  kp : PySem.W.keepIn K (.ref f) = true

section
variable {X : Cx} {pins : List (Addr × Obj)} {σ : St} {H : Hp} {s : Shared} {a C dx : Addr} {fs : List (Str × V)} {f : Str} {v : V} {A : Around} {E : Value → Shared → Prop}






end

/-! ### readings and rules -/

section
variable {X : Cx} {o e value : Expr} {f : Str} {pos pos' tpos : Pos} {ta tv : TE}

end

/-! ### isinstance -/
section
variable {X : Cx} {pins : List (Addr × Obj)} {σ : St} {H : Hp} {s : Shared} {A : Around} {E : Value → Shared → Prop} {Q : Value → Shared → Prop} {c : Value} {b : Bool}
/-- the type of a value, as the fragment's deciders take it; for an instance its class -/
inductive TyOf (K : PySem.W.Frag) (H : Hp) : V → Value → Prop where
  | non : TyOf K H .non (.type "NoneType")
  | bl (x : Bool) : TyOf K H (.bl x) (.type "bool")
  | int (i : Int) : TyOf K H (.int i) (.type "int")
  | str (x : Str) : TyOf K H (.str x) (.type "str")
  | flt (x : UInt64) : TyOf K H (.flt x) (.type "float")
  | lst {a : Addr} {xs : List V} (e : H a = some (.lst xs)) : TyOf K H (.ref a) (.type "list")
  | frz {a : Addr} {o : Obj} {xs : List V} (e : H a = some (.frz o (.lst xs))) : TyOf K H (.ref a) (.type "list")
  | tup {a : Addr} {xs : List V} (e : H a = some (.tup xs)) : TyOf K H (.ref a) (.type "tuple")
  | dK {a : Addr} {kvs : List (Key × V)} (e : H a = some (.dK kvs)) : TyOf K H (.ref a) (.type "dict")
  | dT {a : Addr} {kvs : List (List Key × V)} (e : H a = some (.dT kvs)) : TyOf K H (.ref a) (.type "dict")
  | ins {a C dx : Addr} {fs : List (Str × V)} (e : H a = some (.ins C dx fs)) (cl : Cls K C) (ha : PySem.W.findIn K (.ref C) "__class__" = some (some (.builtin "object.__class__")))
      (hn : PySem.W.specialIn K (.builtin "object.__class__") "__get__" = some (some (.builtin "getset_descriptor.__get__"))) (htk : PySem.W.takesIn K (.builtin "object.__class__") = some true)
      (hm : PySem.W.mroIn K C (.type "object") = some true) : TyOf K H (.ref a) (.ref C)
/-- isinstance(x, c) for one class c, a built-in or an own one: kitOne's answer -/
theorem isinst_ok {x : V} {u t : Value} (I : Inv X pins σ H s) (rx : RelV x u) (ty : TyOf X.K H x t) (e : PySem.W.kitOne X.K t c = some b) (h : ∀ tk, Q (.bool b) { s with toks := tk }) :
    wpAny (model X.prog X.w) A (call (.builtin "isinstance") [u, c]) Q E s := by
  cases ty with
  | non => cases (show u = Value.none from rx); exact PySem.W.kia_one PySem.W.kitx_none I.kIn True.intro e (fun z => nomatch z) h
  | bl y => cases (show u = Value.bool y from rx); exact PySem.W.kia_one PySem.W.kitx_bool I.kIn True.intro e (fun z => nomatch z) h
  | int i => obtain ⟨t, q⟩ := (show ∃ t, u = Value.int i t from rx); cases q; exact PySem.W.kia_one PySem.W.kitx_int I.kIn True.intro e (fun z => nomatch z) h
  | str y => obtain ⟨t, q⟩ := (show ∃ t, u = Value.str y t from rx); cases q; exact PySem.W.kia_one PySem.W.kitx_str I.kIn True.intro e (fun z => nomatch z) h
  | flt y => obtain ⟨t, q⟩ := (show ∃ t, u = Value.float y t from rx); cases q; exact PySem.W.kia_one PySem.W.kitx_float I.kIn True.intro e (fun z => nomatch z) h
  | @lst a xs ea =>
    cases (show u = Value.ref a from rx)
    obtain ⟨_, _, n, _, h1⟩ := (show ObjOk X.prog X.w H s.heap a (.lst xs) from I.hok a _ ea)
    exact PySem.W.kia_one PySem.W.kitx_list I.kIn ⟨_, h1, rfl⟩ e (fun z => nomatch z) h
  | @frz a ob xs ea =>
    cases (show u = Value.ref a from rx)
    obtain ⟨_, _, _, n, _, h1⟩ := (show ObjOk X.prog X.w H s.heap a (.frz ob (.lst xs)) from I.hok a _ ea)
    exact PySem.W.kia_one PySem.W.kitx_list I.kIn ⟨_, h1, rfl⟩ e (fun z => nomatch z) h
  | @tup a xs ea =>
    cases (show u = Value.ref a from rx)
    obtain ⟨_, _, _, p⟩ := (show ObjOk X.prog X.w H s.heap a (.tup xs) from I.hok a _ ea)
    obtain ⟨o, h1, h2, _⟩ := p
    exact PySem.W.kia_one PySem.W.kitx_tuple I.kIn ⟨o, h1, h2⟩ e (fun z => nomatch z) h
  | @dK a kvs ea =>
    cases (show u = Value.ref a from rx)
    obtain ⟨_, _, vs, _, p⟩ := (show ObjOk X.prog X.w H s.heap a (.dK kvs) from I.hok a _ ea)
    obtain ⟨o, es, ep, h1, h2, _⟩ := p
    exact PySem.W.kia_one PySem.W.kitx_dict I.kIn ⟨o, h1, h2.1⟩ e (fun z => nomatch z) h
  | @dT a kvs ea =>
    cases (show u = Value.ref a from rx)
    obtain ⟨_, _, xs, _, o, es, ep, h1, h2, _⟩ := (show ObjOk X.prog X.w H s.heap a (.dT kvs) from I.hok a _ ea)
    exact PySem.W.kia_one PySem.W.kitx_dict I.kIn ⟨o, h1, h2.1⟩ e (fun z => nomatch z) h
  | @ins a C dx fs ea cl ha hn htk hm =>
    cases (show u = Value.ref a from rx)
    obtain ⟨mA, O, _⟩ := ins_get I.hok ea
    obtain ⟨od, J, _⟩ := O.look
    exact PySem.W.kia_one (PySem.W.kitx_own (cl.get _) cl.hd ha hn htk hm) I.kIn J e (fun z => nomatch z) h
end
end L2

namespace L2
open PySem PySem.Spec PyProof.Rows

/-! ### room -/
structure Room (k : Nat) (A : Around) : Prop where
  hd : A.handled = none
  dp : A.depth + 3 * k + 5 < recursionLimit
  un : A.units + 16 * k + 200 < cLine
theorem Room.mono {j k : Nat} {A : Around} (r : Room k A) (h : j ≤ k) : Room j A := ⟨r.hd, by have := r.dp; omega, by have := r.un; omega⟩
theorem Room.deeper {k : Nat} {A : Around} (r : Room (k + 1) A) (env : Env) : Room k (A.deeper env) :=
  ⟨r.hd, by have := r.dp; show A.depth + 1 + 3 * k + 5 < _; omega, by have := r.un; show A.units + 3 + 16 * k + 200 < _; omega⟩
theorem Room.depth {k : Nat} {A : Around} (r : Room k A) : A.depth < recursionLimit := by have := r.dp; omega
theorem Room.units {k : Nat} {A : Around} (r : Room k A) : A.units + 64 < cLine := by have := r.un; omega

/-! ### argument lists and displays -/
def tNil : TA := fun _ H Q => Q [] H
def tCons (ta : TE) (tr : TA) : TA := fun σ H Q => ta σ H fun x H1 => tr σ H1 fun xs H2 => Q (x :: xs) H2
section
variable {X : Cx} {e : Expr} {es : List Expr} {te : TE} {t : TA} {pos : Pos}
theorem pa_nil : PA X [] tNil := fun _ _ _ _ H Q I h => Calls.spliced_nil ⟨[], H, I, .nil, h⟩
theorem pa_cons (ha : PE X e te) (hr : PA X es t) (hs : starEach (e :: es) X.env = (false, eval e X.env) :: starEach es X.env := by rfl) : PA X (e :: es) (tCons te t) := by
  intro pos pins s σ H Q I h
  rw [hs]
  show wpAny _ _ (spliced ((false, eval e X.env) :: backTo pos (starEach es X.env))) _ _ s
  refine Calls.spliced_cons (thn (ha pins s σ H _ I h) fun u s1 ⟨x, H1, I1, r1, q1⟩ => ?_)
  exact thn (hr pos pins s1 σ H1 _ I1 q1) fun us s2 ⟨xs, H2, I2, r2, q2⟩ => ⟨x :: xs, H2, I2, .cons r1 r2, q2⟩

/-- a tuple, a list of written items -/
def tTup (t : TA) : TE := fun σ H Q => t σ H fun xs H1 => xs.length ≤ sizeLine ∧ ∀ p, H1 p = none → Q (.ref p) (upd H1 p (.tup xs))
def tLst (t : TA) : TE := fun σ H Q => t σ H fun xs H1 => xs.length ≤ sizeLine ∧ ∀ p, H1 p = none → Q (.ref p) (upd H1 p (.lst xs))
theorem pe_tup {x1} (h : PA X es t) : PE X (.Tuple es x1 pos) (tTup t) := by
  intro pins s σ H Q I hq
  refine wpAny_Tuple_spliced (thn (h pos pins s σ H _ I hq) fun us s1 ⟨xs, H1, I1, r, z, q⟩ => ⟨by rw [← r.length]; exact z, ?_⟩)
  have hf : H1 s1.heap.objs.size = none := I1.hok.fresh (Nat.le_refl _)
  refine ⟨.ref s1.heap.objs.size, upd H1 s1.heap.objs.size (.tup xs), I1.laid (t' := s1.toks) (fun b u e => Heap.get?_push_of_some _ e) (Nat.le_refl _) ?_, rfl, q _ hf⟩
  exact ⟨z, us, r, ⟨_, Heap.get?_push_size _ rfl, rfl, _, rfl⟩⟩
theorem pe_lst (h : PA X es t) : PE X (.List es pos) (tLst t) := by
  intro pins s σ H Q I hq
  refine wpAny_List_spliced (thn (h pos pins s σ H _ I hq) fun us s1 ⟨xs, H1, I1, r, z, q⟩ => ⟨by rw [← r.length]; exact z, ?_⟩)
  have hf : H1 s1.heap.objs.size = none := I1.hok.fresh (Nat.le_refl _)
  refine ⟨.ref s1.heap.objs.size, upd H1 s1.heap.objs.size (.lst xs), I1.laid (t' := s1.toks) (fun b u e => Heap.get?_push_of_some _ e) (Nat.le_refl _) ?_, rfl, q _ hf⟩
  exact ⟨z, us, 0, r, Heap.get?_push_size _ rfl⟩
end

/-! ### what a def promises -/
/-- a def's promise: the bound arguments in the parameters' order, the heap, the wanted end, the wanted exception -/
abbrev Sp := List V → Hp → VK → XK → Prop
/-- how an exception lies behind a call (file 08 gives it): the callers' frames, abstract heap and state ahead of the call, the wish, the exception, the state -/
abbrev CXT := List Env → Hp → Shared → XK → Value → Shared → Prop

/-- the state at a call -/
structure Env0 (P : Program) (w : World) (K : PySem.W.Frag) (mg : Str → Option Value) (base : Heap) (A : Around) (outer : List Env) (s : Shared) (H : Hp) : Prop where
  frames : A.frames = some outer
  mod : Mod K mg base
  bs : ∀ b o, base.get? b = some o → s.heap.get? b = some o ∧ H b = none
  bsz : base.objs.size ≤ s.heap.objs.size
  funs : s.heap.FunFrames base outer
  frf : ∀ b ∈ frs outer, H b = none
  hok : HOk P w H s.heap
  bare : AllBare s.gens
/-- a call's end -/
def CE (outer : List Env) (P : Program) (w : World) (H : Hp) (s : Shared) (Q : VK) (u : Value) (s' : Shared) : Prop :=
  ∃ v H', s'.os = s.os ∧ AllBare s'.gens ∧ Un (frs outer) [] H H' s.heap s'.heap ∧ HOk P w H' s'.heap ∧ RelV v u ∧ Q v H'
def CR (CX : CXT) (outer : List Env) (P : Program) (w : World) (H : Hp) (s : Shared) (Q : VK) (E : XK) (r : Result) (s' : Shared) : Prop :=
  match r with
  | .ok (.ret u) => CE outer P w H s Q u s'
  | .ok _ => False
  | .error e => CX outer H s E e s'
structure FnOk (P : Program) (w : World) (K : PySem.W.Frag) (mg : Str → Option Value) (base : Heap) (CX : CXT) (k : Nat) (f : Addr) (fd : FuncData) (ps : List Str) (sp : Sp) : Prop where
  len : ∀ vs H Q E, sp vs H Q E → vs.length = ps.length
  run : ∀ (A : Around) (outer : List Env) (s : Shared) (H : Hp) (args : Args) (us : List Value) (vs : List V) (Q : VK) (E : XK), Room k A → Env0 P w K mg base A outer s H → BindsTo s fd args (ps.zip us) → Vals vs us → sp vs H Q E →
    codeAny (model P w) A (.call (.ref f) args) (CR CX outer P w H s Q E) s


section
variable {X : Cx} {pins : List (Addr × Obj)} {σ : St} {H : Hp} {s s' : Shared}
/-- from a body: what a callee wants -/
theorem Inv.env0 (I : Inv X pins σ H s) : Env0 X.prog X.w X.K X.mg X.base X.A X.stack s H :=
  ⟨I.ok.frames, I.ok.mod, I.bs, Nat.le_trans I.ok.bsz I.sz, I.stack, I.stkFree, I.hok, I.bare⟩
/-- behind a call -/
theorem Inv.after {Q : VK} {u : Value} (I : Inv X pins σ H s) (h : CE X.stack X.prog X.w H s Q u s') : EP X pins σ Q u s' := by
  obtain ⟨v, H', os, bare, un, hok, r, q⟩ := h
  obtain ⟨hh, g, d, t, os'⟩ := s'
  obtain rfl : os' = s.os := os
  exact ⟨v, H', I.call (h' := hh) (g' := g) (d' := d) (t' := t) (ch := []) un hok bare (fun b z => absurd z (by simp)), r, q⟩
end

/-! ### calls -/
/-- f(..): the written arguments, then the defaults dvs; E: what is wanted of an exception -/
def tCall (sp : Sp) (dvs : List V) (E : XK) (t : TA) : TE := fun σ H Q => t σ H fun vs H1 => sp (vs ++ dvs) H1 Q E

/-- how the parameters are bound: us the positional arguments, kw the keywords' values by name, ds the defaults that fill up -/
def Binds (K : PySem.W.Frag) (fd : FuncData) (ps : List Str) (ds : List Value) : Prop :=
  ∀ (s : Shared) (us : List Value), K.In s.heap → (us ++ ds).length = ps.length → BindsTo s fd ⟨us, []⟩ (ps.zip (us ++ ds))
/-- every parameter is given -/
theorem Binds.all {K : PySem.W.Frag} {fd : FuncData} {ps : List Str} (h : ∀ us : List Value, us.length = ps.length → bindArgs fd ⟨us, []⟩ = pure (ps.zip us)) : Binds K fd ps [] := fun s us _ hl => by
  rw [List.append_nil] at hl ⊢
  exact .of_eq (h us hl)

/-- an exception of a callee reaches what this body wants of exceptions -/
def Passes (CX : CXT) (X : Cx) (E : XK) : Prop := ∀ (pins : List (Addr × Obj)) (σ : St) (H : Hp) (s : Shared) (e : Value) (s' : Shared), Inv X pins σ H s → CX X.stack H s E e s' → X.xe e s'

section
variable {X : Cx} {CX : CXT} {k : Nat} {f C : Addr} {fd : FuncData} {ps : List Str} {sp : Sp} {dvs : List V} {ds : List Value} {E : XK} {x m : Str} {p pos apos : Pos} {e o : Expr} {es : List Expr} {ta : TE} {t : TA}

/-- the callee runs -/
theorem run_fn {pins : List (Addr × Obj)} {σ : St} {H : Hp} {s : Shared} {Q : VK} {us : List Value} {vs : List V} (F : FnOk X.prog X.w X.K X.mg X.base CX k f fd ps sp) (hr : Room k X.A) (hb : Binds X.K fd ps ds) (hd : Vals dvs ds) (hx : Passes CX X E)
    (I : Inv X pins σ H s) (r : Vals vs us) (h : sp (vs ++ dvs) H Q E) : wpAny (model X.prog X.w) X.A (call (.ref f) us) (EP X pins σ Q) X.xe s := by
  have r2 : Vals (vs ++ dvs) (us ++ ds) := r.append hd
  have hl : (us ++ ds).length = ps.length := by rw [← r2.length]; exact F.len _ _ _ _ h
  refine wpAny_call (codeAny_mono (F.run X.A X.stack s H ⟨us, []⟩ (us ++ ds) (vs ++ dvs) Q E hr I.env0 (hb s us I.kIn hl) r2 h) fun r s' hq => ?_)
  cases r with
  | error e => exact hx pins σ H s e s' I hq
  | ok fl =>
    cases fl with
    | ret u => exact I.after hq
    | next => exact False.elim hq
    | brk => exact False.elim hq
    | cont => exact False.elim hq

theorem pe_call (F : FnOk X.prog X.w X.K X.mg X.base CX k f fd ps sp) (hr : Room k X.A) (hg : Gl X x) (hm : X.mg x = some (.ref f)) (hk : PySem.W.keepIn X.K (.ref f) = true) (hb : Binds X.K fd ps ds) (hd : Vals dvs ds) (hx : Passes CX X E)
    (ha : PA X (e :: es) t) (hdb : (x == ("__debug__" : Str)) = false := by decide) (he : starEach (e :: es) X.env = (false, eval e X.env) :: starEach es X.env := by rfl) (hpl : (backTo pos (starEach es X.env)).any (·.1) = false := by rfl) :
    PE X (.Call (.Name x p) (e :: es) [] pos) (tCall sp dvs E t) := by
  intro pins s σ H Q I h
  refine wpAny_Call_Name_kw (ld_glob I hg hm ?_ hdb)
  refine PySem.W.callWith_K (h₀ := X.base) I.ok.mod.kin hk (thn (ha pos pins s σ H _ I h) fun us s1 ⟨vs, H1, I1, r, q⟩ => ⟨I1.kIn, ?_⟩) he hpl
  exact run_fn F hr hb hd hx I1 r q


/-- what a class must have to be made -/
structure Mk (K : PySem.W.Frag) (C f : Addr) : Prop where
  makes : PySem.W.makesIn K C = true
  init : PySem.W.findIn K (.ref C) "__init__" = some (some (.ref f))
  fn : PySem.W.isFn K (.ref f) = true
  kp : PySem.W.keepIn K (.ref C) = true

end

/-! ### keywords -/
section
variable {X : Cx} {CX : CXT} {k : Nat} {f C : Addr} {fd : FuncData} {ps ks : List Str} {sp : Sp} {E : XK} {x m : Str} {p pos apos kpos : Pos} {e o : Expr} {es : List Expr} {kws : List Keyword} {te ta : TE} {t tk : TA} {nm : Option Str}

/-- how a call with keywords binds: g puts the positional values us and the keywords' values ws (names ks) in the parameters' order, defaults among them -/
structure KBinds (K : PySem.W.Frag) (fd : FuncData) (ps ks : List Str) (g : List Value → List Value → List Value) (gV : List V → List V → List V) : Prop where
  to : ∀ (s : Shared) (us ws : List Value), K.In s.heap → (g us ws).length = ps.length → BindsTo s fd ⟨us, ks.zip ws⟩ (ps.zip (g us ws))
  rel : ∀ {vs : List V} {us : List Value} {zs : List V} {ws : List Value}, Vals vs us → Vals zs ws → Vals (gV vs zs) (g us ws)
variable {g : List Value → List Value → List Value} {gV : List V → List V → List V}
end

/-! ### a def's body keeps its promise -/
/-- names: the parameters first -/
structure FnScope (N P : List Str) (sc : Scope) : Prop where
  kind : sc.kind = .function
  co : sc.isCoroutine = false
  gen : sc.isGenerator = false
  nd : N.Nodup
  pre : N.take P.length = P
  par : ∀ x ∈ P, sc.names.lookup x = some .local ∨ sc.names.lookup x = some .cell
  nofree : ∀ y ∈ sc.names, y.2 ≠ .free

theorem bindL_out {kindOf : Str → Option NameKind} {x : Str} : ∀ {binds : List (Str × Value)} {m : Str → Option Value}, (∀ v, (x, v) ∉ binds) → bindL kindOf binds m x = m x
  | [], _, _ => rfl
  | (n, v) :: r, m, h => by
    unfold bindL
    rw [bindL_out fun w hw => h w (List.mem_cons_of_mem _ hw)]
    split
    · have : x ≠ n := by rintro rfl; exact h v List.mem_cons_self
      simp [this]
    · rfl
theorem bindC_out {kindOf : Str → Option NameKind} {x : Str} : ∀ {binds : List (Str × Value)} {m : Str → Option Value}, (∀ v, (x, v) ∉ binds) → bindC kindOf binds m x = m x
  | [], _, _ => rfl
  | (n, v) :: r, m, h => by
    unfold bindC
    rw [bindC_out fun w hw => h w (List.mem_cons_of_mem _ hw)]
    split
    · rfl
    · have : x ≠ n := by rintro rfl; exact h v List.mem_cons_self
      simp [this]
theorem bindL_get {kindOf : Str → Option NameKind} {x : Str} {v : Value} : ∀ {P : List Str} {vs : List Value} {i : Nat} {m : Str → Option Value}, P.Nodup → P[i]? = some x → vs[i]? = some v → kindOf x = some .local →
    bindL kindOf (P.zip vs) m x = some v
  | [], _, _, _, _, h, _, _ => by simp at h
  | _ :: _, [], _, _, _, _, h, _ => by simp at h
  | p :: P, w :: vs, 0, m, nd, h1, h2, hk => by
    simp at h1 h2; subst h1; subst h2
    show bindL kindOf ((p, w) :: P.zip vs) m p = _
    unfold bindL
    rw [bindL_out fun v hv => (List.nodup_cons.mp nd).1 (List.of_mem_zip hv).1, if_pos hk]
    simp
  | p :: P, w :: vs, i + 1, m, nd, h1, h2, hk => by
    show bindL kindOf ((p, w) :: P.zip vs) m x = _
    unfold bindL
    exact bindL_get (i := i) (List.nodup_cons.mp nd).2 (by simpa using h1) (by simpa using h2) hk
theorem bindC_get {kindOf : Str → Option NameKind} {x : Str} {v : Value} : ∀ {P : List Str} {vs : List Value} {i : Nat} {m : Str → Option Value}, P.Nodup → P[i]? = some x → vs[i]? = some v → kindOf x ≠ some .local →
    bindC kindOf (P.zip vs) m x = some v
  | [], _, _, _, _, h, _, _ => by simp at h
  | _ :: _, [], _, _, _, _, h, _ => by simp at h
  | p :: P, w :: vs, 0, m, nd, h1, h2, hk => by
    simp at h1 h2; subst h1; subst h2
    show bindC kindOf ((p, w) :: P.zip vs) m p = _
    unfold bindC
    rw [bindC_out fun v hv => (List.nodup_cons.mp nd).1 (List.of_mem_zip hv).1, if_neg hk]
    simp
  | p :: P, w :: vs, i + 1, m, nd, h1, h2, hk => by
    show bindC kindOf ((p, w) :: P.zip vs) m x = _
    unfold bindC
    exact bindC_get (i := i) (List.nodup_cons.mp nd).2 (by simpa using h1) (by simpa using h2) hk

/-- the names' values at the entry -/
def start (N : List Str) (vs : List V) : St := vs.map some ++ List.replicate (N.length - vs.length) none

/-- the context of a def's body, at its entry; an exception leaves the frame, then lies as CX says -/
def cxOf (CX : CXT) (P : Program) (w : World) (K : PySem.W.Frag) (mg : Str → Option Value) (base : Heap) (N : List Str) (qual : Str) (scope : Scope) (f : Addr) (cd : Value) (A : Around) (outer : List Env) (s : Shared) (H : Hp) (E : XK) : Cx where
  prog := P
  w := w
  K := K
  mg := mg
  base := base
  A := A.deeper (envOfC qual scope s.heap.objs.size f cd)
  N := N
  s₀ := s
  H₀ := H
  env := envOfC qual scope s.heap.objs.size f cd
  outer := outer
  stack := envOfC qual scope s.heap.objs.size f cd :: outer
  ex := []
  calm := true
  fn := fun _ => true
  pn := []
  xe := fun e s' => wpAny (model P w) (A.deeper (envOfC qual scope s.heap.objs.size f cd)) (leaving (envOfC qual scope s.heap.objs.size f cd) e) (fun _ s'' => CX outer H s E e s'') (fun e' s'' => CX outer H s E e' s'') s'

theorem cell_has {sc : Scope} {n : Nat} {x : Str} (h : sc.names.lookup x = some .cell) : ∃ c, (cellsFrom n sc.names []).lookup x = some c := by
  have q := PySem.W.cellsFrom_some sc.names n [] (.inl h)
  exact Option.isSome_iff_exists.mp q

theorem inv_start {CX : CXT} {P : Program} {w : World} {K : PySem.W.Frag} {mg : Str → Option Value} {base : Heap} {N ps : List Str} {qual : Str} {scope : Scope} {f : Addr} {cd : Value} {A : Around} {outer : List Env} {s s1 : Shared} {H : Hp} {E : XK} {us : List Value} {vs : List V}
    (S : FnScope N ps scope) (hd : A.handled = none) (e0 : Env0 P w K mg base A outer s H) (hl : vs.length = ps.length) (r : Vals vs us)
    (x : InCallC s s.heap.objs.size (bindL (envOfC qual scope s.heap.objs.size f cd).kindOf (ps.zip us) fun _ => none) (cellsFrom (s.heap.objs.size + 1) scope.names []) (bindC (envOfC qual scope s.heap.objs.size f cd).kindOf (ps.zip us) fun _ => none) s1) :
    Inv (cxOf CX P w K mg base N qual scope f cd A outer s H E) [] (start N vs) H s1 := by
  have hpl : ps.length ≤ N.length := by have := congrArg List.length S.pre; rw [List.length_take] at this; omega
  obtain ⟨h1, tk, rfl, hk⟩ := x.done
  have noA : ∀ b : Addr, b ∉ (cxOf CX P w K mg base N qual scope f cd A outer s H E).ex := fun b z => absurd (show b ∈ ([] : List Addr) from z) (by simp)
  refine ⟨⟨e0.mod, S.kind, rfl, rfl, Nat.le_refl _, fun y z c h1 h2 => ?_, fun y hy => ?_, fun y c _ h => ?_, fun _ => hd, Around.frames_deeper e0.frames, .inr ⟨rfl, rfl⟩, fun b z => absurd z (noA b), e0.bs, e0.bsz, fun b _ _ => noA b, fun b z => absurd z (noA b), e0.funs, e0.frf⟩,
    rfl, e0.bare, Un.kept hk, ⟨_, x.toInCall.ns, fun i y v h1 h2 h3 => ?_⟩, fun y c h => ⟨_, x.cell y c h⟩, e0.hok.fresh (Nat.le_refl _), fun y c h => ?_, fun p hp => absurd (show p ∈ ([] : List (Addr × Obj)) from hp) (by simp), e0.hok.kept hk, ?_⟩
  · exact name_of_addr x.apart (PySem.mem_of_lookup h1) (PySem.mem_of_lookup h2)
  · have hy : scope.names.lookup y = some .cell ∨ scope.names.lookup y = some .free := hy
    rcases hy with hy | hy
    · exact cell_has hy
    · exact absurd rfl (S.nofree _ (PySem.mem_of_lookup hy))
  · exact Nat.le_of_lt (x.above y c (PySem.mem_of_lookup h))
  · have hi : i < vs.length := by
      unfold start at h2
      by_cases hi : i < vs.length
      · exact hi
      · rw [List.getElem?_append_right (by simpa using hi)] at h2
        rw [List.getElem?_replicate] at h2
        split at h2 <;> cases h2
    have ha : vs[i]? = some v := by
      unfold start at h2
      rw [List.getElem?_append_left (by simpa using hi), List.getElem?_map] at h2
      cases e : vs[i]? with
      | none => rw [e] at h2; cases h2
      | some a => rw [e] at h2; cases h2; rfl
    obtain ⟨u, hu, rv⟩ := r.get ha
    have hp : ps[i]? = some y := by
      rw [← S.pre, List.getElem?_take_of_lt (by omega)]; exact h1
    have ndP : ps.Nodup := by rw [← S.pre]; exact S.nd.sublist (List.take_sublist _ _)
    refine ⟨u, rv, ?_⟩
    rcases S.par y (List.mem_of_getElem? hp) with k | k
    · exact .inl ⟨k, bindL_get ndP hp hu k⟩
    · obtain ⟨c, e⟩ := cell_has (n := s.heap.objs.size + 1) k
      refine .inr ⟨.inl k, c, e, ?_⟩
      have q := x.cell y c e
      rw [bindC_get ndP hp hu (by show scope.names.lookup y ≠ _; rw [k]; decide)] at q
      exact q
  · exact e0.hok.fresh (Nat.le_of_lt (x.above y c (PySem.mem_of_lookup h)))
  · unfold start
    show _ = N.length
    rw [List.length_append, List.length_map, List.length_replicate]
    omega

/-- THE RULE: a def (or a method) of the text, by its body. The body's reading t is chosen for each entry; it is run at the parameters' values -/
theorem fn_of {CX : CXT} {P : Program} {w : World} {K : PySem.W.Frag} {mg : Str → Option Value} {base : Heap} {k : Nat} {f : Addr} {name qual : Str} {params : Arguments} {body : List Stmt} {scope : Scope} {dV kV doc pm cdv ct oc : Value} {an od : Option Addr}
    {osl : Array (Option Value)} {N ps : List Str} {sp : Sp} (lk : K.lookup f = some ⟨oc, od, .func (PySem.W.fnOf name qual params body scope dV kV doc pm an cdv ct), osl⟩) (hcd : PySem.W.codeIn K cdv qual = true) (S : FnScope N ps scope)
    (len : ∀ vs H Q E, sp vs H Q E → vs.length = ps.length)
    (hbody : ∀ (A : Around) (outer : List Env) (s : Shared) (H : Hp) (vs : List V) (Q : VK) (E : XK), Room k (A.deeper (envOfC qual scope s.heap.objs.size f cdv)) → sp vs H Q E →
      ∃ t, PSs (cxOf CX P w K mg base N qual scope f cdv A outer s H E) body t ∧ t { nx := fun _ H' => Q .non H', rt := Q } (start N vs) H) :
    FnOk P w K mg base CX (k + 1) f (PySem.W.fnOf name qual params body scope dV kV doc pm an cdv ct) ps sp := by
  refine ⟨len, fun A outer s H args us vs Q E hr e0 hb r hsp => ?_⟩
  have hl := len _ _ _ _ hsp
  have KX : K.In s.heap := e0.mod.kin.keeps fun b o e => (e0.bs b o e).1
  have lim : s.heap.NoLimit := e0.mod.nolimit.keeps fun b o e => (e0.bs b o e).1
  have hkind : ∀ y ∈ ps.zip us, scope.names.lookup y.1 = some .local ∨ (scope.names.lookup y.1 = some .cell ∧ ((cellsFrom (s.heap.objs.size + 1) scope.names []).lookup y.1).isSome = true) := fun ⟨n, v⟩ hy => by
    rcases S.par n (List.of_mem_zip hy).1 with q | q
    · exact .inl q
    · exact .inr ⟨q, PySem.W.cellsFrom_some _ _ _ (.inl q)⟩
  refine codeAny_call_function hr.depth (KX _ _ lk) rfl S.co S.gen rfl (PySem.W.codeRec_of KX hcd) (hb _ _ _ _ ?_)
  refine wpAny_newFunctionEnv_cells S.kind hkind fun env he s1 x => ?_
  subst he
  refine ⟨lim.keeps x.toInCall.keep, codeAny_func ?_⟩
  obtain ⟨t, ht, hq⟩ := hbody A outer s H vs Q E (hr.deeper _) hsp
  have I : Inv (cxOf CX P w K mg base N qual scope f cdv A outer s H E) [] (start N vs) H s1 := inv_start S hr.hd e0 hl r x
  refine wpAny_mono (ht [] s1 (start N vs) H _ I hq) (fun fl s' hs => ?_) fun e s' hs => hs
  have fin : ∀ {σ' : St} {H' : Hp} {v : V} {u : Value}, Inv (cxOf CX P w K mg base N qual scope f cdv A outer s H E) [] σ' H' s' → RelV v u → Q v H' → CE outer P w H s Q u s' :=
    fun {σ' H' v u} J rv q => ⟨v, H', J.os, J.bare, J.base, J.hok, rv, q⟩
  cases fl with
  | ret u =>
    obtain ⟨v, σ', H', J, rv, q⟩ := hs
    exact fin J rv q
  | next =>
    obtain ⟨σ', H', J, q⟩ := hs
    exact fin (v := V.non) (u := Value.none) J rfl q
  | brk =>
    obtain ⟨_, _, _, q⟩ := hs
    exact False.elim q
  | cont =>
    obtain ⟨_, _, _, q⟩ := hs
    exact False.elim q
end L2

namespace L2
open PySem PySem.Spec PyProof.Rows
section
variable {X : Cx} {x : Str} {p pos : Pos} {e : Expr} {es : List Expr} {t : TA} {id T : String} {r : List V → Hp → VK → Prop}

def tCB (r : List V → Hp → VK → Prop) (t : TA) : TE := fun σ H Q => t σ H fun vs H1 => r vs H1 Q
/-- f(e, ..), f a built-in function -/
theorem pe_callB (hc : CallR X (.builtin id) r) (hg : Gl X x) (hm : X.mg x = none) (hv : bootBuiltins x = some (.builtin id)) (ha : PA X (e :: es) t) (hn : x ≠ "__name__" := by decide) (hdb : (x == ("__debug__" : Str)) = false := by decide)
    (he : starEach (e :: es) X.env = (false, eval e X.env) :: starEach es X.env := by rfl) (hpl : (backTo pos (starEach es X.env)).any (·.1) = false := by rfl) : PE X (.Call (.Name x p) (e :: es) [] pos) (tCB r t) := by
  intro pins s σ H Q I h
  refine wpAny_Call_Name_kw (ld_blt I hg hm hv ?_ hn hdb)
  exact PyProof.Rows.callWith_builtin1 (thn (ha pos pins s σ H _ I h) fun us s1 ⟨vs, H1, I1, r1, q1⟩ => hc pins s1 σ H1 vs us Q I1 r1 q1) he hpl
/-- T(e, ..), T a built-in type -/
theorem pe_callTy (hc : CallR X (.type T) r) (hg : Gl X x) (hm : X.mg x = none) (hv : bootBuiltins x = some (.type T)) (ha : PA X (e :: es) t) (hn : x ≠ "__name__" := by decide) (hdb : (x == ("__debug__" : Str)) = false := by decide)
    (he : starEach (e :: es) X.env = (false, eval e X.env) :: starEach es X.env := by rfl) (hpl : (backTo pos (starEach es X.env)).any (·.1) = false := by rfl) : PE X (.Call (.Name x p) (e :: es) [] pos) (tCB r t) := by
  intro pins s σ H Q I h
  refine wpAny_Call_Name_kw (ld_blt I hg hm hv ?_ hn hdb)
  exact PyProof.Rows.callWith_type1 (thn (ha pos pins s σ H _ I h) fun us s1 ⟨vs, H1, I1, r1, q1⟩ => hc pins s1 σ H1 vs us Q I1 r1 q1) he hpl
end
end L2

namespace HT
open PySem PyProof.Rows



section
open PySem.SeqAt
open PySem.AutoSeq1 (wpAny_loadPart')
open PySem.MeetsSeq PySem.MeetsSeq2 PySem.MeetsSeq3

end

section
variable {prog : Program} {w : World} {A : Around} {E : Value → Shared → Prop} {s : Shared}


/-- t + u, t not empty -/
theorem cat_tup {t b : Addr} {vs ws : List Value} {Q : Value → Shared → Prop} (ht : IsTup s.heap t vs.toArray) (hb : IsTup s.heap b ws.toArray) (hv : vs ≠ [])
    (h1 : ws = [] → Q (.ref t) s) (h2 : ws ≠ [] → Q (.ref s.heap.objs.size) { s with heap := s.heap.push { cls := .type "tuple", data := .seq (vs ++ ws).toArray } })
    (hsz : vs.length + ws.length ≤ sizeLine) : wpAny (model prog w) A (binaryOp .Add (.ref t) (.ref b)) Q E s := by
  obtain ⟨⟨cls, dd, data, sl⟩, ho, hc, n, hd⟩ := id ht
  obtain ⟨⟨cls2, dd2, data2, sl2⟩, ho2, hc2, n2, hd2⟩ := id hb
  simp only at hc hd hc2 hd2
  subst hc hd hc2 hd2
  have e : vs.toArray ++ ws.toArray = (vs ++ ws).toArray := by simp
  by_cases hw : ws = []
  · exact concat_meets ⟨_, ho, rfl⟩ ⟨_, ho2, rfl⟩ noFill_tuple_add seq_tuple_add PySem.F.slot_tuple_add PySem.F.entry_tuple_add (PySem.F.args_tuple_add_2 _ _)
      (tuple_addW1 t b vs.toArray ws.toArray n n2 dd dd2 sl sl2 (by simpa using hv) (by simp [hw])) ⟨ho, ho2, h1 hw⟩
  · refine concat_meets ⟨_, ho, rfl⟩ ⟨_, ho2, rfl⟩ noFill_tuple_add seq_tuple_add PySem.F.slot_tuple_add PySem.F.entry_tuple_add (PySem.F.args_tuple_add_2 _ _)
      (tuple_addW2 t b vs.toArray ws.toArray n n2 dd dd2 sl sl2 (by simpa using hv) (by simpa using hw) (by rw [List.size_toArray, List.size_toArray]; exact hsz)) ⟨ho, ho2, ?_⟩
    rw [e]
    exact h2 hw

/-! ### t[a:b], not the whole -/
/-- a slice's bound as a place among n (d where it is left out) -/
def sIx (n d : Nat) : Option Int → Nat
  | none => d
  | some v => if v < 0 then (v + (n : Int)).toNat else min v.toNat n
theorem sIx_none (n d : Nat) : sIx n d none = d := rfl
theorem sIx_nat (n d k : Nat) : sIx n d (some (k : Int)) = min k n := by
  show (if (k : Int) < 0 then ((k : Int) + (n : Int)).toNat else min (k : Int).toNat n) = min k n
  rw [if_neg (by omega), Int.toNat_natCast]
theorem sIx_le (n d : Nat) (hd : d ≤ n) (o : Option Int) : sIx n d o ≤ n := by
  cases o with
  | none => exact hd
  | some v =>
    show (if v < 0 then (v + (n : Int)).toNat else min v.toNat n) ≤ n
    by_cases hv : v < 0
    · rw [if_pos hv]; omega
    · rw [if_neg hv]; exact Nat.min_le_right _ _
theorem clip_eq (v : Int) (n d : Nat) : (if v < 0 then max (v + (n : Int)) 0 else min v (n : Int)) = ((sIx n d (some v) : Nat) : Int) := by
  show (if v < 0 then max (v + (n : Int)) 0 else min v (n : Int)) = (((if v < 0 then (v + (n : Int)).toNat else min v.toNat n) : Nat) : Int)
  by_cases hv : v < 0
  · simp only [if_pos hv]; omega
  · simp only [if_neg hv]; omega
theorem adjust_gen (lo hi : Option Int) (n : Nat) : Builtin.Slice.sliceAdjust lo hi 1 (n : Int) = (((sIx n 0 lo : Nat) : Int), ((sIx n n hi : Nat) : Int)) := by
  have h1 : ¬ ((1 : Int) < 0) := by omega
  unfold Builtin.Slice.sliceAdjust
  simp only [h1, if_false]
  refine Prod.ext ?_ ?_
  · cases lo with
    | none => rfl
    | some v => exact clip_eq v n 0
  · cases hi with
    | none => rfl
    | some v => exact clip_eq v n n
theorem places_gen (i j : Nat) : Builtin.Slice.slicePlaces (i : Int) (j : Int) 1 = j - i := by
  unfold Builtin.Slice.slicePlaces
  have h1 : (1 : Int) > 0 := by omega
  simp only [h1, if_true, Int.ediv_one]
  split <;> omega
theorem slicePart_ {v : Value} {o : Option Int} {Q : Option Int → Shared → Prop} (p : IsPart v o) (h : Q o s) : wpAny (model prog w) A (Builtin.Slice.slicePartIndex v) Q E s := by
  cases p with
  | none => exact slicePart_none h
  | int i t => exact slicePart_int h
theorem sliceApplied_gen {sl : Addr} {vl vu : Value} {lo hi : Option Int} {n : Nat} {Q : Int × Int × Nat → Shared → Prop} (hs : s.heap.IsSliceOf sl vl vu .none) (pl : IsPart vl lo) (pu : IsPart vu hi)
    (h : Q (((sIx n 0 lo : Nat) : Int), 1, sIx n n hi - sIx n 0 lo) s) : wpAny (model prog w) A (Builtin.Slice.sliceApplied (.ref sl) (pure (n : Int))) Q E s := by
  obtain ⟨os, hos, hcs, hds⟩ := id hs
  unfold Builtin.Slice.sliceApplied Builtin.Slice.sliceFields
  refine wpAny_bind (wpAny_bind (wpAny_field hos hds (x := vl) rfl (wpAny_bind (wpAny_field hos hds (x := vu) rfl (wpAny_bind (wpAny_field hos hds (x := .none) rfl (wpAny_pure ?_)))))))
  refine wpAny_bind (slicePart_none ?_)
  show wpAny _ _ (if ((1 : Int) == 0) = true then _ else _) _ _ s
  rw [if_neg (by decide)]
  refine wpAny_bind (slicePart_ pl (wpAny_bind (slicePart_ pu (wpAny_bind (wpAny_pure ?_)))))
  show wpAny _ _ (match Builtin.Slice.sliceAdjust lo hi 1 (n : Int) with | (lo, hi) => pure (lo, (1 : Int), Builtin.Slice.slicePlaces lo hi 1)) _ _ s
  rw [adjust_gen lo hi n]
  show wpAny _ _ (pure (((sIx n 0 lo : Nat) : Int), (1 : Int), Builtin.Slice.slicePlaces ((sIx n 0 lo : Nat) : Int) ((sIx n n hi : Nat) : Int) 1)) _ _ s
  rw [places_gen]
  exact wpAny_pure h
theorem pick_gen (xs : Array Value) (i k : Nat) : ((List.range k).filterMap fun (m : Nat) => xs[((i : Int) + (m : Int) * 1).toNat]?).toArray = ((xs.toList.drop i).take k).toArray := by
  have e : (fun (m : Nat) => xs[((i : Int) + (m : Int) * 1).toNat]?) = fun m => xs[i + m]? := by
    funext m
    have : ((i : Int) + (m : Int) * 1).toNat = i + m := by omega
    rw [this]
  rw [e]
  have := pick_run xs i k
  rw [List.filterMap_map] at this
  have e2 : ((fun x => xs[x]?) ∘ fun x => i + x) = fun m => xs[i + m]? := rfl
  rw [e2] at this
  rw [this]

theorem getItem_tuple_cut {t sl : Addr} {items : Array Value} {vl vu : Value} {lo hi : Option Int} {Q : Value → Shared → Prop} (ht : IsTup s.heap t items) (hs : s.heap.IsSliceOf sl vl vu .none) (pl : IsPart vl lo) (pu : IsPart vu hi)
    (hw : ¬ (sIx items.size 0 lo = 0 ∧ sIx items.size items.size hi = items.size))
    (h : Q (.ref s.heap.objs.size) { s with heap := s.heap.push { cls := .type "tuple", data := .seq ((items.toList.drop (sIx items.size 0 lo)).take (sIx items.size items.size hi - sIx items.size 0 lo)).toArray } })
    (hsz : items.size ≤ sizeLine) : wpAny (model prog w) A (getItem (.ref t) (.ref sl)) Q E s := by
  have htake : sizeOk (.seq ((items.toList.drop (sIx items.size 0 lo)).take (sIx items.size items.size hi - sIx items.size 0 lo)).toArray) := by
    show ((items.toList.drop (sIx items.size 0 lo)).take (sIx items.size items.size hi - sIx items.size 0 lo)).toArray.size ≤ sizeLine
    rw [List.size_toArray, List.length_take, List.length_drop, Array.length_toList]
    omega
  have hj : sIx items.size items.size hi ≤ items.size := sIx_le _ _ (Nat.le_refl _) hi
  obtain ⟨os, hos, hcs, hds⟩ := id hs
  have hTs : s.TypeIs (.ref sl) "slice" := ⟨os, hos, hcs⟩
  unfold getItem
  try with_reducible refine wpAny_holding ?_
  first | refine wpAny_bind (wpAny_pure ?_) | skip
  refine wpAny_bind (wpAny_sequenceKey ht.typeIs (by decide) ?_)
  refine wpAny_bind (wpAny_callSpecial?_slot (name := Str.ofString "__getitem__") ht.typeIs PyProof.Rows.slot_tuple_getitem
    (wpAny_call_entry PyProof.Rows.slot_tuple_getitem ht.typeIs entry_tuple_getitem ?_ (args_tuple_getitem _ _)))
  show wpAny _ _ (Builtin.Tuple.tupleItemsOf (.ref t) >>= _) _ _ s
  refine wpAny_bind (tupleItemsOf_ ht ?_)
  refine wpAny_bind (wpAny_typeOf hTs ?_)
  rw [if_pos (by decide)]
  refine wpAny_bind (sliceApplied_gen hs pl pu ?_)
  have hno : ¬ ((((sIx items.size 0 lo : Nat) : Int) == 0 && (1 : Int) == 1 && (sIx items.size items.size hi - sIx items.size 0 lo) == items.size) = true) := by
    intro q
    rw [Bool.and_eq_true, Bool.and_eq_true] at q
    have q1 : ((sIx items.size 0 lo : Nat) : Int) = 0 := eq_of_beq q.1.1
    have q2 : sIx items.size items.size hi - sIx items.size 0 lo = items.size := eq_of_beq q.2
    exact hw ⟨by omega, by omega⟩
  show wpAny _ _ (if (((sIx items.size 0 lo : Nat) : Int) == 0 && (1 : Int) == 1 && (sIx items.size items.size hi - sIx items.size 0 lo) == items.size) = true then _ else _) _ _ s
  rw [if_neg hno, pick_gen]
  first
    | exact wpAny_bind (m := Builtin.Tuple.tupleExact _) (wpAny_newObj_type (wpAny_pure ⟨_, rfl, wpAny_pure h⟩) htake)
    | exact wpAny_bind (m := Builtin.Tuple.tupleExact _) (wpAny_newObj_type (wpAny_bind (wpAny_pure (wpAny_pure ⟨_, rfl, wpAny_pure h⟩))) htake)
    | exact wpAny_bind (wpAny_bind (m := Builtin.Tuple.tupleExact _) (wpAny_newObj_type (wpAny_pure (wpAny_pure ⟨_, rfl, wpAny_pure h⟩)) htake))
    | exact wpAny_bind (wpAny_bind (m := Builtin.Tuple.tupleExact _) (wpAny_newObj_type (wpAny_pure ⟨_, rfl, wpAny_pure h⟩) htake))
end
end HT

namespace L2
open PySem PySem.Spec PyProof.Rows

/-! ### the parts of a slice -/
abbrev TO := St → Hp → (Option Int → Hp → Prop) → Prop
/-- a slice's part (left out, or an int) -/
def PO (X : Cx) (e : Option Expr) (t : TO) : Prop :=
  ∀ (pins : List (Addr × Obj)) (s : Shared) (σ : St) (H : Hp) (Q : Option Int → Hp → Prop), Inv X pins σ H s → t σ H Q →
    wpAny (model X.prog X.w) X.A (evalPart e X.env) (fun u s' => ∃ o H', Inv X pins σ H' s' ∧ IsPart u o ∧ Q o H') X.xe s
def tNoPart : TO := fun _ H Q => Q none H
def tPart (t : TE) : TO := fun σ H Q => t σ H fun x H1 => ∃ i, x = .int i ∧ Q (some i) H1


section
variable {X : Cx} {e : Expr} {te : TE} {lo hi : Option Expr} {tl th : TO} {pos p2 : Pos}

theorem po_none : PO X none tNoPart := by
  intro pins s σ H Q I h
  rw [evalPart_none]
  exact wpAny_pure ⟨none, H, I, .none, h⟩
theorem po_some (h : PE X e te) : PO X (some e) (tPart te) := by
  intro pins s σ H Q I hw
  rw [evalPart_some]
  refine thn (h pins s σ H _ I hw) fun u s1 ⟨x, H1, I1, r1, q1⟩ => ?_
  obtain ⟨i, rfl, q⟩ := q1
  obtain ⟨t, rfl⟩ := r1
  exact ⟨some i, H1, I1, .int i t, q⟩

/-- what a slice of a value is, by values: the slice object stands at sl -/
def SlR (X : Cx) (r : V → Option Int → Option Int → Hp → VK → Prop) : Prop :=
  ∀ (pins : List (Addr × Obj)) (s : Shared) (σ : St) (H : Hp) (x : V) (v vl vu : Value) (lo hi : Option Int) (sl : Addr) (Q : VK), Inv X pins σ H s → RelV x v → s.heap.IsSliceOf sl vl vu .none → IsPart vl lo → IsPart vu hi → r x lo hi H Q →
    ∃ T id, typeLookup (.type T) "__getitem__" = pure (some (.builtin id)) ∧ s.TypeIs v T ∧ wpAny (model X.prog X.w) X.A (getItem v (.ref sl)) (EP X pins σ Q) X.xe s
def tSl (r : V → Option Int → Option Int → Hp → VK → Prop) (te : TE) (tl th : TO) : TE := fun σ H Q => te σ H fun x H1 => tl σ H1 fun l H2 => th σ H2 fun u H3 => r x l u H3 Q
/-- a[lo:hi], any a -/
theorem pe_slice {r : V → Option Int → Option Int → Hp → VK → Prop} (hr : SlR X r) (he : PE X e te) (hl : PO X lo tl) (hu : PO X hi th) : PE X (.Subscript e (.Slice lo hi none p2) pos) (tSl r te tl th) := by
  intro pins s σ H Q I h
  refine Subscript_ (thn (he pins s σ H _ I h) fun v s1 ⟨x, H1, I1, r1, q1⟩ => ?_)
  refine wpAny_Slice (thn (hl pins s1 σ H1 _ I1 q1) fun vl s2 ⟨l, H2, I2, pl, q2⟩ => thn (hu pins s2 σ H2 _ I2 q2) fun vu s3 ⟨u, H3, I3, pu, q3⟩ => ?_)
  rw [evalPart_none]
  refine wpAny_pure ?_
  have I4 : Inv X pins σ H3 { s3 with heap := s3.heap.push { cls := .type "slice", data := .fields #[vl, vu, .none] } } := I3.kept (t' := s3.toks) fun b ob q => Heap.get?_push_of_some _ q
  obtain ⟨T, id, hT, ht, hg⟩ := hr pins { s3 with heap := s3.heap.push { cls := .type "slice", data := .fields #[vl, vu, .none] } } σ H3 x v vl vu l u s3.heap.objs.size Q I4 r1 (Heap.IsSliceOf.new ..) pl pu q3
  show wpAny (model X.prog X.w) X.A (subscriptTail e (.Slice lo hi none p2) v (.ref s3.heap.objs.size)) (EP X pins σ Q) X.xe { s3 with heap := s3.heap.push { cls := .type "slice", data := .fields #[vl, vu, .none] } }
  exact tail_any (ops := [.ref s3.heap.objs.size, v]) ht hT hg (by with_unfolding_all rfl)

/-- the items of xs[lo:hi] -/
def cutV (xs : List V) (lo hi : Option Int) : List V := (xs.drop (HT.sIx xs.length 0 lo)).take (HT.sIx xs.length xs.length hi - HT.sIx xs.length 0 lo)
theorem cutV_length (xs : List V) (lo hi : Option Int) : (cutV xs lo hi).length ≤ xs.length := by
  unfold cutV
  rw [List.length_take, List.length_drop]
  omega

/-! ### t < u, t + u -/
/-- t + u, t not empty: u empty gives t itself -/
def rCatT (K : PySem.W.Frag) : R2 := fun x y H Q => ∃ a b xs ys, x = .ref a ∧ y = .ref b ∧ SqT K H a xs ∧ SqT K H b ys ∧ xs ≠ [] ∧ xs.length + ys.length ≤ sizeLine ∧
  (ys = [] → Q (.ref a) H) ∧ (ys ≠ [] → ∀ p, H p = none → Q (.ref p) (upd H p (.tup (xs ++ ys))))
theorem Vals.nil_iff {xs : List V} {us : List Value} (r : Vals xs us) : us = [] ↔ xs = [] := by
  cases r with
  | nil => simp
  | cons _ _ => simp
theorem op_catT : OpR X (binaryOp .Add) (rCatT X.K) := by
  intro pins s σ H x y v u Q I rx ry h
  obtain ⟨a, b, xs, ys, rfl, rfl, ha, hb, hx, hz, q1, q2⟩ := h
  cases rx
  cases ry
  obtain ⟨its, r1, p1, _⟩ := I.tuple ha
  obtain ⟨its2, r2, p2, _⟩ := I.tuple hb
  refine HT.cat_tup p1 p2 (fun z => hx (r1.nil_iff.mp z)) (fun z => ⟨.ref a, H, I, rfl, q1 (r2.nil_iff.mp z)⟩) (fun z => ?_) (by rw [← r1.length, ← r2.length]; exact hz)
  refine ⟨.ref s.heap.objs.size, _, I.laid (t' := s.toks) (o := .tup (xs ++ ys)) (fun b ob q => Heap.get?_push_of_some _ q) (Nat.le_refl _) ?_, rfl, q2 (fun w => z (r2.nil_iff.mpr w)) _ (I.hok.fresh (Nat.le_refl _))⟩
  exact ⟨by rw [List.length_append]; exact hz, _, r1.append r2, IsTup.new _ _⟩
end
end L2

namespace L2
open PySem PySem.Spec PyProof.Rows

/-! ### places -/
/-- the place that an index of any sign means -/
def ixN (n : Nat) (i : Int) : Option Nat := if 0 ≤ i then (if i < n then some i.toNat else none) else if -(n : Int) ≤ i then some (i + n).toNat else none
def atI {α : Type} (xs : List α) (i : Int) : Option α := (ixN xs.length i).bind fun j => xs[j]?
theorem ixN_seq {n : Nat} {i : Int} {j : Nat} (h : ixN n i = some j) : seqIndex? i n = some j ∧ j < n ∧ -(n : Int) ≤ i ∧ i < n := by
  unfold ixN at h
  by_cases h0 : 0 ≤ i
  · rw [if_pos h0] at h
    by_cases h1 : i < n
    · rw [if_pos h1] at h
      have e : i.toNat = j := Option.some.inj h
      exact ⟨by rw [seqIndex_of h0 h1, e], by omega, by omega, h1⟩
    · rw [if_neg h1] at h; cases h
  · rw [if_neg h0] at h
    by_cases h1 : -(n : Int) ≤ i
    · rw [if_pos h1] at h
      have e : (i + n).toNat = j := Option.some.inj h
      exact ⟨by rw [seqIndex_neg (by omega) h1, e], by omega, h1, by omega⟩
    · rw [if_neg h1] at h; cases h
theorem atI_get {α : Type} {xs : List α} {i : Int} {v : α} (h : atI xs i = some v) : ∃ j, seqIndex? i xs.length = some j ∧ xs[j]? = some v ∧ j < xs.length ∧ -(xs.length : Int) ≤ i ∧ i < xs.length := by
  unfold atI at h
  cases e : ixN xs.length i with
  | none => rw [e] at h; cases h
  | some j =>
    rw [e] at h
    obtain ⟨h1, h2, h3, h4⟩ := ixN_seq e
    exact ⟨j, h1, h, h2, h3, h4⟩
theorem atI_nat {α : Type} {xs : List α} {j : Nat} {v : α} (h : xs[j]? = some v) : atI xs (j : Int) = some v := by
  have hj : j < xs.length := (List.getElem?_eq_some_iff.mp h).1
  have e : ixN xs.length (j : Int) = some j := by
    unfold ixN
    rw [if_pos (by omega), if_pos (by omega)]; simp
  unfold atI; rw [e]; exact h

/-! ### what may be subscripted -/
/-- what stands as an index of a plain subscript -/
def PlainIx (b : Expr) : Prop := ∀ o i, subscripted b false o i = operate [o, i] (getItem o i)
/-- a subscript by values -/
def IxR (X : Cx) (r : R2) : Prop :=
  ∀ (value slice : Expr) (pins : List (Addr × Obj)) (s : Shared) (σ : St) (H : Hp) (x y : V) (v u : Value) (Q : VK), Inv X pins σ H s → RelV x v → RelV y u → r x y H Q →
    subscripted slice false v u = operate [v, u] (getItem v u) → wpAny (model X.prog X.w) X.A (subscriptTail value slice v u) (EP X pins σ Q) X.xe s
/-- a call of a builtin's method by values: the receiver, the arguments -/
def MtR (X : Cx) (id : String) (r : V → List V → Hp → VK → Prop) : Prop :=
  ∀ (pins : List (Addr × Obj)) (s : Shared) (σ : St) (H : Hp) (x : V) (xs : List V) (v : Value) (us : List Value) (Q : VK), Inv X pins σ H s → RelV x v → Vals xs us → r x xs H Q →
    wpAny (model X.prog X.w) X.A (call (.builtin id) (v :: us)) (EP X pins σ Q) X.xe s
section
variable {X : Cx} {a b : Expr} {ta tb : TE} {pos : Pos}
/-- a[b] -/
theorem pe_ix {r : R2} (hr : IxR X r) (ha : PE X a ta) (hb : PE X b tb) (hs : PlainIx b) : PE X (.Subscript a b pos) (tOp r ta tb) := by
  intro pins s σ H Q I h
  exact Subscript_ (binT ha hb I h fun v u s2 x y H2 I2 rx ry q => hr a b pins s2 σ H2 x y v u Q I2 rx ry q (hs _ _))

def rIxL (K : PySem.W.Frag) : R2 := fun x y H Q => ∃ p xs i v, x = .ref p ∧ y = .int i ∧ SqL K H p xs ∧ atI xs i = some v ∧ Q v H
def rIxT (K : PySem.W.Frag) : R2 := fun x y H Q => ∃ p xs i v, x = .ref p ∧ y = .int i ∧ SqT K H p xs ∧ atI xs i = some v ∧ Q v H
def rIxS : R2 := fun x y H Q => ∃ z i c, x = .str z ∧ y = .int i ∧ z.length ≤ sizeLine ∧ atI z.cps.toList i = some c ∧ Q (.str ⟨#[c]⟩) H
theorem ix_list : IxR X (rIxL X.K) := by
  intro value slice pins s σ H x y v u Q I rx ry h hs
  obtain ⟨p, xs, i, z, rfl, rfl, hq, he, q⟩ := h
  cases rx
  obtain ⟨t, rfl⟩ := ry
  obtain ⟨its, r, pl, hz⟩ := I.list hq
  obtain ⟨j, h1, h2, h3, h4, h5⟩ := atI_get he
  obtain ⟨w, ew, rw'⟩ := r.get h2
  have hl := r.length
  have hn := line63
  have fin : EP X pins σ Q w s := ⟨z, H, I, rw', q⟩
  by_cases h0 : 0 ≤ i
  · have hj : i.toNat = j := by
      rw [seqIndex_of h0 h5] at h1
      exact Option.some.inj h1
    exact item_listR pl.isList h0 (by omega) (by rw [hj]; simpa using ew) fin hs
  · have hj : (i + (its.toArray.size : Int)).toNat = j := by
      rw [seqIndex_neg (by omega) h4] at h1
      rw [List.size_toArray, ← hl]
      exact Option.some.inj h1
    exact subscriptTail_builtinR (x := w) pl.isList.typeIs slot_list_getitem.lookup
      (wpAny_getItem_list_neg (Q := fun r s' => r = w ∧ EP X pins σ Q r s') pl.isList (by omega) (by rw [List.size_toArray] <;> omega) (by omega) (by rw [hj]; simpa using ew) ⟨rfl, fin⟩) hs
theorem ix_tup : IxR X (rIxT X.K) := by
  intro value slice pins s σ H x y v u Q I rx ry h hs
  obtain ⟨p, xs, i, z, rfl, rfl, hq, he, q⟩ := h
  cases rx
  obtain ⟨t, rfl⟩ := ry
  obtain ⟨its, r, pl, hz⟩ := I.tuple hq
  obtain ⟨j, h1, h2, h3, h4, h5⟩ := atI_get he
  obtain ⟨w, ew, rw'⟩ := r.get h2
  have hl := r.length
  have hn := line63
  have fin : EP X pins σ Q w s := ⟨z, H, I, rw', q⟩
  exact subscriptTail_builtinR (x := w) pl.typeIs slot_tuple_getitem.lookup
    (getItem_tuple (j := j) (Q := fun r s' => r = w ∧ EP X pins σ Q r s') pl (by omega) (by omega) (by rw [List.size_toArray, ← hl]; exact h1) (by simpa using ew) ⟨rfl, fin⟩) hs
theorem ix_str : IxR X rIxS := by
  intro value slice pins s σ H x y v u Q I rx ry h hs
  obtain ⟨z, i, c, rfl, rfl, hz, he, q⟩ := h
  obtain ⟨t, rfl⟩ := rx
  obtain ⟨t', rfl⟩ := ry
  obtain ⟨j, h1, h2, h3, h4, h5⟩ := atI_get he
  have hl : z.cps.toList.length = z.length := by simp [Str.length]
  rw [hl] at h1 h4 h5
  have hn := line63
  exact tail_any (typeIs_str s z t) slot_str_getitem.lookup (getItem_str (c := c) (by
    have e1 : decide (i < -(2 ^ 63 : Int)) = false := decide_eq_false (by omega)
    have e2 : decide (i ≥ 2 ^ 63) = false := decide_eq_false (by omega)
    rw [e1, e2, Bool.or_false]) (by rw [h1]; simpa using h2) ⟨.str ⟨#[c]⟩, H, I.tok _, ⟨_, rfl⟩, q⟩) hs

/-! ### xs[i] = v, any sign -/
/-- the list's object behind a store -/
theorem mapSeq_set (its : List Value) (n j : Nat) (u : Value) : Obj.mapSeq (·.setIfInBounds j u) { cls := .type "list", data := .seq its.toArray n } = { cls := .type "list", data := .seq (its.set j u).toArray n } := by
  simp [Obj.mapSeq]
theorem Inv.lst {pins : List (Addr × Obj)} {σ : St} {H : Hp} {s : Shared} {p : Addr} {xs : List V} (I : Inv X pins σ H s) (h : H p = some (.lst xs)) :
    ∃ (its : List Value) (n : Nat), Vals xs its ∧ s.heap.get? p = some { cls := .type "list", data := .seq its.toArray n } ∧ xs.length ≤ sizeLine := by
  obtain ⟨z, its, n, r, e⟩ := I.hok p _ h
  exact ⟨its, n, r, e, z⟩
/-- the list at p is written by an update of its object -/
theorem Inv.lstUpd {pins : List (Addr × Obj)} {σ : St} {H : Hp} {s : Shared} {p : Addr} {xs ys : List V} {its its' : List Value} {n n' : Nat} {f : Obj → Obj} (I : Inv X pins σ H s) (h : H p = some (.lst xs))
    (ho : s.heap.get? p = some { cls := .type "list", data := .seq its.toArray n }) (hf : f { cls := .type "list", data := .seq its.toArray n } = { cls := .type "list", data := .seq its'.toArray n' }) (r : Vals ys its') (hz : ys.length ≤ sizeLine) (t : Nat) :
    Inv X pins σ (upd H p (.lst ys)) { s with heap := s.heap.update p f, toks := t } := by
  have e : (s.heap.update p f).get? p = some { cls := .type "list", data := .seq its'.toArray n' } := by
    rw [Heap.get?_update_self f ho (by rw [hf] <;> rfl), hf]
  refine I.write (x := p) (e := p) (by rw [h]; trivial) (.inl rfl) (fun b u hb q => (Heap.get?_update_other _ _ (Ne.symm hb)).trans q) ⟨_, e⟩ ?_
  exact ⟨hz, its', n', r, e⟩
def rSetL : V → V → V → Hp → (Hp → Prop) → Prop := fun o i v H Q => ∃ p xs k j, o = .ref p ∧ i = .int k ∧ H p = some (.lst xs) ∧ ixN xs.length k = some j ∧ Q (upd H p (.lst (xs.set j v)))
theorem set_list : PSet X rSetL := by
  intro pins s σ H o i v ov iv u Q I ro ri rv h
  obtain ⟨p, xs, k, j, rfl, rfl, hp, hj, q⟩ := h
  cases ro
  obtain ⟨t, rfl⟩ := ri
  obtain ⟨its, n, r, ho, hz⟩ := I.lst hp
  obtain ⟨h1, h2, h3, h4⟩ := ixN_seq hj
  have hl := r.length
  have hn := line63
  have I' : Inv X pins σ (upd H p (.lst (xs.set j v))) { s with heap := s.heap.update p (Obj.mapSeq (·.setIfInBounds j u)) } :=
    I.lstUpd hp ho (mapSeq_set its n j u) (r.set rv j) (by rw [List.length_set]; exact hz) s.toks
  by_cases h0 : 0 ≤ k
  · have hk : k.toNat = j := by
      rw [seqIndex_of h0 h4] at h1
      exact Option.some.inj h1
    exact PySem.W.ki_setAt ho h0 (by omega) (by rw [List.size_toArray, ← hl]; exact h4) (by rw [hk]; exact ⟨_, I', q⟩)
  · have hk : (k + (its.toArray.size : Int)).toNat = j := by
      rw [seqIndex_neg (by omega) h3] at h1
      rw [List.size_toArray, ← hl]
      exact Option.some.inj h1
    exact PySem.W.ki_setBack ho (by omega) (by rw [List.size_toArray, ← hl]; exact h3) (by omega) (by rw [hk]; exact ⟨_, I', q⟩)

/-! ### slices -/
theorem slice_bounds (lo hi : Option Int) (n : Nat) : (sliceBounds lo hi none n).1 = ((HT.sIx n 0 lo : Nat) : Int) ∧ (sliceBounds lo hi none n).2.1 = ((HT.sIx n n hi : Nat) : Int) ∧ (sliceBounds lo hi none n).2.2 = 1 := by
  refine ⟨?_, ?_, rfl⟩
  · cases lo with
    | none => simp [sliceBounds, HT.sIx]
    | some i =>
      simp only [sliceBounds, HT.sIx, Option.getD_none, show (1 : Int) > 0 by decide, if_true]
      by_cases h : i < 0
      · simp only [h, if_true] <;> omega
      · simp only [h, if_false] <;> omega
  · cases hi with
    | none => simp [sliceBounds, HT.sIx]
    | some i =>
      simp only [sliceBounds, HT.sIx, Option.getD_none, show (1 : Int) > 0 by decide, if_true]
      by_cases h : i < 0
      · simp only [h, if_true] <;> omega
      · simp only [h, if_false] <;> omega
theorem slicePick_cut (its : List Value) (lo hi : Option Int) : slicePick its.toArray lo hi none = ((its.drop (HT.sIx its.length 0 lo)).take (HT.sIx its.length its.length hi - HT.sIx its.length 0 lo)).toArray := by
  obtain ⟨h1, h2, h3⟩ := slice_bounds lo hi its.toArray.size
  unfold slicePick
  rw [h1, h2, h3]
  simp only [sliceRange_one, pick_run, List.size_toArray] <;> rfl
/-- xs[lo:hi] of a list: a new list -/
def rSlL (K : PySem.W.Frag) : V → Option Int → Option Int → Hp → VK → Prop := fun x lo hi H Q => ∃ a xs, x = .ref a ∧ SqL K H a xs ∧ ∀ p, H p = none → Q (.ref p) (upd H p (.lst (cutV xs lo hi)))
theorem sl_list : SlR X (rSlL X.K) := by
  intro pins s σ H x v vl vu lo hi sl Q I rx hs pl pu h
  obtain ⟨a, xs, rfl, hx, q⟩ := h
  cases rx
  obtain ⟨its, r, ht, hz⟩ := I.list hx
  have hlen := r.length
  refine ⟨"list", _, slot_list_getitem.lookup, ht.isList.typeIs, ?_⟩
  refine wpAny_getItem_list_slice ht.isList hs pl pu .none (by simp) ?_ (by rw [List.size_toArray] <;> omega)
  rw [slicePick_cut, ← hlen]
  refine ⟨.ref s.heap.objs.size, _, I.laid (t' := s.toks) (o := .lst (cutV xs lo hi)) (fun b ob q => Heap.get?_push_of_some _ q) (Nat.le_refl _) ?_, rfl, q _ (I.hok.fresh (Nat.le_refl _))⟩
  exact ⟨Nat.le_trans (cutV_length xs lo hi) hz, _, 0, (r.drop (HT.sIx xs.length 0 lo)).take (HT.sIx xs.length xs.length hi - HT.sIx xs.length 0 lo), Heap.get?_push_size _ rfl⟩

/-! ### in, not in: flat items -/

/-! ### len, list(x), tuple(x) of any list or tuple that is read -/
theorem call_len_seq : CallR X (.builtin "len") (fun xs H Q => ∃ p ys, xs = [.ref p] ∧ (SqL X.K H p ys ∨ SqT X.K H p ys) ∧ Q (.int ys.length) H) := by
  intro pins s σ H xs us Q I r h
  obtain ⟨p, ys, rfl, hq, q⟩ := h
  obtain ⟨u, rfl, rx⟩ := vals1 r
  cases rx
  have hn := line63
  rcases hq with hq | hq
  · obtain ⟨its, r', pl, hz⟩ := I.list hq
    have hlen := r'.length
    exact Calls.call_len_list pl.isList (by simp only [List.size_toArray] <;> omega) ⟨.int ys.length, H, I.tok _, ⟨s.toks + 1, by rw [List.size_toArray, hlen]⟩, q⟩
  · obtain ⟨its, r', pl, hz⟩ := I.tuple hq
    have hlen := r'.length
    exact len_tuple pl (by simp only [List.size_toArray] <;> omega) ⟨.int ys.length, H, I.tok _, ⟨s.toks + 1, by rw [List.size_toArray, hlen]⟩, q⟩
theorem call_len_str : CallR X (.builtin "len") (fun xs H Q => ∃ z, xs = [.str z] ∧ z.length ≤ sizeLine ∧ Q (.int z.length) H) := by
  intro pins s σ H xs us Q I r h
  obtain ⟨z, rfl, hz, q⟩ := h
  obtain ⟨u, rfl, t, rfl⟩ := vals1 r
  have hn := line63
  exact len_str (by omega) ⟨.int z.length, H, I.tok _, ⟨_, rfl⟩, q⟩
theorem call_list_of : CallR X (.type "list") (fun xs H Q => ∃ p ys, xs = [.ref p] ∧ (SqL X.K H p ys ∨ SqT X.K H p ys) ∧ ∀ l, H l = none → Q (.ref l) (upd H l (.lst ys))) := by
  intro pins s σ H xs us Q I r h
  obtain ⟨p, ys, rfl, hq, q⟩ := h
  obtain ⟨u, rfl, rx⟩ := vals1 r
  cases rx
  have fin : ∀ (its : List Value), Vals ys its → ys.length ≤ sizeLine → ∀ (h' : Heap) (c' : Nat), (∀ b o', s.heap.get? b = some o' → h'.get? b = some o') →
      h'.get? s.heap.objs.size = some { cls := .type "list", dict := none, data := .seq its.toArray c', slots := #[] } → EP X pins σ Q (.ref s.heap.objs.size) { s with heap := h' } := fun its r' hz h' c' kp e =>
    ⟨.ref s.heap.objs.size, _, I.laid (t' := s.toks) kp (Nat.le_refl _) (show ObjOk X.prog X.w _ h' _ (.lst ys) from ⟨hz, its, c', r', e⟩), rfl, q _ (I.hok.fresh (Nat.le_refl _))⟩
  rcases hq with hq | hq
  · obtain ⟨its, r', pl, hz⟩ := I.list hq
    have hlen := r'.length
    obtain ⟨o, ho, hc, n, hd⟩ := pl.isList
    exact call_list_seq p (.inl rfl) ho hc hd (fun h' c' kp e => fin its r' hz h' c' kp e) (by simp only [List.size_toArray] <;> omega)
  · obtain ⟨its, r', pl, hz⟩ := I.tuple hq
    have hlen := r'.length
    obtain ⟨o, ho, hc, n, hd⟩ := pl
    exact call_list_seq p (.inr rfl) ho hc hd (fun h' c' kp e => fin its r' hz h' c' kp e) (by simp only [List.size_toArray] <;> omega)
theorem call_tuple_of : CallR X (.type "tuple") (fun xs H Q => ∃ p ys, xs = [.ref p] ∧ ((SqL X.K H p ys ∧ ∀ l, H l = none → Q (.ref l) (upd H l (.tup ys))) ∨ (SqT X.K H p ys ∧ Q (.ref p) H))) := by
  intro pins s σ H xs us Q I r h
  obtain ⟨p, ys, rfl, h⟩ := h
  obtain ⟨u, rfl, rx⟩ := vals1 r
  cases rx
  rcases h with ⟨hq, q⟩ | ⟨hq, q⟩
  · obtain ⟨its, r', pl, hz⟩ := I.list hq
    have hlen := r'.length
    refine call_tuple_list pl.isList (fun h' kp => ?_) (by simp only [List.size_toArray] <;> omega)
    have I1 : Inv X pins σ H { s with heap := h' } := I.kept (t' := s.toks) kp
    have I2 : Inv X pins σ (upd H h'.objs.size (.tup ys)) { s with heap := h'.push { cls := .type "tuple", data := .seq its.toArray } } :=
      I1.laid (t' := s.toks) (fun b o e => Heap.get?_push_of_some _ e) (Nat.le_refl _) (show ObjOk X.prog X.w _ _ _ (.tup ys) from ⟨hz, its, r', IsTup.new _ _⟩)
    exact ⟨.ref h'.objs.size, _, I2, rfl, q _ (I1.hok.fresh (Nat.le_refl _))⟩
  · obtain ⟨its, r', pl, hz⟩ := I.tuple hq
    exact call_tuple_same pl ⟨.ref p, H, I, rfl, q⟩

/-! ### the call of a builtin's method: o.m(..) -/
/-- the value is of that builtin type -/
def tyV (K : PySem.W.Frag) (T : String) (x : V) (H : Hp) : Prop := match x with
  | .str _ => T = "str"
  | .int _ => T = "int"
  | .ref p => (T = "list" ∧ ∃ xs, SqL K H p xs) ∨ (T = "tuple" ∧ ∃ o, K.lookup p = some o ∧ o.cls = .type "tuple" ∧ o.dict = none) ∨
      (T = "dict" ∧ ((∃ kvs, H p = some (.dK kvs)) ∨ ∃ kvs, H p = some (.dT kvs))) ∨ (T = "set" ∧ ∃ S n, H p = some (.set S n))
  | _ => False
theorem tyV_is {pins : List (Addr × Obj)} {σ : St} {H : Hp} {s : Shared} {T : String} {x : V} {v : Value} (I : Inv X pins σ H s) (r : RelV x v) (ty : tyV X.K T x H) :
    s.TypeIs v T ∧ ∀ a, v = .ref a → ∃ ob, s.heap.get? a = some ob ∧ ob.dict = none := by
  cases x with
  | str z =>
    obtain ⟨t, rfl⟩ := r
    cases (show T = "str" from ty)
    exact ⟨typeIs_str s z t, fun _ e => nomatch e⟩
  | int i =>
    obtain ⟨t, rfl⟩ := r
    cases (show T = "int" from ty)
    exact ⟨typeIs_int s i t, fun _ e => nomatch e⟩
  | ref p =>
    cases r
    rcases ty with ⟨rfl, xs, hq⟩ | ⟨rfl, o, hk, hc, hd⟩ | ⟨rfl, hk⟩ | ⟨rfl, S, n, hk⟩
    · obtain ⟨its, _, pl, _⟩ := I.list hq
      refine ⟨pl.isList.typeIs, fun a e => ?_⟩
      cases e
      obtain ⟨o, n, e, c, hd, _⟩ := pl
      exact ⟨o, e, hd⟩
    · refine ⟨⟨o, I.kIn p o hk, hc⟩, fun a e => ?_⟩
      cases e
      exact ⟨o, I.kIn _ o hk, hd⟩
    · have z : ∃ o, s.heap.get? p = some o ∧ o.ExactDict := by
        rcases hk with ⟨kvs, hk⟩ | ⟨kvs, hk⟩
        · obtain ⟨_, _, _, _, o, _, _, e, ex, _⟩ := I.hok p _ hk
          exact ⟨o, e, ex⟩
        · obtain ⟨_, _, _, _, o, _, _, e, ex, _⟩ := I.hok p _ hk
          exact ⟨o, e, ex⟩
      obtain ⟨o, e, ex⟩ := z
      refine ⟨⟨o, e, ex.1⟩, fun a e2 => ?_⟩
      cases e2
      exact ⟨o, e, ex.2.1⟩
    · obtain ⟨o, _, _, _, e, ex, _⟩ := I.hok p _ hk
      refine ⟨⟨o, e, ex.1⟩, fun a e2 => ?_⟩
      cases e2
      exact ⟨o, e, ex.2.1⟩
  | _ => exact False.elim ty
def tBM (K : PySem.W.Frag) (T : String) (r : V → List V → Hp → VK → Prop) (to : TE) (t : TA) : TE := fun σ H Q => to σ H fun x H1 => tyV K T x H1 ∧ t σ H1 fun xs H2 => r x xs H2 Q
variable {o e : Expr} {es : List Expr} {to : TE} {t : TA} {name : Str} {apos cpos : Pos} {T id : String} {r : V → List V → Hp → VK → Prop}
theorem pe_bm (pa : PlainAttrs T) (slot : Slot T name id) (hty : typeOf (.builtin id) = pure (.type "method_descriptor")) (hm : MtR X id r) (ho : PE X o to) (ha : PA X (e :: es) t)
    (hbase : attributeBase o name X.env (eval o X.env) = eval o X.env := by rfl)
    (hfew : ((backTo cpos (starEach (e :: es) X.env)).all (fun x => !x.1) && (backToKw cpos (keywordEach [] X.env)).all (fun x => x.1.isSome)
      && decide ((e :: es).length + ([] : List Keyword).length + (if ([] : List Keyword).isEmpty then 0 else 1) < 30)) = true := by rfl)
    (hline : (apos.endLine == cpos.line) = true := by rfl) (hs : starEach (e :: es) X.env = (false, eval e X.env) :: starEach es X.env := by rfl) (hplain : (backTo cpos (starEach es X.env)).any (·.1) = false := by rfl) :
    PE X (.Call (.Attribute o name apos) (e :: es) [] cpos) (tBM X.K T r to t) := by
  intro pins s σ H Q I h
  refine wpAny_Call_method_late hbase hfew hline rfl (thn (ho pins s σ H _ I h) fun v s1 ⟨x, H1, I1, r1, ty, q1⟩ => ?_)
  obtain ⟨h1, h2⟩ := tyV_is I1 r1 ty
  refine ⟨T, id, pa, slot, hty, h1, h2, ?_⟩
  have hA := ha cpos pins s1 σ H1 _ I1 q1
  rw [hs] at hA ⊢
  refine Calls.callWith_builtin (by show (false || (backTo cpos (starEach es X.env)).any (·.1)) = false; rw [hplain] <;> rfl) (Calls.evalArgs_plain ?_)
  exact thn hA fun us s2 ⟨vs, H2, I2, r2, q2⟩ => hm pins s2 σ H2 x vs v us Q I2 r1 r2 q2
/- xs.append(e), list.index on a module's tuple .. are MtR facts of 06m -/
end
end L2

namespace L2
open PySem PySem.Spec PyProof.Rows

def MtM (X : Cx) (id : String) (r : V → List V → Hp → VK → Prop) : Prop :=
  ∀ (pins : List (Addr × Obj)) (s : Shared) (σ : St) (H : Hp) (x : V) (xs : List V) (v : Value) (us : List Value) (Q : VK), Inv X pins σ H s → RelV x v → Vals xs us → r x xs H Q →
    wpAny (model X.prog X.w) X.A (call (.builtin id) (v :: us)) (EP X pins σ Q) X.xe s

/-! ### lists of values -/
theorem Vals.one : ∀ {x : V} {us : List Value}, Vals [x] us → ∃ u, us = [u] ∧ RelV x u
  | _, _, .cons r .nil => ⟨_, rfl, r⟩
theorem Vals.reverse {xs : List V} {us : List Value} (h : Vals xs us) : Vals xs.reverse us.reverse := by
  induction h with
  | nil => exact .nil
  | cons r t ih => rw [List.reverse_cons, List.reverse_cons]; exact Vals.append ih (.cons r .nil)
theorem Vals.rep {xs : List V} {us : List Value} (h : Vals xs us) : ∀ k : Nat, Vals (List.replicate k xs).flatten (List.replicate k us).flatten
  | 0 => .nil
  | k + 1 => by
    rw [List.replicate_succ, List.replicate_succ, List.flatten_cons, List.flatten_cons]
    exact Vals.append h (Vals.rep h k)
theorem foldl_rep (its : List Value) : ∀ (k : Nat) (acc : List Value),
    List.foldl (fun x1 x2 => x1 ++ x2) acc.toArray (List.replicate k its.toArray) = (acc ++ (List.replicate k its).flatten).toArray
  | 0, acc => by simp
  | k + 1, acc => by
    have e : acc.toArray ++ its.toArray = (acc ++ its).toArray := by simp
    have e2 : (acc ++ its) ++ (List.replicate k its).flatten = acc ++ (List.replicate (k + 1) its).flatten := by
      rw [List.replicate_succ, List.flatten_cons, List.append_assoc]
    rw [← e2, ← foldl_rep its k (acc ++ its), ← e, List.replicate_succ, List.foldl_cons]

section
variable {X : Cx} {pins : List (Addr × Obj)} {σ : St} {H : Hp} {s : Shared} {l b : Addr} {xs ys zs : List V}

/-! ### the two steps: a tracked list is rewritten, a new list is laid -/
theorem Inv.lset {its its' : List Value} {n : Nat} {f : Array Value → Array Value} {t' : Nat} (I : Inv X pins σ H s) (hH : H l = some (.lst xs))
    (e : s.heap.get? l = some { cls := .type "list", data := .seq its.toArray n }) (hf : f its.toArray = its'.toArray) (hv : Vals ys its') (hz : ys.length ≤ sizeLine) :
    Inv X pins σ (upd H l (.lst ys)) { s with heap := s.heap.update l (Obj.mapSeq f), toks := t' } := by
  have q := PySem.IsL.update e f
  rw [hf] at q
  refine I.write (x := l) (e := l) (by rw [hH]; exact trivial) (.inl rfl) (fun b' u hb hu => (Heap.get?_update_other s.heap (Obj.mapSeq f) (Ne.symm hb)).trans hu) ⟨_, q⟩ ?_
  exact ⟨hz, its', _, hv, q⟩
theorem Inv.lnew {its : List Value} {t' : Nat} (I : Inv X pins σ H s) (hv : Vals ys its) (hz : ys.length ≤ sizeLine) :
    Inv X pins σ (upd H s.heap.objs.size (.lst ys)) { s with heap := s.heap.push { cls := .type "list", data := .seq its.toArray }, toks := t' } :=
  I.laid (fun _ _ q => Heap.get?_push_of_some _ q) (Nat.le_refl _) ⟨hz, its, 0, hv, Heap.get?_push_size _ rfl⟩
theorem Inv.fresh (I : Inv X pins σ H s) : H s.heap.objs.size = none := I.hok.fresh (Nat.le_refl _)
theorem Inv.lstM (I : Inv X pins σ H s) (hH : H l = some (.lst xs)) : xs.length ≤ sizeLine ∧ ∃ (its : List Value) (n : Nat), Vals xs its ∧ xs.length = its.length ∧ s.heap.get? l = some { cls := .type "list", data := .seq its.toArray n } := by
  obtain ⟨z, its, n, r, e⟩ := I.hok l _ hH
  exact ⟨z, its, n, r, r.length, e⟩

theorem notLongL {n : Nat} (h : n ≤ sizeLine) : Builtin.List.listTooLong n = false := by
  unfold Builtin.List.listTooLong
  exact decide_eq_false (by omega)
end

section
variable {X : Cx}

/-! ### methods -/
def rAppend : V → List V → Hp → VK → Prop := fun x vs H Q => ∃ l xs y, x = .ref l ∧ vs = [y] ∧ H l = some (.lst xs) ∧ xs.length < sizeLine ∧ Q .non (upd H l (.lst (xs ++ [y])))
theorem mt_append : MtM X "list.append" rAppend := by
  intro pins s σ H x vs v us Q I rx rv h
  obtain ⟨l, xs, y, rfl, rfl, hH, hz, q⟩ := h
  cases rx
  obtain ⟨u, rfl, ru⟩ := rv.one
  obtain ⟨z, its, n, r, hl, e⟩ := I.lstM hH
  refine call_meets F.slot_list_append ⟨_, e, rfl⟩ F.entry_list_append (F.args_list_append_2 _ _) (PySem.list_append l its.toArray n u (by rw [List.size_toArray]; omega)) ⟨e, ?_⟩
  refine ⟨.non, _, I.lset (its' := its ++ [u]) hH e (by simp) (r.append (.cons ru .nil)) ?_, rfl, q⟩
  rw [List.length_append, List.length_singleton]
  omega






/-! ### list + list, list += list, list * int -/
def rCat : R2 := fun x y H Q => ∃ l b xs zs, x = .ref l ∧ y = .ref b ∧ H l = some (.lst xs) ∧ H b = some (.lst zs) ∧ xs.length + zs.length ≤ sizeLine ∧ ∀ p, H p = none → Q (.ref p) (upd H p (.lst (xs ++ zs)))
theorem op_cat : OpR X (binaryOp .Add) rCat := by
  intro pins s σ H x y v u Q I rx ry h
  obtain ⟨l, b, xs, zs, rfl, rfl, hH, hB, hz, q⟩ := h
  cases rx
  cases ry
  obtain ⟨z, its, n, r, hl, e⟩ := I.lstM hH
  obtain ⟨z2, its2, n2, r2, hl2, e2⟩ := I.lstM hB
  refine PySem.P.add_list e e2 ?_ (by rw [List.size_toArray, List.size_toArray]; omega)
  have ea : its.toArray ++ its2.toArray = (its ++ its2).toArray := by simp
  rw [ea]
  exact ⟨.ref _, _, I.lnew (t' := s.toks) (r.append r2) (by rw [List.length_append]; omega), rfl, q _ I.fresh⟩
/-- a list times an int (a negative one is nothing) -/
def rRep : R2 := fun x y H Q => ∃ l k xs, x = .ref l ∧ y = .int k ∧ H l = some (.lst xs) ∧ -(2 ^ 63) ≤ k ∧ k < 2 ^ 63 ∧ xs.length * k.toNat ≤ sizeLine ∧
  ∀ p, H p = none → Q (.ref p) (upd H p (.lst (List.replicate k.toNat xs).flatten))
theorem len_rep {α : Type} (xs : List α) (k : Nat) : (List.replicate k xs).flatten.length = k * xs.length := by
  induction k with
  | zero => simp
  | succ k ih => rw [List.replicate_succ, List.flatten_cons, List.length_append, ih, Nat.succ_mul, Nat.add_comm]
theorem op_rep : OpR X (binaryOp .Mult) rRep := by
  intro pins s σ H x y v u Q I rx ry h
  obtain ⟨l, k, xs, rfl, rfl, hH, h1, h2, hz, q⟩ := h
  cases rx
  obtain ⟨t, rfl⟩ := ry
  obtain ⟨z, its, n, r, hl, e⟩ := I.lstM hH
  have hlen : its.toArray.size * k.toNat ≤ sizeLine := by rw [List.size_toArray, ← hl]; exact hz
  have hcap : ¬ its.toArray.size * k.toNat > (2 ^ 63 - 1) / 8 := by
    have : (sizeLine : Nat) ≤ (2 ^ 63 - 1) / 8 := by decide
    omega
  have hfit : ¬ (!Builtin.List.listFitsIndex k) = true := by
    rw [fitsIndex_both h1 h2]
    exact Bool.false_ne_true
  have hlong : ¬ Builtin.List.listTooLong (its.toArray.size * k.toNat) = true := by
    rw [notLongL hlen]
    exact Bool.false_ne_true
  have hnew : List.foldl (fun x1 x2 => x1 ++ x2) #[] (List.replicate (if its.toArray.isEmpty = true then 0 else k.toNat) its.toArray) = (List.replicate k.toNat its).flatten.toArray := by
    have f0 : ∀ m : Nat, List.foldl (fun x1 x2 => x1 ++ x2) #[] (List.replicate m its.toArray) = (List.replicate m its).flatten.toArray := fun m => by
      have := foldl_rep its m []
      rw [List.nil_append] at this
      exact this
    rw [f0]
    cases its with
    | nil => simp
    | cons a r' => rw [if_neg (by simp)]
  refine wpAny_binaryOp_repeat_ref (T := "list") (U := "int") (by decide) ⟨_, e, rfl⟩ (fun s' => typeIs_int s' k t) noFill_list_mul F.fills_int_mul F.slot_int_rmul repeat_list F.slot_int_index.lookup
    (call_meets F.slot_int_rmul (typeIs_int s k t) F.entry_int_rmul (F.args_int_rmul_2 _ _) (int___rmul___int_list k t l its.toArray n)
      ⟨e, rfl, ⟨_, e, rfl⟩, call_meets F.slot_list_mul ⟨_, e, rfl⟩ F.entry_list_mul (F.args_list_mul_2 _ _) (AutoListH.list___mul___list_int_3 l its.toArray n k t hfit hcap hlong) ⟨e, ?_⟩⟩)
  rw [hnew]
  exact ⟨.ref _, _, I.lnew (t' := s.toks) (r.rep k.toNat) (by rw [len_rep, Nat.mul_comm]; exact hz), rfl, q _ I.fresh⟩

/-! ### del xs[i] -/
end

/-! ### xs[a:b] = ys -/
section
variable {prog : Program} {w : World} {A : Around} {E : Value → Shared → Prop} {s : Shared}
set_option maxRecDepth 100000 in
end

section
variable {X : Cx}
end
end L2

namespace L2
open PySem PySem.Spec PyProof.Rows

/-! ### lists of pairs as tables -/
section
variable {κ : Type} [DecidableEq κ]
def valV (kvs : List (κ × V)) (k : κ) : Option V := (kvs.find? fun kv => decide (kv.1 = k)).map (·.2)
/-- in its place, or at the end -/
def putK (kvs : List (κ × V)) (k : κ) (v : V) : List (κ × V) :=
  if (kvs.any fun kv => decide (kv.1 = k)) = true then kvs.map (fun kv => if kv.1 = k then (kv.1, v) else kv) else kvs ++ [(k, v)]

theorem valV_pos {p : κ × V} {r : List (κ × V)} {k : κ} (e : p.1 = k) : valV (p :: r) k = some p.2 := by simp [valV, List.find?_cons, e]
theorem valV_neg {p : κ × V} {r : List (κ × V)} {k : κ} (e : ¬ p.1 = k) : valV (p :: r) k = valV r k := by simp [valV, List.find?_cons, e]
theorem valV_any (k : κ) : ∀ kvs : List (κ × V), (kvs.any fun kv => decide (kv.1 = k)) = (valV kvs k).isSome
  | [] => rfl
  | p :: r => by
    rw [List.any_cons]
    by_cases e : p.1 = k
    · simp only [valV_pos e, decide_eq_true e, Bool.true_or, Option.isSome_some]
    · rw [valV_neg e, decide_eq_false e, Bool.false_or]; exact valV_any k r
theorem length_putK (kvs : List (κ × V)) (k : κ) (v : V) : (putK kvs k v).length ≤ kvs.length + 1 := by
  unfold putK
  split
  · rw [List.length_map]; omega
  · rw [List.length_append, List.length_cons, List.length_nil]; omega

theorem RelO.isSome_eq {o : Option V} {u : Option Value} (r : RelO o u) : o.isSome = u.isSome := by
  cases o with
  | none => cases u with
    | none => rfl
    | some _ => exact (show False from r).elim
  | some _ => cases u with
    | none => exact (show False from r).elim
    | some _ => rfl

/-- raw tables of the same keys -/
theorem KV.val {kvs : List (κ × V)} {vs : List (κ × Value)} (r : KV kvs vs) (k : κ) : RelO (valV kvs k) (valueAt vs k) := by
  unfold KV at r
  induction r with
  | nil => exact True.intro
  | @cons p q ps qs h t ih =>
    obtain ⟨h1, h2⟩ := h
    by_cases e : p.1 = k
    · have e' : q.1 = k := h1.symm.trans e
      have b : valueAt (q :: qs) k = some q.2 := by simp [valueAt, List.find?_cons, e']
      rw [valV_pos e, b]; exact h2
    · have e' : ¬ q.1 = k := fun z => e (h1.trans z)
      have b : valueAt (q :: qs) k = valueAt qs k := by simp [valueAt, List.find?_cons, e']
      rw [valV_neg e, b]; exact ih
theorem KV.any {kvs : List (κ × V)} {vs : List (κ × Value)} (r : KV kvs vs) (k : κ) : (kvs.any fun kv => decide (kv.1 = k)) = vs.any fun kv => decide (kv.1 = k) := by
  unfold KV at r
  induction r with
  | nil => rfl
  | cons h t ih => rw [List.any_cons, List.any_cons, ih, h.1]
theorem KV.repl {kvs : List (κ × V)} {vs : List (κ × Value)} (r : KV kvs vs) (k : κ) {y : V} {u : Value} (ry : RelV y u) :
    KV (kvs.map fun kv => if kv.1 = k then (kv.1, y) else kv) (vs.map fun kv => if kv.1 = k then (kv.1, u) else kv) := by
  unfold KV at r ⊢
  induction r with
  | nil => exact .nil
  | @cons p q ps qs h t ih =>
    rw [List.map_cons, List.map_cons]
    refine .cons ?_ ih
    obtain ⟨h1, h2⟩ := h
    by_cases e : p.1 = k
    · rw [if_pos e, if_pos (h1.symm.trans e)]; exact ⟨h1, ry⟩
    · rw [if_neg e, if_neg (fun z => e (h1.trans z))]; exact ⟨h1, h2⟩
theorem KV.put {kvs : List (κ × V)} {vs : List (κ × Value)} (r : KV kvs vs) (k : κ) {y : V} {u : Value} (ry : RelV y u) : KV (putK kvs k y) (stored vs k u) := by
  unfold putK stored
  rw [r.any k]
  by_cases e : (vs.any fun kv => decide (kv.1 = k)) = true
  · rw [if_pos e, if_pos e]; exact r.repl k ry
  · rw [if_neg e, if_neg e]; exact Paired.snoc r ⟨rfl, ry⟩
theorem KV.length {kvs : List (κ × V)} {vs : List (κ × Value)} (r : KV kvs vs) : kvs.length = vs.length := Paired.length r
end


/-! ### a tracked dict, its keys ints and texts or tuples of these -/
theorem kV_is {P : Program} {w : World} {k : Key} {u : Value} (r : RelV (kV k) u) : (mixKind P w).is k u = true := by
  cases k with
  | inl i => obtain ⟨t, e⟩ := (show ∃ t, u = Value.int i t from r); subst e; exact mixKind_int P w i t
  | inr x => obtain ⟨t, e⟩ := (show ∃ t, u = Value.str x t from r); subst e; exact mixKind_str P w x t
theorem items_are {P : Program} {w : World} : ∀ {ks : List Key} {us : List Value}, Vals (ks.map kV) us → ItemsAre (mixKind P w) ks us
  | [], _, r => by rw [List.map_nil] at r; cases r; exact .nil
  | k :: ks, _, r => by
    rw [List.map_cons] at r
    cases r with
    | cons h t => exact .cons (kV_is h) (items_are t)

/-- raw entries of a dict with tuple keys -/
abbrev KT (H : Hp) : List (List Key × V) → List (List Key × Addr × Value) → Prop := Paired fun p q => p.1 = q.1 ∧ H q.2.1 = some (.tup (p.1.map kV)) ∧ RelV p.2 q.2.2
theorem KT.val {H : Hp} {kvs : List (List Key × V)} {xs : List (List Key × Addr × Value)} (r : KT H kvs xs) (k : List Key) : RelO (valV kvs k) ((atKey xs k).map (·.2)) := by
  induction r with
  | nil => exact True.intro
  | @cons p q ps qs h t ih =>
    obtain ⟨h1, _, h2⟩ := h
    by_cases e : p.1 = k
    · have e' : q.1 = k := h1.symm.trans e
      have b : atKey (q :: qs) k = some q.2 := by simp [atKey, List.find?_cons, e']
      rw [valV_pos e, b]; exact h2
    · have e' : ¬ q.1 = k := fun z => e (h1.trans z)
      have b : atKey (q :: qs) k = atKey qs k := by simp [atKey, List.find?_cons, e']
      rw [valV_neg e, b]; exact ih
theorem KT.repl {H : Hp} {kvs : List (List Key × V)} {xs : List (List Key × Addr × Value)} (r : KT H kvs xs) (k : List Key) {y : V} {u : Value} (ry : RelV y u) :
    KT H (kvs.map fun kv => if kv.1 = k then (kv.1, y) else kv) (xs.map (putAt k u)) := by
  induction r with
  | nil => exact .nil
  | @cons p q ps qs h t ih =>
    rw [List.map_cons, List.map_cons]
    refine .cons ?_ ih
    obtain ⟨h1, h2, h3⟩ := h
    unfold putAt
    by_cases e : p.1 = k
    · rw [if_pos e, if_pos (h1.symm.trans e)]; exact ⟨h1, h2, ry⟩
    · rw [if_neg e, if_neg (fun z => e (h1.trans z))]; exact ⟨h1, h2, h3⟩
theorem KT.put {H : Hp} {kvs : List (List Key × V)} {xs : List (List Key × Addr × Value)} (r : KT H kvs xs) (k : List Key) {b : Addr} {y : V} {u : Value} (hb : H b = some (.tup (k.map kV))) (ry : RelV y u) :
    KT H (putK kvs k y) (storedH xs k b u) := by
  have e : (kvs.any fun kv => decide (kv.1 = k)) = (atKey xs k).isSome := by
    rw [valV_any, (r.val k).isSome_eq, Option.isSome_map]
  unfold putK storedH
  rw [e]
  by_cases q : (atKey xs k).isSome = true
  · rw [if_pos q, if_pos q]; exact r.repl k ry
  · rw [if_neg q, if_neg q]; exact Paired.snoc r ⟨rfl, hb, ry⟩
theorem KT.keeps {H H' : Hp} {kvs : List (List Key × V)} {xs : List (List Key × Addr × Value)} (r : KT H kvs xs) (ht : ∀ b ys, H b = some (.tup ys) → H' b = some (.tup ys)) : KT H' kvs xs :=
  Paired.mapP r fun _ _ z => ⟨z.1, ht _ _ z.2.1, z.2.2⟩

section
variable {P : Program} {w : World} {H : Hp} {h : Heap} {a : Addr}
theorem rd_of {u : HO} (ok : HOk P w H h) (e : Rd H a u) : ObjOk P w H h a u := e.ok ok
theorem dk_rd {kvs : List (Key × V)} (ok : HOk P w H h) (e : Rd H a (.dK kvs)) : kvs.length ≤ sizeLine ∧ (a == sysModules) = false ∧ ∃ vs, KV kvs vs ∧ h.DictOf (mixKind P w) a vs :=
  show ObjOk P w H h a (.dK kvs) from rd_of ok e
theorem dk_of {kvs : List (Key × V)} (ok : HOk P w H h) (e : H a = some (.dK kvs)) : kvs.length ≤ sizeLine ∧ (a == sysModules) = false ∧ ∃ vs, KV kvs vs ∧ h.DictOf (mixKind P w) a vs := dk_rd ok (.inl e)
/-- a tracked tuple of ints and texts is a key -/
theorem key_of {ks : List Key} (ok : HOk P w H h) (e : H a = some (.tup (ks.map kV))) : (tupleKind (mixKind P w)).is h ks a := by
  obtain ⟨_, its, r, o, h1, h2, n, h3⟩ := (show ObjOk P w H h a (.tup (ks.map kV)) from ok a _ e)
  exact ⟨o, its.toArray, n, h1, h2, h3, by simpa using items_are r⟩
theorem dt_rd {kvs : List (List Key × V)} (ok : HOk P w H h) (e : Rd H a (.dT kvs)) : kvs.length ≤ sizeLine ∧ (a == sysModules) = false ∧
    ∃ xs, KT H kvs xs ∧ h.DictOfH (tupleKind (mixKind P w)) a xs := by
  obtain ⟨z, y, xs, r, o, es, ep, h1, h2, h3, h4, h5⟩ := (show ObjOk P w H h a (.dT kvs) from rd_of ok e)
  refine ⟨z, y, xs, r, o, es, ep, h1, h2, h3, h4, fun x hx => ?_, h5⟩
  have all : ∀ {l : List (List Key × V)} {m : List (List Key × Addr × Value)}, KT H l m → ∀ x ∈ m, (tupleKind (mixKind P w)).is h x.1 x.2.1 := by
    intro l m q
    induction q with
    | nil => intro x hx; exact nomatch hx
    | @cons p q ps qs hq t ih =>
      intro x hx
      rcases List.mem_cons.mp hx with e | hx
      · subst e
        exact key_of ok (by rw [← hq.1]; exact hq.2.1)
      · exact ih x hx
  exact all r x hx
theorem dt_of {kvs : List (List Key × V)} (ok : HOk P w H h) (e : H a = some (.dT kvs)) : kvs.length ≤ sizeLine ∧ (a == sysModules) = false ∧
    ∃ xs, KT H kvs xs ∧ h.DictOfH (tupleKind (mixKind P w)) a xs := dt_rd ok (.inl e)
end

/-- what the dict at a holds at the key y -/
def DGet (H : Hp) (a : Addr) (y : V) (r : Option V) : Prop :=
  (∃ kvs k, Rd H a (.dK kvs) ∧ y = kV k ∧ r = valV kvs k) ∨ ∃ kvs k b, Rd H a (.dT kvs) ∧ y = .ref b ∧ H b = some (.tup (k.map kV)) ∧ r = valV kvs k
/-- the heap behind a[y] = v -/
def DPut (H : Hp) (a : Addr) (y v : V) (H' : Hp) : Prop :=
  (∃ kvs k, H a = some (.dK kvs) ∧ y = kV k ∧ kvs.length < sizeLine ∧ H' = upd H a (.dK (putK kvs k v))) ∨
  ∃ kvs k b, H a = some (.dT kvs) ∧ y = .ref b ∧ H b = some (.tup (k.map kV)) ∧ kvs.length < sizeLine ∧ H' = upd H a (.dT (putK kvs k v))
theorem DGet.k {H : Hp} {a : Addr} {kvs : List (Key × V)} {k : Key} (e : H a = some (.dK kvs)) : DGet H a (kV k) (valV kvs k) := .inl ⟨kvs, k, .inl e, rfl, rfl⟩
theorem DPut.k {H : Hp} {a : Addr} {kvs : List (Key × V)} {k : Key} {v : V} (e : H a = some (.dK kvs)) (hl : kvs.length < sizeLine) : DPut H a (kV k) v (upd H a (.dK (putK kvs k v))) := .inl ⟨kvs, k, e, rfl, hl, rfl⟩


section
variable {X : Cx} {pins : List (Addr × Obj)} {σ : St} {H : Hp} {s : Shared} {a : Addr} {y v : V} {u r : Value} {o : Option V} {A : Around} {E : Value → Shared → Prop}

theorem Inv.big (I : Inv X pins σ H s) : sysModules < s.heap.objs.size := by
  have h : mainGlobals < s.heap.objs.size := (I.mod.glob.keeps I.bk).lt
  exact Nat.lt_trans (by decide) h

/-- d[y], there -/
theorem d_getItem {Q : Value → Shared → Prop} (hu : A.units + 1 < cLine) (I : Inv X pins σ H s) (g : DGet H a y (some v)) (ry : RelV y u) (h : ∀ w' s', Inv X pins σ H s' → RelV v w' → Q w' s') :
    wpAny (model X.prog X.w) A (getItem (.ref a) u) Q E s := by
  rcases g with ⟨kvs, k, e, ey, l⟩ | ⟨kvs, k, b, e, ey, eb, l⟩
  · subst ey
    obtain ⟨z, hd, vs, rel, dd⟩ := dk_rd I.hok e
    obtain ⟨w', hw, rw'⟩ := RelO.some_of (v := v) (o := valueAt vs k) (by rw [l]; exact rel.val k)
    exact wpAny_getItem_of (kV_is ry) dd.mapOf hw (h w' _ (I.tok _) rw')
  · subst ey
    cases (show u = Value.ref b from ry)
    obtain ⟨z, hd, xs, rel, dd⟩ := dt_rd I.hok e
    obtain ⟨w', hw, rw'⟩ := RelO.some_of (v := v) (o := (atKey xs k).map (·.2)) (by rw [l]; exact rel.val k)
    obtain ⟨p, hp, hp2⟩ := Option.map_eq_some_iff.mp hw
    refine wpAny_getItem_heap (tupleKind_room_in1 hu) (key_of I.hok eb) dd hp ?_
    rw [hp2]
    exact h w' _ (I.tok _) rw'
/-- a dict's object is replaced -/
theorem d_write {h' : Heap} {t' : Nat} {ob : HO} (I : Inv X pins σ H s) (mu : Mut (H a)) (hs : Heap.SameBut a s.heap h') (he : ∃ q, h'.get? a = some q) (new : ObjOk X.prog X.w (upd H a ob) h' a ob) :
    Inv X pins σ (upd H a ob) { s with heap := h', toks := t' } :=
  I.write (x := a) (e := a) mu (.inl rfl) (fun b q hb z => (hs.2 b hb).trans z) he new
theorem dk_new {P : Program} {w : World} {H' : Hp} {h' : Heap} {kvs : List (Key × V)} {vs : List (Key × Value)} (z : kvs.length ≤ sizeLine) (hd : (a == sysModules) = false) (rel : KV kvs vs) (dd : h'.DictOf (mixKind P w) a vs) :
    ObjOk P w H' h' a (.dK kvs) := ⟨z, hd, vs, rel, dd⟩
/-- d[y] = v -/
theorem d_setItem {H' : Hp} {Q : Unit → Shared → Prop} (hu : A.units + 1 < cLine) (I : Inv X pins σ H s) (g : DPut H a y v H') (ry : RelV y u) (rv : RelV v r) (h : ∀ s', Inv X pins σ H' s' → Q () s') :
    wpAny (model X.prog X.w) A (setItem (.ref a) u r) Q E s := by
  rcases g with ⟨kvs, k, e, ey, l, eH⟩ | ⟨kvs, k, b, e, ey, eb, l, eH⟩
  · subst ey eH
    obtain ⟨z, hd, vs, rel, dd⟩ := dk_of I.hok e
    have hz : vs.length ≤ sizeLine := by rw [← rel.length]; exact z
    have hl : (putK kvs k v).length ≤ sizeLine := by have := length_putK kvs k v; omega
    refine wpAny_setItem_pairs (hsz := hz) (kV_is ry) dd fun h' dd' hs => h _ ?_
    have he : ∃ q, h'.get? a = some q := let ⟨q, _, _, hq, _⟩ := dd'; ⟨q, hq⟩
    exact d_write I (by rw [e]; exact True.intro) hs he (dk_new hl hd (rel.put k rv) dd')
  · subst ey eH
    cases (show u = Value.ref b from ry)
    obtain ⟨z, hd, xs, rel, dd⟩ := dt_of I.hok e
    have hz : xs.length ≤ sizeLine := by rw [← Paired.length rel]; exact z
    have hl : (putK kvs k v).length ≤ sizeLine := by have := length_putK kvs k v; omega
    refine wpAny_setItem_heap (hsz := hz) (tupleKind_room_in1 hu) (key_of I.hok eb) dd fun h' dd' hs => h _ ?_
    obtain ⟨q, es, ep, hq, h2, h3, h4, _, h5⟩ := dd'
    refine d_write I (by rw [e]; exact True.intro) hs ⟨q, hq⟩ ⟨hl, hd, _, (rel.put k eb rv).keeps fun c ys ec => ?_, q, es, ep, hq, h2, h3, h4, h5⟩
    rw [upd_ne (ne_of ec e (fun z => nomatch z))]
    exact ec
end

section
variable {X : Cx} {pins : List (Addr × Obj)} {σ : St} {H : Hp} {s : Shared} {a : Addr} {kvs : List (Key × V)} {k : Key} {u : Value} {A : Around} {E : Value → Shared → Prop}
end


/-! ### readings and rules -/
/-- the element of a subscription, not a slice -/
def NoSl (i : Expr) : Prop := ∀ ov iv, subscripted i false ov iv = operate [ov, iv] (getItem ov iv)
theorem subD_of {prog : Program} {w : World} {A : Around} {E : Value → Shared → Prop} {s : Shared} {env : Env} {value slice : Expr} {pos : Pos} {T id : String} {Q : Value → Shared → Prop}
    (hl : typeLookup (.type T) "__getitem__" = pure (some (.builtin id))) (hs : NoSl slice)
    (h : wpAny (model prog w) A (eval value env) (fun o s₁ => wpAny (model prog w) A (eval slice env) (fun i s₂ => s₂.TypeIs o T ∧ wpAny (model prog w) A (getItem o i) Q E s₂) E s₁) E s) :
    wpAny (model prog w) A (eval (.Subscript value slice pos) env) Q E s := by
  refine Subscript_ (wpAny_mono h (fun o s₁ h₁ => wpAny_mono h₁ (fun i s₂ h₂ => ?_) fun _ _ x => x) fun _ _ x => x)
  obtain ⟨hT, h₂⟩ := h₂
  unfold subscriptTail
  refine wpAny_bind ?_
  rw [getitemInPython_of_ne hT.not_modules]
  refine wpAny_bind (wpAny_specialOf hT hl ?_)
  have fin : wpAny (model prog w) A (subscripted slice false o i) (fun r s₃ => wpAny (model prog w) A (letTemporaryGo value o r >>= fun _ => pure r) Q E s₃) E s₂ := by
    rw [hs o i]
    exact wpAny_operating (wpAny_mono h₂ (fun r s₃ h₃ => wpAny_bind (wpAny_letTemporaryGo (wpAny_pure h₃))) fun _ _ x => x)
  first
    | exact wpAny_pure (wpAny_bind fin)
    | exact wpAny_bind (wpAny_pure (wpAny_bind fin))
    | exact wpAny_bind fin

theorem dict_typeIs {X : Cx} {pins : List (Addr × Obj)} {σ : St} {H : Hp} {s : Shared} {a : Addr} {y : V} {o : Option V} (I : Inv X pins σ H s) (g : DGet H a y o) : s.TypeIs (.ref a) "dict" := by
  rcases g with ⟨kvs, k, e, _, _⟩ | ⟨kvs, k, b, e, _, _, _⟩
  · obtain ⟨_, _, vs, _, dd⟩ := dk_rd I.hok e
    exact dd.typeIs
  · obtain ⟨_, _, xs, _, dd⟩ := dt_rd I.hok e
    exact dd.typeIs

/-- d[y] -/
def tDGet (td ty : TE) : TE := fun σ H Q => td σ H fun x H1 => ty σ H1 fun y H2 => ∃ a v, x = .ref a ∧ DGet H2 a y (some v) ∧ Q v H2
/-- d[y] = v -/
def sDPut (td ty tv : TE) : TS := fun D σ H => tv σ H fun v H1 => td σ H1 fun x H2 => ty σ H2 fun y H3 => ∃ a H4, x = .ref a ∧ DPut H3 a y v H4 ∧ D.nx σ H4

section
variable {X : Cx} {o i e value : Expr} {pos pos' tpos : Pos} {td ty tv : TE}
theorem pe_dget (hu : X.A.units + 1 < cLine) (ho : PE X o td) (hi : PE X i ty) (hs : NoSl i) : PE X (.Subscript o i pos) (tDGet td ty) := by
  intro pins s σ H Q I h
  refine subD_of PySem.F.slot_dict_getitem.lookup hs (thn (ho pins s σ H _ I h) fun u s1 ⟨x, H1, I1, rx, q1⟩ => thn (hi pins s1 σ H1 _ I1 q1) fun iv s2 ⟨y, H2, I2, ry, a, v, ex, g, q2⟩ => ?_)
  subst ex
  obtain rfl : u = Value.ref a := rx
  exact ⟨dict_typeIs I2 g, d_getItem hu I2 g ry fun w' s3 I3 rw' => ⟨v, H2, I3, rw', q2⟩⟩
theorem ps_dput (hu : X.A.units + 1 < cLine) (ho : PE X o td) (hi : PE X i ty) (hv : PE X value tv) (hs : swapsWith value (some (.Subscript o i pos')) pos.line X.env = pure false) :
    PS X (.Assign [.Subscript o i pos'] value pos) (sDPut td ty tv) := by
  intro pins s σ H D I h
  refine wpAny_Assign_Subscript (thn (hv pins s σ H _ I h) fun r s1 ⟨v, H1, I1, rv, q1⟩ => thn (ho pins s1 σ H1 _ I1 q1) fun u s2 ⟨x, H2, I2, rx, q2⟩ => thn (hi pins s2 σ H2 _ I2 q2) fun iv s3 ⟨y, H3, I3, ry, a, H4, ex, g, q3⟩ => ?_) hs
  subst ex
  obtain rfl : u = Value.ref a := rx
  exact d_setItem hu I3 g ry rv fun s4 I4 => ⟨σ, H4, I4, q3⟩
end


/-! ### displays -/
theorem dk_empty {P : Program} {w : World} {H : Hp} (h : Heap) (hb : sysModules < h.objs.size) : ObjOk P w H (h.push { cls := .type "dict", data := .dict #[] }) h.objs.size (.dK []) :=
  ⟨Nat.zero_le _, beq_eq_false_iff_ne.mpr (Ne.symm (Nat.ne_of_lt hb)), [], .nil, Heap.DictOf.new h⟩
/-- {}, to be a dict of the kind that is wanted -/
def tDNewK : TE := fun _ H Q => ∀ p, H p = none → Q (.ref p) (upd H p (.dK []))
section
variable {X : Cx} {pos : Pos}
theorem pe_dnewK : PE X (.Dict [] [] pos) tDNewK := fun pins s σ H Q I h =>
  wpAny_Dict_empty ⟨.ref s.heap.objs.size, _, I.laid (a := s.heap.objs.size) (o := .dK []) (t' := s.toks) (fun _ _ q => Heap.get?_push_of_some _ q) (Nat.le_refl _) (dk_empty s.heap I.big), rfl, h _ (I.hok.fresh (Nat.le_refl _))⟩
end




/-! ### methods -/
/-- a method call o.m(e) of a built-in, with one argument: what must be seen of the text -/
structure M1 (X : Cx) (o : Expr) (m : Str) (apos : Pos) (e : Expr) (cpos : Pos) : Prop where
  base : attributeBase o m X.env (eval o X.env) = eval o X.env
  few : ((backTo cpos (starEach [e] X.env)).all (fun x => !x.1) && (backToKw cpos (keywordEach [] X.env)).all (fun x => x.1.isSome)
    && decide (([e] : List Expr).length + ([] : List Keyword).length + (if ([] : List Keyword).isEmpty then 0 else 1) < 30)) = true
  line : (apos.endLine == cpos.line) = true
  trees : backTo cpos (starEach [e] X.env) = [(false, eval e X.env)]
structure M2 (X : Cx) (o : Expr) (m : Str) (apos : Pos) (e f : Expr) (cpos : Pos) : Prop where
  base : attributeBase o m X.env (eval o X.env) = eval o X.env
  few : ((backTo cpos (starEach [e, f] X.env)).all (fun x => !x.1) && (backToKw cpos (keywordEach [] X.env)).all (fun x => x.1.isSome)
    && decide (([e, f] : List Expr).length + ([] : List Keyword).length + (if ([] : List Keyword).isEmpty then 0 else 1) < 30)) = true
  line : (apos.endLine == cpos.line) = true
  trees : backTo cpos (starEach [e, f] X.env) = [(false, eval e X.env), (false, eval f X.env)]


section
variable {X : Cx} {pins : List (Addr × Obj)} {σ : St} {H : Hp} {s : Shared} {a : Addr} {y d : V} {u r : Value} {o : Option V} {A : Around} {E : Value → Shared → Prop}
end

section
variable {X : Cx} {o e f : Expr} {apos cpos : Pos} {td ty tx : TE}
end

/-! ### dict(d): a copy -/
section
variable {X : Cx} {pins : List (Addr × Obj)} {σ : St} {H : Hp} {s : Shared} {a : Addr} {kvs : List (Key × V)} {A : Around} {E : Value → Shared → Prop}
end


section
variable {X : Cx} {pins : List (Addr × Obj)} {σ : St} {H : Hp} {s : Shared} {a : Addr} {y : V} {u : Value} {A : Around} {E : Value → Shared → Prop}
end
end L2

namespace Att
open PySem PySem.W PySem.Calls PyProof.Rows

/-! ### the script -/
theorem ints_of_wellAll {P : Params} {h : Heap} : ∀ (ns : List Int) (vs : List Value), WellAll P h vs (ns.map WData.int) → IntsAre vs ns := by
  intro ns
  induction ns with
  | nil =>
    intro vs w
    rw [List.map_nil] at w
    cases w
    exact .nil
  | cons n ns ih =>
    intro vs w
    rw [List.map_cons] at w
    cases w with
    | cons a b =>
      cases a
      exact .cons _ _ (ih _ b)

theorem script_of {l : OpenLaw} {n : Nat} (hn : l.most = some n) {P : Params} {h : Heap} {args : List WData} {vals : List Value}
    (hpre : l.row.toRowW.claim.pre args = true) (hwl : WellAll P h vals args) :
    ∃ a vs ns, vals = [Value.ref a] ∧ args = [WData.list (ns.map WData.int)] ∧ h.get? a = some { cls := .type "list", data := .seq vs.toArray } ∧ IntsAre vs ns ∧ ns.length ≤ n := by
  have hsh : WShape.hasAll [] args [.list .int] = true := (pre_splitW hpre).1
  have hc : l.pre.holds [] { args := args } = true := (pre_splitW hpre).2
  obtain ⟨d, r, rfl, h1, h2⟩ := hasAllW_cons hsh
  obtain rfl := hasAllW_nil h2
  obtain ⟨xs, rfl, h3⟩ := hasW_list h1
  obtain ⟨ns, rfl⟩ := items_int h3
  have hlen : ns.length ≤ n := by
    unfold OpenLaw.pre at hc
    have h4 : (WTm.not (.lt (.lit (.int (n : Int))) (.len (.arg 0)))).holds [] { args := [.list (ns.map .int)] } = true := by
      have h4 := (holds_andW hc).1
      rw [hn] at h4
      exact h4
    have h5 := condW_of h4 (w_not (w_lt w_lit (w_len_list (w_arg rfl))))
    rw [List.length_map] at h5
    refine Nat.le_of_not_lt fun q => ?_
    have q' : (n : Int) < ((ns.length : Nat) : Int) := by omega
    first
      | (rw [decide_eq_true q'] at h5; exact absurd h5 (by decide))
      | (simp at h5; omega)
  cases hwl with
  | cons w1 w2 =>
    cases w2
    cases w1 with
    | list ho hall => exact ⟨_, _, ns, rfl, rfl, ho, ints_of_wellAll ns _ hall, hlen⟩

theorem post_true (l : OpenLaw) (args : List WData) : l.row.toRowW.claim.post args (.bool true) args = true :=
  postW_of (r := l.row.toRowW) (X := (true == true))
    (show WShape.has [] (.bool true) .bool = true by first | rfl | decide | simp [WShape.has, WShape.arms, WShape.armsAll])
    (show (WTm.eq .res (.lit (.bool true))).value [] { args := args, res := some (.bool true), after := args } = some (.bool (true == true)) from w_eq_bool (w_res rfl) w_lit) rfl

/-! ### the attachment: holds_open's last premise (the goal 'hc' behind k_head) from a wpAny of the law's body -/

/-- the same from a codeAny of the CALL (for a layer whose function contracts speak of calls) -/
theorem attach_call {l : OpenLaw} {n : Nat} {q : Program} {loose : List Str} {XP : (Str → Option Value) → Heap → Prop} {YP : World → Heap → Prop} {d : DefRec}
    (hn : l.most = some n) (hdf : d.params.defaults = [])
    (call : ∀ (w : World) (s₀ s₁ : Shared) (mg mb : Str → Option Value) (fa : Addr) (o : Obj) (pm cd doc : Value) (a : Addr) (vs : List Value) (ns : List Int),
      Ground q loose [] XP w s₀ mg mb s₁.heap → YP w s₁.heap →
      s₁.heap.get? fa = some o → o.data = .func (docDef d.name d.params d.body d.scope pm cd doc) → s₁.heap.CodeRec cd d.name → mg d.name = some (.ref fa) →
      s₁.heap.get? a = some { cls := .type "list", data := .seq vs.toArray } → IntsAre vs ns → ns.length ≤ n → s₁.gens = #[] →
      codeAny (model l.prog w) callerA (.call (.ref fa) ⟨[.ref a], []⟩) (fun r s' => r = .ok (.ret (.bool true)) ∧ OldK s₁.heap s'.heap ∧ s'.os = s₁.os ∧ AllBare s'.gens) s₁) :
    WalkO q loose XP YP l.row.toRowW d [] (fun f vs => PySem.call f vs) := by
  intro w s₀ s₁ mg mb G Y fa o pm cd doc dV kV ho hd hcd hD hmg hg args vals as hpre hlay hrd hwl hlo
  obtain rfl : dV = .none := Dflts.none hD hdf
  obtain rfl : kV = .none := Dflts.noKw hD
  obtain ⟨a, vs, ns, rfl, rfl, hobj, hints, hlen⟩ := script_of hn hpre hwl
  refine enter_call (codeAny_mono (call w s₀ s₁ mg mb fa o pm cd doc a vs ns G Y ho (fd_plain hd) hcd hmg hobj hints hlen hg) fun r s' hq => ?_)
  obtain ⟨rfl, h2, h3, h4⟩ := hq
  exact ⟨.inl ⟨.bool true, .bool true, [], rfl, fun _ => rfl, .bool true, post_true l _, fun _ => ⟨List.Pairwise.nil, fun _ hm => (nomatch hm)⟩⟩, h2, h3, h4⟩


/-! ### rules over ANY heap (no ledger) from facts about the written part K: the library's own take a ledger (News) for what they write -/
section
variable {prog : Program} {w : World} {A : Around} {E : Value → Shared → Prop} {s : Shared} {K : Frag}





/-! the whole heap as the ledger: makes every rule that writes through a ledger a rule over any heap -/

end
end Att

namespace L2
open PySem PySem.Spec PyProof.Rows

theorem vals_ints : ∀ {vs : List Value} {ns : List Int}, IntsAre vs ns → Vals (ns.map V.int) vs
  | _, _, .nil => .nil
  | _, _, .cons n t h => .cons ⟨t, rfl⟩ (vals_ints h)

/-- nothing is tracked but the script, known to the object (or it is an object of the module) -/
def Only (H : Hp) : Prop := ∀ b, H b = none ∨ ∃ o xs, H b = some (.frz o (.lst xs))

/-- THE HEAD: the law's promise, at the heap behind the top. F, the promise of the law's def, may use that base is part of the heap (so K.In base, base.Ns mainGlobals mg stand in Mod) -/
theorem law_call {P : Program} {w : World} {K : PySem.W.Frag} {mg mb : Str → Option Value} {CX : CXT} {k : Nat} {fa a : Addr} {fd : FuncData} {x : Str} {sp : Sp} {s₁ : Shared} {vs : List Value} {ns : List Int}
    (KX : K.In s₁.heap) (hns : s₁.heap.Ns mainGlobals mg) (hb : s₁.heap.Ns builtinsNs mb) (hbb : ∀ x : Str, x ≠ "__name__" → mb x = bootBuiltins x) (hlim : s₁.heap.NoLimit) (hg : s₁.gens = #[])
    (ha : s₁.heap.get? a = some { cls := .type "list", data := .seq vs.toArray }) (hi : IntsAre vs ns) (hl : ns.length ≤ sizeLine) (hr : Room k callerA)
    (F : ∀ base : Heap, K.In base → base.Ns mainGlobals mg → FnOk P w K mg base CX k fa fd [x] sp) (hbind : ∀ (s : Shared) (u : Value), BindsTo s fd ⟨[u], []⟩ [(x, u)])
    (hsp : ∀ H : Hp, Only H → SqL K H a (ns.map V.int) → sp [.ref a] H (fun v _ => v = .bl true) fun _ _ _ => False)
    (hCX : ∀ H e s', CX [] H s₁ (fun _ _ _ => False) e s' → False) :
    codeAny (model P w) callerA (.call (.ref fa) ⟨[.ref a], []⟩) (fun r s' => r = .ok (.ret (.bool true)) ∧ OldK s₁.heap s'.heap ∧ s'.os = s₁.os ∧ AllBare s'.gens) s₁ := by
  have rv := vals_ints hi
  have lenV := hi.length
  -- from an abstract heap in which nothing but the script may be tracked
  have core : ∀ H : Hp, Only H → SqL K H a (ns.map V.int) → HOk P w H s₁.heap → (∀ b, H b ≠ none → b = a) → (H a ≠ none → K.lookup a = none) →
      codeAny (model P w) callerA (.call (.ref fa) ⟨[.ref a], []⟩) (fun r s' => r = .ok (.ret (.bool true)) ∧ OldK s₁.heap s'.heap ∧ s'.os = s₁.os ∧ AllBare s'.gens) s₁ := by
    intro H hO hS hok hA hK
    have base_of : ∀ {b : Addr} {o : Obj}, s₁.heap.get? b = some o → H b = none → (hidT s₁.heap H).get? b = some o := fun e n => hidT_get e n
    have noA : ∀ {b : Addr} {o : Obj} {es : Array DictEntry} {ep : Nat}, s₁.heap.get? b = some o → o.data = .dict es ep → H b = none := fun {b o es ep} e d => by
      cases q : H b with
      | none => rfl
      | some u =>
        have e' : b = a := hA b (by rw [q]; simp)
        subst e'
        rw [ha] at e; cases e
        have d' : Data.seq vs.toArray _ = Data.dict es ep := d
        cases d'
    have nsK : ∀ {b : Addr} {m : Str → Option Value}, s₁.heap.Ns b m → (hidT s₁.heap H).Ns b m := fun {b m} ⟨o, es, ep, e, d, r⟩ => ⟨o, es, ep, base_of e (noA e d), d, r⟩
    have hKb : K.In (hidT s₁.heap H) := fun b o e => base_of (KX b o e) (by
      cases q : H b with
      | none => rfl
      | some u =>
        have e' : b = a := hA b (by rw [q]; simp)
        subst e'
        rw [hK (by rw [q]; simp)] at e; cases e)
    have hM : Mod K mg (hidT s₁.heap H) := ⟨hKb, nsK hns, ⟨mb, nsK hb, hbb⟩, let ⟨mc, h1, h2⟩ := hlim; ⟨mc, nsK h1, h2⟩⟩
    have e0 : Env0 P w K mg (hidT s₁.heap H) callerA [] s₁ H := ⟨rfl, hM, fun b o e => of_hidT e, Nat.le_of_eq (hidT_size _ _), trivial, fun b hb => absurd (show b ∈ ([] : List Addr) from hb) (by simp), hok, .of_eq hg⟩
    refine codeAny_mono ((F _ hKb (nsK hns)).run callerA [] s₁ H ⟨[.ref a], []⟩ [.ref a] [.ref a] _ _ hr e0 (hbind s₁ (.ref a)) (.cons rfl .nil) (hsp H hO hS)) fun r s' h => ?_
    cases r with
    | error e => exact (hCX H e s' h).elim
    | ok fl =>
      cases fl with
      | next => exact False.elim h
      | brk => exact False.elim h
      | cont => exact False.elim h
      | ret u =>
        obtain ⟨v, H', os, bare, un, hok', r', q⟩ := h
        have q' : v = .bl true := q
        subst q'
        obtain rfl : u = Value.bool true := r'
        refine ⟨rfl, OldK.of_keep fun b o e => ?_, os, bare⟩
        cases q : H b with
        | none => exact un.keep b o e q (by intro z; exact absurd (show b ∈ ([] : List Addr) from z) (by simp)) (by simp)
        | some u =>
          rcases hO b with z | ⟨ob, xs, z⟩
          · rw [q] at z; cases z
          · have z2 := un.frzs b ob _ z
            obtain ⟨e1, _⟩ := hok b _ z
            obtain ⟨e2, _⟩ := hok' b _ z2
            rw [e] at e1; cases e1
            exact e2
  cases hk : K.lookup a with
  | some o =>
    -- the script is one of the module's own objects
    have e := KX a o hk
    rw [ha] at e
    cases e
    refine core (fun _ => none) (fun _ => .inl rfl) (.inr ⟨_, vs.toArray, _, hk, rfl, rfl, rfl, by rw [List.size_toArray, lenV]; exact hl, by simpa using rv⟩) (fun b u z => by have z' : (none : Option HO) = some u := z; cases z') (fun b z => absurd rfl z) fun z => absurd rfl z
  | none =>
    refine core (fun b => if b = a then some (.frz { cls := .type "list", data := .seq vs.toArray } (.lst (ns.map V.int))) else none) (fun b => ?_) (.inl (.inr ⟨{ cls := .type "list", data := .seq vs.toArray }, if_pos rfl⟩)) (fun b u z => ?_) (fun b z => ?_) fun _ => hk
    · by_cases hb : b = a
      · exact .inr ⟨_, _, if_pos hb⟩
      · exact .inl (if_neg hb)
    · by_cases hb : b = a
      · have z' := (if_pos hb).symm.trans z
        cases z'
        subst hb
        exact ⟨ha, by rw [List.length_map]; exact hl, vs, _, rv, ha⟩
      · have z' := (if_neg hb).symm.trans z
        cases z'
    · by_cases hb : b = a
      · exact hb
      · exact absurd (if_neg hb) z
end L2

namespace L2
open PySem PySem.Spec PyProof.Rows


/-- the goal that k_head leaves (case hc), from the law's promise. F gives the function object fd (K's own) once, then the promise over every base -/
theorem walk_of {l : PySem.W.OpenLaw} {n k : Nat} {q : Program} {loose : List Str} {XP : (Str → Option Value) → Heap → Prop} {YP : World → Heap → Prop} {d : DefRec} {K : Params → PySem.W.Frag} {CX : World → CXT} {sp : World → Sp} {x : Str}
    (hn : l.most = some n) (hn2 : n ≤ sizeLine) (hdf : d.params.defaults = []) (hr : Room k callerA)
    (hY : ∀ (w : World) (h : Heap), YP w h → (K w.params).In h)
    (F : ∀ (w : World) (mg : Str → Option Value) (fa : Addr) (h : Heap), (K w.params).In h → h.Ns mainGlobals mg → mg d.name = some (.ref fa) →
      ∃ fd : FuncData, (∀ (s : Shared) (u : Value), BindsTo s fd ⟨[u], []⟩ [(x, u)]) ∧
        ∀ base : Heap, (K w.params).In base → base.Ns mainGlobals mg → FnOk l.prog w (K w.params) mg base (CX w) k fa fd [x] (sp w))
    (hsp : ∀ (w : World) (H : Hp) (a : Addr) (ns : List Int), ns.length ≤ n → Only H → SqL (K w.params) H a (ns.map V.int) → sp w [.ref a] H (fun v _ => v = .bl true) fun _ _ _ => False)
    (hCX : ∀ (w : World) (H : Hp) (s : Shared) (e : Value) (s' : Shared), CX w [] H s (fun _ _ _ => False) e s' → False) :
    PySem.W.WalkO q loose XP YP l.row.toRowW d [] (fun f vs => PySem.call f vs) := by
  refine Att.attach_call hn hdf fun w s₀ s₁ mg mb fa o pm cd doc a vs ns G Y ho hd hcd hmg hobj hints hlen hg => ?_
  have KX := hY w _ Y
  obtain ⟨fd, hb, hF⟩ := F w mg fa _ KX G.T.g hmg
  exact law_call KX G.T.g G.T.b G.T.builtins G.T.nolimit hg hobj hints (Nat.le_trans hlen hn2) hr hF hb (fun H hO hS => hsp w H a ns hlen hO hS) fun H e s' => hCX w H s₁ e s'
end L2

/- THE LAST THEOREM (shape; LID, My.* are yours):
   My.Adr: a structure of the addresses that your layer names (classes, functions); My.Txt K t: a structure (Prop) of the equations over K;
   My.txt_mk : {K} {implicit addresses ..} (e1 : nsIn K mainGlobals "law" = some (some (.ref f))) (e2 : K.lookup f = some ⟨oc, od, .func (fnOf "law" "law" params body scope dV kV doc pm an cdv ct), sl⟩) (e3 : codeIn K cdv "law" = true) .. : ∃ t, My.Txt K t

set_option maxRecDepth 100000 in
set_option maxHeartbeats 0 in
theorem PySem.Challenge.cw_LID_holds : PySem.Challenge.rw_LID.Holds := by
  w_on; o_law; k_head; (case hw => w_witness2)
  k_fill
  refine L2.walk_of (l := PySem.Challenge.rw_LID) (n := 63) (k := 40) (x := "script") (CX := fun w => ..) (sp := fun _ => My.sp_law) rfl (by decide) rfl ⟨rfl, by decide, by decide⟩ (fun w h Y => PySem.W.kIn_of Y) ?F ?S ?C
  case F =>
    intro w mg fa h KX G hmg
    have T : ∃ t, My.Txt (L2.KOf KX) t := by
      dsimp only [L2.KOf]                          -- K must stand as «<heap const> w.params» for k_is
      refine' My.txt_mk ?e1 ?e2 ?e3 ..
      (case e1 => PySem.W.k_is)                    -- in the order: a name -> its address -> its object -> its parts
      (case e2 => PySem.W.k_is)
      ..
    obtain ⟨t, T⟩ := T
    have e0 := hmg.symm.trans (PySem.W.mg_of KX G T.law)
    cases e0                                       -- fa is the law's own address
    exact ⟨_, fun s u => .of_eq rfl, fun base kb nb => My.law_fn T kb nb⟩     -- if «.of_eq rfl» comes too early: refine' ⟨_, ?b, fun base kb nb => My.law_fn T kb nb⟩; exact fun s u => .of_eq rfl
  case S => exact fun w H a ns hl hO hS => ..
  case C => exact ..
(the tactic k_is has no namespace: write k_is) -/

/-! SHORT WORDS over the layer: a def of the text, its body, what a loop and a test want. -/
namespace L2
open PySem PySem.Spec PyProof.Rows

/-! ### the text by places -/
def defArgs (s : Stmt) : Arguments := match s with
  | .FunctionDef _ a _ _ _ _ _ _ _ _ => a
  | _ => { posonlyargs := [], args := [], vararg := none, kwonlyargs := [], kw_defaults := [], kwarg := none, defaults := [] }
def defBody (s : Stmt) : List Stmt := match s with
  | .FunctionDef _ _ b _ _ _ _ _ _ _ => b
  | _ => []
def defScope (s : Stmt) : Scope := match s with
  | .FunctionDef _ _ _ _ _ _ sc _ _ _ => sc
  | _ => { kind := .function, names := [], isGenerator := false, isCoroutine := false }

/-! ### no exception leaves a def -/
abbrev CX0 : CXT := fun _ _ _ _ _ _ => False
abbrev E0 : XK := fun _ _ _ => False
theorem pass0 {X : Cx} : Passes CX0 X E0 := fun _ _ _ _ _ _ _ h => h.elim

/-! ### a def (or method) of the text as it stands behind the top -/
structure Fun (K : PySem.W.Frag) (x qual : Str) (st : Stmt) (f : Addr) (fd : FuncData) : Prop where
  ex : ∃ (oc : Value) (od : Option Addr) (kV doc pm : Value) (an : Option Addr) (cdv ct : Value) (osl : Array (Option Value)),
    fd = PySem.W.fnOf x qual (defArgs st) (defBody st) (defScope st) .none kV doc pm an cdv ct ∧ K.lookup f = some ⟨oc, od, .func fd, osl⟩ ∧ PySem.W.codeIn K cdv qual = true
  kp : PySem.W.keepIn K (.ref f) = true
section
variable {P : Program} {w : World} {K : PySem.W.Frag} {mg : Str → Option Value} {base : Heap}
/-- THE RULE for a def: its body as a term of rules, and the reading of that term -/
theorem Fun.ok {x qual : Str} {st : Stmt} {f : Addr} {fd : FuncData} {N ps : List Str} {k : Nat} {sp : Sp} (F : Fun K x qual st f fd) (S : FnScope N ps (defScope st)) (len : ∀ vs H Q E, sp vs H Q E → vs.length = ps.length)
    (hbody : ∀ (cdv : Value) (A : Around) (outer : List Env) (s : Shared) (H : Hp) (vs : List V) (Q : VK) (E : XK), Room k (A.deeper (envOfC qual (defScope st) s.heap.objs.size f cdv)) → sp vs H Q E →
      ∃ t, PSs (cxOf CX0 P w K mg base N qual (defScope st) f cdv A outer s H E).nox (defBody st) t ∧ t { nx := fun _ H' => Q .non H', rt := Q } (start N vs) H) : FnOk P w K mg base CX0 (k + 1) f fd ps sp := by
  obtain ⟨oc, od, kV, doc, pm, an, cdv, ct, osl, rfl, lk, hcd⟩ := F.ex
  refine fn_of lk hcd S len fun A outer s H vs Q E hr hsp => ?_
  obtain ⟨t, h, q⟩ := hbody cdv A outer s H vs Q E hr hsp
  exact ⟨t, h.nox, q⟩
/-- how its arguments bind (no defaults): h is «fun _ _ _ _ _ _ us hl => match us, hl with | [_, _], _ => rfl», one _ a parameter -/
theorem Fun.binds {x qual : Str} {st : Stmt} {f : Addr} {fd : FuncData} {ps : List Str} (F : Fun K x qual st f fd)
    (h : ∀ (kV doc pm : Value) (an : Option Addr) (cdv ct : Value) (us : List Value), us.length = ps.length → bindArgs (PySem.W.fnOf x qual (defArgs st) (defBody st) (defScope st) .none kV doc pm an cdv ct) ⟨us, []⟩ = pure (ps.zip us)) : Binds K fd ps [] := by
  obtain ⟨oc, od, kV, doc, pm, an, cdv, ct, osl, rfl, lk, hcd⟩ := F.ex
  exact .all (h kV doc pm an cdv ct)
theorem fun_mk {x qual : Str} {st : Stmt} {f : Addr} {oc : Value} {od an : Option Addr} {osl : Array (Option Value)} {kV doc pm cdv ct : Value} (l : K.lookup f = some ⟨oc, od, .func (PySem.W.fnOf x qual (defArgs st) (defBody st) (defScope st) .none kV doc pm an cdv ct), osl⟩)
    (c : PySem.W.codeIn K cdv qual = true) (k : PySem.W.keepIn K (.ref f) = true) : Fun K x qual st f (PySem.W.fnOf x qual (defArgs st) (defBody st) (defScope st) .none kV doc pm an cdv ct) := ⟨⟨oc, od, kV, doc, pm, an, cdv, ct, osl, rfl, l, c⟩, k⟩
end
theorem hu_of {A : Around} {k : Nat} (hr : Room k A) : A.units + 1 < cLine := Nat.lt_of_le_of_lt (Nat.add_le_add_left (by decide : 1 ≤ 64) _) hr.units

/-! ### expressions in short: the name that stands in the i-th slot -/
section
variable {X : Cx}
theorem pv (i : Nat) {x : Str} {pos : Pos} (hN : X.N[i]? = some x := by rfl) (hv : Vis X.env.scope x := by first | exact Or.inl rfl | exact Or.inr (Or.inl rfl) | exact Or.inr (Or.inr rfl)) (hd : (x == ("__debug__" : Str)) = false := by decide)
    (hcd : (x == ("__classdict__" : Str)) = false := by decide) : PE X (.Name x pos) (tVar i) := pe_var hN hv hd hcd
end

/-! ### tests -/
theorem iteF {A B : Prop} (h : B) : if false = true then A else B := by
  rw [if_neg Bool.false_ne_true]
  exact h
theorem iteT {A B : Prop} (h : A) : if true = true then A else B := by
  rw [if_pos rfl]
  exact h
theorem ite2 {c A B : Prop} [Decidable c] (h1 : c → A) (h2 : ¬ c → B) : if c then A else B := by
  by_cases h : c
  · rw [if_pos h]
    exact h1 h
  · rw [if_neg h]
    exact h2 h
theorem iteNS {c A B : Prop} [Decidable c] (hc : c) (h : B) : if (!decide c) = true then A else B := by
  rw [decide_eq_true hc]
  exact iteF h

/-! ### heaps -/
/-- all that was tracked is as it was -/
def Same (H H' : Hp) : Prop := ∀ b o, H b = some o → H' b = some o
theorem Same.refl (H : Hp) : Same H H := fun _ _ h => h
theorem Same.trans {H H1 H2 : Hp} (a : Same H H1) (b : Same H1 H2) : Same H H2 := fun c o h => b c o (a c o h)
theorem Same.free {H H' : Hp} (e : Same H H') {l : Addr} (h : H' l = Option.none) : H l = Option.none := by
  cases q : H l with
  | none => rfl
  | some o =>
    rw [e l o q] at h
    cases h
theorem Same.seq {K : PySem.W.Frag} {H H' : Hp} {a : Addr} {xs : List V} (e : Same H H') (h : SqL K H a xs) : SqL K H' a xs := by
  rcases h with (h | ⟨o, h⟩) | h
  · exact .inl (.inl (e _ _ h))
  · exact .inl (.inr ⟨o, e _ _ h⟩)
  · exact .inr h

/-! ### a dict's pairs: keys that differ -/
section
variable {κ : Type} [DecidableEq κ]
end
end L2

set_option Elab.async false
set_option linter.all false
set_option maxRecDepth 100000
set_option maxHeartbeats 4000000
/-! list comprehensions over the hand layer: one clause, at most one test, no exception leaves -/
namespace L2
open PySem PySem.Spec PyProof.Rows

theorem forIn_yield_fold {α β : Type} {f : α → β → Sem (ForInStep β)} (g : β → α → β) : ∀ (l : List α) (c : β), (∀ x ∈ l, ∀ c, f x c = pure (.yield (g c x))) → forIn l c f = pure (l.foldl g c)
  | [], c, _ => rfl
  | x :: l, c, h => by
    rw [List.forIn_cons, h x List.mem_cons_self, pure_bind]
    exact forIn_yield_fold g l (g c x) fun y hy => h y (List.mem_cons_of_mem _ hy)

/-- the cells that a block closes over -/
def closF (cells : List (Str × Addr)) (c : List (Str × Addr)) (x : Str × NameKind) : List (Str × Addr) :=
  if x.2 == .free then (match cells.lookup x.1 with | some a => (x.1, a) :: c | none => c) else c
def closOf (env : Env) (sc : Scope) : List (Str × Addr) := sc.names.foldl (closF env.cells) []
theorem closureFor_is {scope : Scope} {env : Env} (h : ∀ x ∈ scope.names, x.2 = .free → ∃ c, env.cells.lookup x.1 = some c) : closureFor scope env = pure (closOf env scope) := by
  simp only [closureFor]
  rw [forIn_yield_fold (closF env.cells) scope.names [] (fun x hx c => ?_)]
  · rfl
  · obtain ⟨n, k⟩ := x
    unfold closF
    cases hk : (k == NameKind.free) with
    | true =>
      have e : k = .free := by simpa using hk
      obtain ⟨a, ha⟩ := h (n, k) hx e
      have ha' : env.cells.lookup n = some a := ha
      simp only [hk, if_true, cellOf, ha', pure_bind]
    | false => simp only [hk, Bool.false_eq_true, if_false]
theorem lookup_pair {β : Type} (x n : Str) (a : β) (l : List (Str × β)) : List.lookup x ((n, a) :: l) = if x = n then some a else List.lookup x l := by
  by_cases h : x = n
  · have hb : (x == n) = true := beq_iff_eq.mpr h
    simp only [List.lookup_cons, hb, if_pos h]
  · have hb : (x == n) = false := beq_eq_false_iff_ne.mpr h
    simp only [List.lookup_cons, hb, if_neg h]
theorem clos_sub {cells : List (Str × Addr)} : ∀ (names : List (Str × NameKind)) (acc : List (Str × Addr)), (∀ x c, acc.lookup x = some c → cells.lookup x = some c) →
    ∀ x c, (names.foldl (closF cells) acc).lookup x = some c → cells.lookup x = some c
  | [], acc, h => h
  | (n, k) :: r, acc, h => clos_sub r _ fun x c e => by
    unfold closF at e
    by_cases hk : ((n, k).2 == NameKind.free) = true
    · rw [if_pos hk] at e
      dsimp only at e
      cases q : cells.lookup n with
      | none => rw [q] at e; exact h x c e
      | some a =>
        rw [q] at e
        dsimp only at e
        rw [lookup_pair] at e
        by_cases hx : x = n
        · rw [if_pos hx] at e; rw [hx, q]; exact e
        · rw [if_neg hx] at e; exact h x c e
    · rw [if_neg hk] at e; exact h x c e
theorem clos_mono {cells : List (Str × Addr)} : ∀ (names : List (Str × NameKind)) (acc : List (Str × Addr)) (x : Str), (∃ c, acc.lookup x = some c) → ∃ c, (names.foldl (closF cells) acc).lookup x = some c
  | [], acc, x, h => h
  | (n, k) :: r, acc, x, h => clos_mono r _ x (by
    obtain ⟨c, h⟩ := h
    unfold closF
    by_cases hk : ((n, k).2 == NameKind.free) = true
    · rw [if_pos hk]
      dsimp only
      cases q : cells.lookup n with
      | none => exact ⟨c, h⟩
      | some a =>
        dsimp only
        rw [lookup_pair]
        by_cases hx : x = n
        · exact ⟨a, by rw [if_pos hx]⟩
        · exact ⟨c, by rw [if_neg hx]; exact h⟩
    · rw [if_neg hk]; exact ⟨c, h⟩)
theorem clos_has {cells : List (Str × Addr)} {x : Str} {c : Addr} (hc : cells.lookup x = some c) : ∀ (names : List (Str × NameKind)) (acc : List (Str × Addr)), (x, NameKind.free) ∈ names → ∃ c, (names.foldl (closF cells) acc).lookup x = some c
  | [], acc, h => by cases h
  | (n, k) :: r, acc, h => by
    rcases List.mem_cons.mp h with e | e
    · cases e
      refine clos_mono r _ x ⟨c, ?_⟩
      unfold closF
      rw [if_pos (by rfl)]
      dsimp only
      rw [hc]
      dsimp only
      rw [lookup_pair, if_pos rfl]
    · exact clos_has hc r _ e
theorem clos_at {env : Env} {sc : Scope} {x : Str} {c : Addr} (hc : env.cells.lookup x = some c) (hm : (x, NameKind.free) ∈ sc.names) : (closOf env sc).lookup x = some c := by
  obtain ⟨c', h⟩ := clos_has hc sc.names [] hm
  have e := clos_sub sc.names [] (fun x c e => by cases e) x c' h
  rw [hc] at e; cases e
  exact h
theorem clos_of {env : Env} {sc : Scope} {x : Str} {c : Addr} (h : (closOf env sc).lookup x = some c) : env.cells.lookup x = some c :=
  clos_sub sc.names [] (fun x c e => by cases e) x c h

/-- the kinds in a block -/
def relK (env : Env) (x : Str) (k : NameKind) : NameKind := if (k == .free && env.scope.kind == .function && env.kindOf x == some .cell) then .cell else k
theorem relabel_lookup {env : Env} (x : Str) : ∀ names : List (Str × NameKind),
    (names.map fun (n, k) => if (k == NameKind.free && env.scope.kind == .function && env.kindOf n == some .cell) then (n, NameKind.cell) else (n, k)).lookup x = (names.lookup x).map (relK env x)
  | [] => rfl
  | (n, k) :: r => by
    have ih := relabel_lookup (env := env) x r
    rw [List.map_cons]
    have e : (if (k == NameKind.free && env.scope.kind == .function && env.kindOf n == some .cell) = true then (n, NameKind.cell) else (n, k)) = (n, relK env n k) := by
      unfold relK
      split <;> rfl
    dsimp only
    rw [e, lookup_pair, lookup_pair]
    by_cases hx : x = n
    · rw [if_pos hx, if_pos hx, hx]; rfl
    · rw [if_neg hx, if_neg hx]; exact ih
theorem comp_lookup {env : Env} {scope : Scope} {cl : List (Str × Addr)} {C : Addr} (x : Str) : (compEnvC scope cl C env).scope.names.lookup x = (scope.names.lookup x).map (relK env x) := relabel_lookup x scope.names

/-- where a block's names get their values -/
def srcSt (src : List (Option Nat)) (σ : St) : St := src.map fun o => o.bind fun i => (σ[i]?).join
/-- what is asked of a block's names: sc, N the def's scope and names, N' the block's names, src where those of the def stand in N -/
structure CompOk (sc : Scope) (N N' : List Str) (src : List (Option Nat)) (scope : Scope) : Prop where
  nd : N'.Nodup
  len : src.length = N'.length
  kind : scope.kind = .function
  nocell : ∀ y ∈ scope.names, y.2 ≠ .cell
  names : ∀ y ∈ scope.names, y.2 = .local → scope.names.lookup y.1 = some .local
  free : ∀ y ∈ scope.names, y.2 = .free → sc.names.lookup y.1 = some .cell ∨ sc.names.lookup y.1 = some .free
  srcs : ((src.zip N').all fun (o, x) => match o with | none => true | some i => N[i]? == some x && scope.names.lookup x == some .free) = true
theorem CompOk.at {sc : Scope} {N N' : List Str} {src : List (Option Nat)} {scope : Scope} (O : CompOk sc N N' src scope) {j i : Nat} {x : Str} (h1 : src[j]? = some (some i)) (h2 : N'[j]? = some x) : N[i]? = some x ∧ scope.names.lookup x = some .free := by
  have hz : (src.zip N')[j]? = some (some i, x) := by rw [List.getElem?_zip_eq_some]; exact ⟨h1, h2⟩
  have q := List.all_eq_true.mp O.srcs _ (List.mem_of_getElem? hz)
  have q' : (N[i]? == some x && scope.names.lookup x == some .free) = true := q
  rw [Bool.and_eq_true] at q'
  exact ⟨eq_of_beq q'.1, eq_of_beq q'.2⟩

def Cx.comp (X : Cx) (N' : List Str) (scope : Scope) (C : Addr) (s : Shared) (H : Hp) (fp : List Addr) : Cx :=
  { X with N := N', s₀ := s, H₀ := H, env := compEnvC scope (closOf X.env scope) C X.env, outer := X.stack, ex := fp, fn := fun _ => false, pn := [], xe := fun _ _ => False }

theorem Un.adopt {fs ex : List Addr} {H H1 : Hp} {h h1 : Heap} {D : Addr} {o : HO} (u : Un fs ex H H1 h h1) (hD : h.get? D = none) (hH : H D = none) : Un fs ex H (upd H1 D o) h h1 where
  keep := u.keep
  slot := u.slot
  free := fun b ob q n hx => by
    have hb : b ≠ D := fun z => by rw [z, hD] at q; cases q
    rw [upd_ne hb]; exact u.free b ob q n hx
  there := u.there
  tups := fun b xs q => by rw [upd_ne (ne_of_none q hH)]; exact u.tups b xs q
  frzs := fun b ob xs q => by rw [upd_ne (ne_of_none q hH)]; exact u.frzs b ob xs q
  tbls := fun b ps q => by rw [upd_ne (ne_of_none q hH)]; exact u.tbls b ps q
theorem HOk.adopt {P : Program} {w : World} {H : Hp} {h : Heap} {D : Addr} {o : HO} (x : HOk P w H h) (n : H D = none) (new : ObjOk P w (upd H D o) h D o) : HOk P w (upd H D o) h := fun b u e => by
  by_cases hb : b = D
  · subst hb; rw [upd_same] at e; cases e; exact new
  · rw [upd_ne hb] at e
    exact (x b u e).stay (fun c v _ q => q) (fun c q => by rw [upd_ne (ne_of_none q n)]; exact q) fun c xs q => by rw [upd_ne (ne_of_none q n)]; exact q

/-- a test of a clause -/
def PFi (X : Cx) (ifs : List Expr) (tf : TT) : Prop :=
  ∀ (pins : List (Addr × Obj)) (s : Shared) (σ : St) (H : Hp) (Q : Bool → Hp → Prop), Inv X pins σ H s → tf σ H Q →
    wpAny (model X.prog X.w) X.A (forIn ifs true fun c r => if r = true then do let ok ← isTrue c X.env (eval c X.env); pure (ForInStep.yield ok) else pure (ForInStep.yield r)) (TP X pins σ Q) X.xe s
def tfNil : TT := fun _ H Q => Q true H
theorem pf_nil {X : Cx} : PFi X [] tfNil := by
  intro pins s σ H Q I h
  rw [List.forIn_nil]
  exact wpAny_pure ⟨H, I, h⟩

/-- what a comprehension's block asks: W the word by the turn, a measure, what is gathered, the block's names -/
def CompW (src : List (Option Nat)) (J : It) (g : TG) (tf : TT) (te : TE) (Q : VK) (σ : St) (H : Hp) : Prop :=
  ∃ W : Nat → Nat → List V → St → Hp → Prop, (∃ m, W 0 m [] (srcSt src σ) H) ∧ ∀ i m ys σ' H', W i m ys σ' H' → ys.length ≤ sizeLine ∧
  ((J.stop i H' ∧ ∀ p, H' p = none → Q (.ref p) (upd H' p (.lst ys))) ∨
   (J.go i H' ∧ ∃ Nx : List V → St → Hp → Prop, (∀ ys2 σ2 H2, Nx ys2 σ2 H2 → ∃ m', m' < m ∧ W (i + 1) m' ys2 σ2 H2) ∧
     ∀ x H2, J.yld i H' x H2 → g x σ' H2 fun σ2 H3 => tf σ2 H3 fun b H4 => if b = true then te σ2 H4 fun y H5 => Nx (ys ++ [y]) σ2 H5 else Nx ys σ2 H4))
/-- [elt for tg in iter if ..] -/
def tComp (src : List (Option Nat)) (wi : TI) (g : TG) (tf : TT) (te : TE) : TE := fun σ H Q => wi σ H fun J H1 => CompW src J g tf te Q σ H1

section
variable {X : Cx} {tg elt iter : Expr} {ifs : List Expr} {scope sc : Scope} {N N' : List Str} {src : List (Option Nat)} {g : TG} {tf : TT} {te : TE} {wi : TI} {pos : Pos}

theorem loop_own {prog : Program} {w : World} {A : Around} {R : Result → Shared → Prop} {s : Shared} {it acc : Value} {env : Env} (I : Nat → Shared → Prop)
    (turn : ∀ n s, I n s → wpAny (model prog w) A (pyNext it) (fun r s₁ => match r with
      | none => R (.ok .next) s₁
      | some v => wpAny (model prog w) A (letOwnedTupleGo tg it v) (fun _ s₂ => wpAny (model prog w) A (assign tg env v) (fun _ s₃ =>
          wpAny (model prog w) A (forIn ifs true fun c r => if r = true then do let ok ← isTrue c env (eval c env); pure (ForInStep.yield ok) else pure (ForInStep.yield r)) (fun ok s₄ =>
            if ok = true then wpAny (model prog w) A (eval elt env) (fun x s₅ =>
              wpAny (model prog w) A (call (.builtin "list.append") [acc, x]) (fun _ s₆ => ∃ m, m < n ∧ I m s₆) (fun _ _ => False) s₅) (fun _ _ => False) s₄
            else ∃ m, m < n ∧ I m s₄) (fun _ _ => False) s₃) (fun _ _ => False) s₂) (fun _ _ => False) s₁) (fun _ _ => False) s)
    (n : Nat) (h : I n s) : codeAny (model prog w) A (.compLoop (.ListComp elt [⟨tg, iter, ifs, 0⟩] scope pos) 0 it acc env) R s := by
  refine codeAny_loop rfl I (fun n s hI => ?_) n h
  show wpAny _ A ((compTurn (.ListComp elt [⟨tg, iter, ifs, 0⟩] scope pos) 0 it acc env).onRaise (fun x => do noteFrame x env; theTreesLotGoes x)) _ _ s
  refine wpAny_noted ?_
  rw [compTurn_list]
  refine wpAny_bind (wpAny_standAt (wpAny_bind (wpAny_mono (turn n s hI) (fun r s₁ h₁ => ?_) fun _ _ h' => h'.elim)))
  cases r with
  | none => exact wpAny_pure h₁
  | some v =>
    refine wpAny_bind (wpAny_mono h₁ (fun _ s₂ h₂ => ?_) fun _ _ h' => h'.elim)
    refine wpAny_bind (wpAny_mono h₂ (fun _ s₃ h₃ => wpAny_bind (wpAny_mono h₃ (fun ok s₄ h₄ => ?_) fun _ _ h' => h'.elim)) fun _ _ h' => h'.elim)
    cases ok with
    | false => exact wpAny_pure ⟨rfl, h₄⟩
    | true =>
      exact wpAny_bind (wpAny_bind (wpAny_mono h₄ (fun x s₅ h₅ => wpAny_bind (wpAny_mono h₅ (fun _ s₆ h₆ => wpAny_pure (wpAny_pure ⟨rfl, h₆⟩)) fun _ _ h' => h'.elim)) fun _ _ h' => h'.elim))

/-- the block's context is good -/
theorem comp_ok {pins : List (Addr × Obj)} {σ : St} {H : Hp} {s : Shared} {fp : List Addr} {C : Addr} (O : CompOk sc N N' src scope) (hsc : X.env.scope = sc) (I : Inv X pins σ H s) (hf : ∀ b ∈ fp, FpOk X pins H b)
    (ho : ∀ b ∈ fp, ∃ o, s.heap.get? b = some o) (hC : s.heap.objs.size ≤ C) : (X.comp N' scope C s H fp).Ok := by
  have hk : ∀ x, ((compEnvC scope (closOf X.env scope) C X.env).kindOf x = some .cell ∨ (compEnvC scope (closOf X.env scope) C X.env).kindOf x = some .free) → (x, NameKind.free) ∈ scope.names := fun x h => by
    have h : (compEnvC scope (closOf X.env scope) C X.env).scope.names.lookup x = some .cell ∨ (compEnvC scope (closOf X.env scope) C X.env).scope.names.lookup x = some .free := h
    rw [comp_lookup] at h
    cases q : scope.names.lookup x with
    | none => rw [q] at h; rcases h with h | h <;> cases h
    | some k =>
      have hm := PySem.mem_of_lookup q
      rw [q] at h
      cases k with
      | free => exact hm
      | cell => exact absurd rfl (O.nocell _ hm)
      | _ =>
        exfalso
        rcases h with h | h <;> (have h' := Option.some.inj h; unfold relK at h'; simp at h')
  refine ⟨I.ok.mod, O.kind, I.ok.glob, I.ok.blt, hC, fun x y c h1 h2 => I.ok.inj x y c (clos_of h1) (clos_of h2), fun x h => ?_, fun x c h => (by cases h), I.ok.hd, I.ok.frames, .inl rfl, fun b hb => ?_, I.bs, Nat.le_trans I.ok.bsz I.sz, fun b o e hb => ?_, fun b hb z => ?_, I.stack, I.stkFree⟩
  · have hm := hk x h
    have hx := O.free _ hm rfl
    rw [← hsc] at hx
    obtain ⟨c, hc⟩ := I.ok.has x hx
    exact ⟨c, clos_at hc hm⟩
  · refine ⟨?_, fun x c h => (hf b hb).2.2.2.2.1 x c (clos_of h)⟩
    obtain ⟨o, e⟩ := ho b hb
    exact Nat.ne_of_lt (Nat.lt_of_lt_of_le (Heap.lt_size e) hC)
  · rcases (hf b hb).2.2.2.1 with z | z
    · exact I.ok.noex b o e z
    · exact absurd (Nat.lt_of_lt_of_le (Nat.lt_of_lt_of_le (Heap.lt_size e) I.ok.bsz) z) (Nat.lt_irrefl _)
  · rcases List.mem_cons.mp (I.stkSub b z) with e | e
    · exact (hf b hb).2.1 e
    · exact (hf b hb).2.2.1 e

/-- the block's first state -/
theorem comp_inv {pins : List (Addr × Obj)} {σ : St} {H : Hp} {s : Shared} {fp : List Addr} {C : Addr} {h' : Heap} {tk : Nat} (O : CompOk sc N N' src scope) (hsc : X.env.scope = sc) (hN : X.N = N) (I : Inv X pins σ H s) (hf : ∀ b ∈ fp, FpOk X pins H b)
    (ho : ∀ b ∈ fp, ∃ o, s.heap.get? b = some o) (hC : s.heap.objs.size ≤ C) (k : ∀ b o, s.heap.get? b = some o → h'.get? b = some o) {m' : Str → Option Value} (hn : h'.Ns C m') :
    Inv (X.comp N' scope C s H fp) [] (srcSt src σ) H { s with heap := h', toks := tk } := by
  have cells : ∀ x c, X.env.cells.lookup x = some c → ∀ v, s.heap.IsCell c v → h'.IsCell c v := fun x c _ v ⟨o, e, d⟩ => ⟨o, k c o e, d⟩
  refine ⟨comp_ok O hsc I hf ho hC, rfl, I.bare, Un.kept k, ⟨_, hn, fun j x v e1 e2 e3 => ?_⟩, fun x c e => ?_, I.hok.fresh hC, fun x c e => I.freeC x c (clos_of e), fun p hp => (by cases hp), I.hok.kept k, ?_⟩
  · have e2 : (srcSt src σ)[j]? = some (some v) := e2
    have e1 : N'[j]? = some x := e1
    unfold srcSt at e2
    rw [List.getElem?_map] at e2
    cases q : src[j]? with
    | none => rw [q] at e2; cases e2
    | some o =>
      rw [q] at e2
      have e2 : (o.bind fun i => (σ[i]?).join) = some v := Option.some.inj e2
      cases o with
      | none => cases e2
      | some i =>
        have e2 : (σ[i]?).join = some v := e2
        obtain ⟨y2, hlk⟩ := O.at q e1
        have y3 := PySem.mem_of_lookup hlk
        have e4 : σ[i]? = some (some v) := by
          cases r : σ[i]? with
          | none => rw [r] at e2; cases e2
          | some w => rw [r] at e2; cases w with
            | none => cases e2
            | some w' => have : w' = v := Option.some.inj e2; rw [this]
        have hx := O.free _ y3 rfl
        rw [← hsc] at hx
        obtain ⟨m, hm, hl⟩ := I.loc
        obtain ⟨u, ru, lu⟩ := hl i x v (by rw [hN]; exact y2) e4 (.inr hx)
        refine ⟨u, ru, .inr ?_⟩
        obtain ⟨c, hc, hcell⟩ : ∃ c, X.env.cells.lookup x = some c ∧ s.heap.IsCell c (some u) := by
          rcases lu with ⟨z, _⟩ | ⟨_, c, hc, hz⟩
          · exfalso
            have z : X.env.scope.names.lookup x = some .local := z
            rcases hx with hx | hx <;> (rw [hx] at z; cases z)
          · exact ⟨c, hc, hz⟩
        refine ⟨?_, c, clos_at hc y3, cells x c hc _ hcell⟩
        show (compEnvC scope (closOf X.env scope) C X.env).scope.names.lookup x = some .cell ∨ (compEnvC scope (closOf X.env scope) C X.env).scope.names.lookup x = some .free
        rw [comp_lookup, hlk]
        show some (relK X.env x .free) = some .cell ∨ some (relK X.env x .free) = some .free
        unfold relK
        split
        · exact .inl rfl
        · exact .inr rfl
  · obtain ⟨v, z⟩ := I.cell x c (clos_of e)
    exact ⟨v, cells x c (clos_of e) v z⟩
  · show (srcSt src σ).length = N'.length
    unfold srcSt
    rw [List.length_map]
    exact O.len

/-- the block, from the iterator on -/
theorem comp_block {pins : List (Addr × Obj)} {σ : St} {H : Hp} {s : Shared} {fp : List Addr} {it : Addr} {tn : Nat → Heap → Prop} {J : It} {E : Value → Shared → Prop} {RR : Value → Addr → Result → Shared → Prop} {Fin : List V → Hp → Prop} (O : CompOk sc N N' src scope) (hsc : X.env.scope = sc) (hN : X.N = N) (hcalm : X.calm = true)
    (hg : ∀ C s H fp, PG (X.comp N' scope C s H fp) tg g) (hft : ∀ C s H fp, PFi (X.comp N' scope C s H fp) ifs tf) (he : ∀ C s H fp, PE (X.comp N' scope C s H fp) elt te)
    (I : Inv X pins σ H s) (T : Turn X.prog X.w X.K tg J fp it tn) (t0 : tn 0 s.heap) (hf : ∀ b ∈ fp, FpOk X pins H b)
    (W : Nat → Nat → List V → St → Hp → Prop) (m0 : Nat) (w0 : W 0 m0 [] (srcSt src σ) H)
    (hW : ∀ i m ys σ' H', W i m ys σ' H' → ys.length ≤ sizeLine ∧ ((J.stop i H' ∧ Fin ys H') ∨
      (J.go i H' ∧ ∃ Nx : List V → St → Hp → Prop, (∀ ys2 σ2 H2, Nx ys2 σ2 H2 → ∃ m', m' < m ∧ W (i + 1) m' ys2 σ2 H2) ∧
        ∀ x H2, J.yld i H' x H2 → g x σ' H2 fun σ2 H3 => tf σ2 H3 fun b H4 => if b = true then te σ2 H4 fun y H5 => Nx (ys ++ [y]) σ2 H5 else Nx ys σ2 H4)))
    (hRR : ∀ (D C : Addr) (s' : Shared) (σ' : St) (H' : Hp) (ys : List V) (its : List Value) (n : Nat), s.heap.objs.size ≤ D → s.heap.objs.size ≤ C → Inv (X.comp N' scope C s H fp) [] σ' H' s' → s'.heap.get? D = some { cls := .type "list", data := .seq its.toArray n } → Vals ys its → ys.length ≤ sizeLine →
      H' D = none → D ≠ C → Fin ys H' → RR (.ref D) C (.ok .next) s') :
    wpAny (model X.prog X.w) X.A (newList []) (fun acc s₃ => wpAny (model X.prog X.w) X.A (newFunctionEnv scope X.env.globals (closOf X.env scope) [] X.env.qual none .none (some X.env)) (fun cenv s₄ =>
      codeAny (model X.prog X.w) X.A (.compStart (.ListComp elt [⟨tg, iter, ifs, 0⟩] scope pos) 0 (.ref it) acc { cenv with scope := relabel scope X.env }) (RR acc cenv.locals) s₄) E s₃) E s := by
  refine wpAny_newObj_type (wpAny_newFunctionEnv O.nocell (by intro y hy; cases hy) (fun h₁ hns₁ hsb₁ => ?_) O.kind)
  dsimp only at hns₁ hsb₁ ⊢
  generalize hH2 : s.heap.push { cls := .type "list", dict := none, data := .seq ([] : List Value).toArray } = P2 at hns₁ hsb₁ ⊢
  have hCs : P2.objs.size = s.heap.objs.size + 1 := by rw [← hH2, Heap.size_push]
  have hDC : s.heap.objs.size ≠ P2.objs.size := by rw [hCs]; exact Nat.ne_of_lt (Nat.lt_succ_self _)
  have hCle : s.heap.objs.size ≤ P2.objs.size := by rw [hCs]; exact Nat.le_succ _
  have below : ∀ b, b < s.heap.objs.size → b ≠ P2.objs.size ∧ b ≠ s.heap.objs.size := fun b hb => ⟨by rw [hCs]; exact Nat.ne_of_lt (Nat.lt_succ_of_lt hb), Nat.ne_of_lt hb⟩
  have old : ∀ b o, s.heap.get? b = some o → h₁.get? b = some o := fun b o e => hsb₁.extBut b o (below b (Heap.lt_size e)).1 (Heap.get?_push_of_some _ (hH2 ▸ Heap.get?_push_of_some _ e))
  have hacc : h₁.get? s.heap.objs.size = some { cls := .type "list", data := .seq ([] : List Value).toArray 0 } := hsb₁.extBut _ _ hDC (Heap.get?_push_of_some _ (hH2 ▸ Heap.get?_push_size _ rfl))
  have fpo : ∀ b ∈ fp, ∃ o, s.heap.get? b = some o := fun b hb => let ⟨o, e, _⟩ := T.obj 0 _ t0 b hb; ⟨o, e⟩
  have fplt : ∀ b ∈ fp, b < s.heap.objs.size := fun b hb => let ⟨o, e⟩ := fpo b hb; Heap.lt_size e
  generalize hD : s.heap.objs.size = D at *
  generalize hC : P2.objs.size = C at *
  have ok1 : ∀ tk, Inv (X.comp N' scope C s H fp) [] (srcSt src σ) H { s with heap := h₁, toks := tk } := fun tk => comp_inv O hsc hN I hf fpo (by rw [hD]; exact hCle) old hns₁
  have okX : (X.comp N' scope C s H fp).Ok := (ok1 0).ok
  -- what holds of the iterator's objects in the block
  have stat : ∀ {H' : Hp} {pl : List (Addr × Obj)}, (∀ b ∈ fp, H' b = none) → (∀ p ∈ pl, p.1 ∉ fp) → ∀ b ∈ fp, FpOk (X.comp N' scope C s H fp) pl H' b := fun {H' pl} hn hp b hb =>
    ⟨hn b hb, (okX.exf b hb).1, okX.exfs b hb, .inl hb, (okX.exf b hb).2, fun p hm => by
      have hm : p ∈ pl := by simpa [Cx.comp] using hm
      exact fun z => hp p hm (z ▸ hb)⟩
  have Dfs : D ∉ (X.comp N' scope C s H fp).fs := fun hb => by
    obtain ⟨_, o, ho, _⟩ := okX.funs.mem hb
    have ho : s.heap.get? D = some o := ho
    have h1 := Heap.lt_size ho
    rw [hD] at h1
    exact Nat.lt_irrefl _ h1
  have Dcell : ∀ x c, (X.comp N' scope C s H fp).env.cells.lookup x = some c → c ≠ D := fun x c e z => by
    obtain ⟨v, o, ho, _⟩ := I.cell x c (clos_of e)
    have h1 := Heap.lt_size ho
    rw [hD, z] at h1
    exact Nat.lt_irrefl _ h1
  have loop : ∀ tk, codeAny (model X.prog X.w) X.A (.compLoop (.ListComp elt [⟨tg, iter, ifs, 0⟩] scope pos) 0 (.ref it) (.ref D) (compEnvC scope (closOf X.env scope) C X.env)) (RR (.ref D) C) { s with heap := h₁, toks := tk } := by
    intro tk
    refine loop_own (fun n s' => ∃ i ys σ' H' its c, Inv (X.comp N' scope C s H fp) [] σ' H' s' ∧ tn i s'.heap ∧ (∀ b ∈ fp, H' b = none) ∧ s'.heap.get? D = some { cls := .type "list", data := .seq (its : List Value).toArray c } ∧ Vals ys its ∧ H' D = none ∧ W i n ys σ' H') ?_ m0
      ⟨0, [], srcSt src σ, H, [], 0, ok1 tk, T.keep 0 _ _ t0 fun b _ o e => old b o e, fun b hb => (hf b hb).1, hacc, .nil, I.hok.fresh (by rw [hD]; exact Nat.le_refl _), w0⟩
    rintro n s3 ⟨i, ys, σ3, H3, its, c3, I3, st3, fr3, d3, v3, nD3, w3⟩
    obtain ⟨hlen, alt⟩ := hW i n ys σ3 H3 w3
    rcases alt with ⟨stop, fin⟩ | ⟨go, Nx, hNx, step⟩
    · have I3' : Inv (X.comp N' scope C s H fp) [(D, { cls := .type "list", data := .seq its.toArray c3 })] σ3 H3 s3 := I3.pins_of fun p hp => by
        have e : p = (D, { cls := .type "list", data := .seq its.toArray c3 }) := by simpa using hp
        subst e
        exact ⟨d3, nD3, hDC, Dfs, fun v z => by cases z⟩
      refine thn (T.done (X.comp N' scope C s H fp) rfl rfl rfl hcalm i _ s3 σ3 H3 _ I3' (stat fr3 fun p hp z => by
        have e : p = (D, { cls := .type "list", data := .seq its.toArray c3 }) := by simpa using hp
        rw [e] at z
        exact Nat.lt_irrefl _ (fplt D z)) st3 stop) fun r s4 ⟨hr, I4⟩ => ?_
      subst hr
      obtain ⟨d4, nD4, _⟩ := I4.pin (D, { cls := .type "list", data := .seq its.toArray c3 }) (by simp [Cx.comp])
      exact hRR D C s4 σ3 H3 ys its c3 (by omega) (by omega) (I4.pins_of fun p hp => (by cases hp)) d4 v3 hlen nD4 hDC fin
    · have I3' : Inv (X.comp N' scope C s H fp) [(D, { cls := .type "list", data := .seq its.toArray c3 })] σ3 H3 s3 := I3.pins_of fun p hp => by
        have e : p = (D, { cls := .type "list", data := .seq its.toArray c3 }) := by simpa using hp
        subst e
        exact ⟨d3, nD3, hDC, Dfs, fun v z => by cases z⟩
      have hpD : ∀ p ∈ [((D, { cls := .type "list", data := .seq its.toArray c3 }) : Addr × Obj)], p.1 ∉ fp := fun p hp z => by
        have e : p = (D, { cls := .type "list", data := .seq its.toArray c3 }) := by simpa using hp
        rw [e] at z
        exact Nat.lt_irrefl _ (fplt D z)
      refine thn (T.item (X.comp N' scope C s H fp) rfl rfl rfl hcalm i _ s3 σ3 H3 _ I3' (stat fr3 hpD) st3 go) fun r s4 ⟨u, hr, h4⟩ => ?_
      subst hr
      refine thn h4 fun _ s5 ⟨x, H5, I5, r5, y5, st5, fr5⟩ => ?_
      have I5' := I5.pinned (stat fr5 hpD) (T.obj _ _ st5)
      have pinD : (D, ({ cls := .type "list", data := .seq its.toArray c3 } : Obj)) ∈ (X.comp N' scope C s H fp).pn ++ ([((D, { cls := .type "list", data := .seq its.toArray c3 }) : Addr × Obj)] ++ pinsAt fp s5.heap) := by simp [Cx.comp]
      have back : ∀ {σ7 : St} {H7 : Hp} {s7 : Shared}, Inv (X.comp N' scope C s H fp) ([((D, { cls := .type "list", data := .seq its.toArray c3 }) : Addr × Obj)] ++ pinsAt fp s5.heap) σ7 H7 s7 →
          tn (i + 1) s7.heap ∧ ∀ b ∈ fp, H7 b = none := fun {σ7 H7 s7} I7 => ⟨T.keep _ _ _ st5 fun b hb o e => (I7.pin (b, o) (List.mem_append_right _ (List.mem_append_right _ (mem_pinsAt hb e)))).1, fun b hb => by
        obtain ⟨o, e, d⟩ := T.obj _ _ st5 b hb
        exact (I7.pin (b, o) (List.mem_append_right _ (List.mem_append_right _ (mem_pinsAt hb e)))).2.1⟩
      refine thn (hg C s H fp _ s5 σ3 H5 x u _ I5' r5 (step x H5 y5)) fun _ s6 ⟨σ6, H6, I6, q6⟩ => ?_
      refine thn (hft C s H fp _ s6 σ6 H6 _ I6 q6) fun b s7 ⟨H7, I7, q7⟩ => ?_
      cases b with
      | false =>
        obtain ⟨m', hm', w7⟩ := hNx ys σ6 H7 (by simpa using q7)
        obtain ⟨b1, b2⟩ := back I7
        obtain ⟨d7, nD7, _⟩ := I7.pin _ pinD
        exact ⟨m', hm', i + 1, ys, σ6, H7, its, c3, I7.pins_of fun p hp => (by cases hp), b1, b2, d7, v3, nD7, w7⟩
      | true =>
        have q7 : te σ6 H7 fun y H5 => Nx (ys ++ [y]) σ6 H5 := by simpa using q7
        rw [if_pos rfl]
        refine thn (he C s H fp _ s7 σ6 H7 _ I7 q7) fun u8 s8 ⟨y, H8, I8, r8, n8⟩ => ?_
        obtain ⟨m', hm', w8⟩ := hNx _ _ _ n8
        obtain ⟨b1, b2⟩ := back I8
        obtain ⟨d8, nD8, _⟩ := I8.pin _ pinD
        have hl := v3.length
        refine wpAny_list_append_plain (items := its.toArray) ⟨c3, d8⟩ (fun h9 ⟨c9, d9⟩ sb9 => ?_) (by rw [List.size_toArray, ← hl]; exact hlen)
        have I8' : Inv (X.comp N' scope C s H fp) [] σ6 H8 s8 := I8.pins_of fun p hp => by cases hp
        have I9 : Inv (X.comp N' scope C s H fp) [] σ6 H8 { s8 with heap := h9 } := I8'.turned (t' := s8.toks) (it := D) (fun b o hb e => (sb9.2 b hb).trans e) nD8 hDC (.inr (by show s.heap.objs.size ≤ D; omega)) Dcell (fun p hp => by
          have hp : p ∈ ([] : List (Addr × Obj)) := by simpa [Cx.comp] using hp
          cases hp)
        refine ⟨m', hm', i + 1, ys ++ [y], σ6, H8, its ++ [u8], c9, I9, T.keep _ _ _ b1 fun b hb o e => (sb9.2 b (fun z => Nat.lt_irrefl _ (z ▸ fplt b hb))).trans e, b2, ?_, v3.append (.cons r8 .nil), nD8, w8⟩
        show h9.get? D = _
        rw [d9]
        simp
  exact codeAny_compStart_list (loop _) (T.self _ 0 _ _ _ (T.keep 0 _ _ t0 fun b _ o e => old b o e) (loop _))

/-- the gathered list is taken up, in the def's own context -/
theorem comp_back {pins : List (Addr × Obj)} {σ σ' : St} {H H' : Hp} {s s' : Shared} {fp : List Addr} {C D : Addr} {ys : List V} {its : List Value} {n : Nat} (I : Inv X pins σ H s) (hf : ∀ b ∈ fp, FpOk X pins H b)
    (J : Inv (X.comp N' scope C s H fp) [] σ' H' s') (hD : s.heap.objs.size ≤ D) (d : s'.heap.get? D = some { cls := .type "list", data := .seq its.toArray n }) (v : Vals ys its) (hl : ys.length ≤ sizeLine) (nD : H' D = none) :
    Inv X pins σ (upd H' D (.lst ys)) s' := by
  have u : Un (frs X.stack) fp H H' s.heap s'.heap := J.base
  refine I.call' (ch := fp) J.os (u.adopt (Heap.get?_none_of_le hD) (I.hok.fresh hD)) (J.hok.adopt nD ⟨hl, its, n, v, d⟩) J.bare fun b hb => ?_
  obtain ⟨_, f1, _, f3, f4, f5⟩ := hf b hb
  exact ⟨f3, f1, f4, f5⟩
/-- .. and the block's frame is let go -/
theorem comp_gone {pins : List (Addr × Obj)} {σ σ2 : St} {H H2 : Hp} {s s2 : Shared} {C : Addr} {h' : Heap} (I : Inv X pins σ H s) (I2 : Inv X pins σ2 H2 s2) (hC : s.heap.objs.size ≤ C) (nC : H2 C = none) (sb : Heap.SameBut C s2.heap h') : Inv X pins σ2 H2 { s2 with heap := h' } := by
  obtain ⟨_, f1, _, f3, f4, f5⟩ := I.fpOk (H' := H2) hC nC
  exact I2.turned (t' := s2.toks) (it := C) (fun b o hb e => (sb.2 b hb).trans e) nC f1 f3 f4 f5

theorem pe_comp (O : CompOk sc N N' src scope) (hsc : X.env.scope = sc) (hN : X.N = N) (hcalm : X.calm = true) (hi : PI X tg iter wi)
    (hg : ∀ C s H fp, PG (X.comp N' scope C s H fp) tg g) (hft : ∀ C s H fp, PFi (X.comp N' scope C s H fp) ifs tf) (he : ∀ C s H fp, PE (X.comp N' scope C s H fp) elt te)
    (hs : ∀ x, foldedSetIterable iter X.env x = pure x := by intro _; rfl) : PE X (.ListComp elt [⟨tg, iter, ifs, 0⟩] scope pos) (tComp src wi g tf te) := by
  intro pins s σ H Q I h
  rw [eval_ListComp]
  have hclos : closureFor scope X.env = pure (closOf X.env scope) := closureFor_is fun x hx hk => I.ok.has x.1 (by
    have := O.free x hx hk
    rw [← hsc] at this
    exact this)
  refine wpAny_comprehension_free (use := none) rfl hs hclos O.kind O.names (thn (hi pins s σ H _ I h) fun v s1 h1 => thn h1 fun itv s2 h2 => ?_)
  obtain ⟨it, fp, tn, J, H2, e, I2, T, st2, f2, W, ⟨m0, w0⟩, turn⟩ := h2
  subst e
  refine comp_block (RR := fun acc C => compPost (model X.prog X.w) X.A X.xe none (EP X pins σ Q) acc C) (Fin := fun ys H' => ∀ p, H' p = none → Q (.ref p) (upd H' p (.lst ys))) O hsc hN hcalm hg hft he I2 T st2 f2 W m0 w0 turn ?_
  intro D C s' σ' H' ys its n hD hC Jv d vv hl nD hDC fin
  have I3 := comp_back I2 f2 Jv hD d vv hl nD
  obtain ⟨m, hm, _⟩ := Jv.loc
  have nC : H' C = none := Jv.free
  refine ⟨m, hm, fun h' sb => ⟨.ref D, _, comp_gone I2 I3 hC (by rw [upd_ne (Ne.symm hDC)]; exact nC) sb, rfl, fin D nD⟩⟩

/-- name = [..]: the stores exchanged -/
theorem ps_setc {k : Nat} {y : Str} {py spos : Pos} (O : CompOk sc N N' src scope) (hsc : X.env.scope = sc) (hN : X.N = N) (hcalm : X.calm = true) (hi : PI X tg iter wi)
    (hg : ∀ C s H fp, PG (X.comp N' scope C s H fp) tg g) (hft : ∀ C s H fp, PFi (X.comp N' scope C s H fp) ifs tf) (he : ∀ C s H fp, PE (X.comp N' scope C s H fp) elt te)
    (nd : X.N.Nodup) (hk : X.N[k]? = some y) (hx : Loc X.env.scope y)
    (hsw : swapsWith (.ListComp elt [⟨tg, iter, ifs, 0⟩] scope pos) (some (.Name y py)) spos.line X.env = pure true := by rfl)
    (hf : X.fn y = true ∨ X.env.scope.names.lookup y = some .local := by first | exact .inl rfl | exact .inr rfl | assumption)
    (hs : ∀ x, foldedSetIterable iter X.env x = pure x := by intro _; rfl) : PS X (.Assign [.Name y py] (.ListComp elt [⟨tg, iter, ifs, 0⟩] scope pos) spos) (tAsg (tComp src wi g tf te) (gName k)) := by
  intro pins s σ H D₀ I h
  rw [exec_Assign_Name_used _ _ _ _ hsw]
  refine wpAny_bind (wpAny_standAt (wpAny_bind ?_))
  show wpAny _ X.A (do let _ ← comprehension (.ListComp elt [⟨tg, iter, ifs, 0⟩] scope pos) scope X.env _ (newList []) false (eval iter X.env) (some (assign (.Name y py) X.env))) _ _ s
  have hclos : closureFor scope X.env = pure (closOf X.env scope) := closureFor_is fun x hx hk => I.ok.has x.1 (by
    have := O.free x hx hk
    rw [← hsc] at this
    exact this)
  refine wpAny_bind (wpAny_mono (wpAny_comprehension_free (use := some (assign (.Name y py) X.env)) (Q := fun _ s' => SP X pins D₀ .next s') rfl hs hclos O.kind O.names (thn (hi pins s σ H _ I h) fun v s1 h1 => thn h1 fun itv s2 h2 => ?_))
    (fun _ s' hq => wpAny_pure (wpAny_pure hq)) fun _ _ e => e)
  obtain ⟨it, fp, tn, J, H2, e, I2, T, st2, f2, W, ⟨m0, w0⟩, turn⟩ := h2
  subst e
  refine comp_block (RR := fun acc C => compPost (model X.prog X.w) X.A X.xe (some (assign (.Name y py) X.env)) (fun _ s' => SP X pins D₀ .next s') acc C) (Fin := fun ys H' => ∀ p, H' p = none → gName k (.ref p) σ (upd H' p (.lst ys)) D₀.nx) O hsc hN hcalm hg hft he I2 T st2 f2 W m0 w0 turn ?_
  intro D C s' σ' H' ys its n hD hC Jv d vv hl nD hDC fin
  have I3 := comp_back I2 f2 Jv hD d vv hl nD
  obtain ⟨m, hm, _⟩ := Jv.loc
  have nC : H' C = none := Jv.free
  show wpAny _ X.A (assign (.Name y py) X.env (.ref D)) _ _ s'
  refine wpAny_assign_Name (store_ok2 I3 nd hk hx (v := .ref D) rfl (fun s4 I4 ⟨a, sa, ha⟩ => ?_) hf)
  have aC : C ≠ a := by
    rcases ha with e | e
    · rw [e]
      intro z
      exact Nat.lt_irrefl _ (Nat.lt_of_lt_of_le I2.lt (z ▸ hC))
    · intro z
      obtain ⟨v, o, ho, _⟩ := I2.cell y a e
      exact Nat.lt_irrefl _ (Nat.lt_of_lt_of_le (Heap.lt_size ho) (z ▸ hC))
  refine ⟨m, Heap.Ns.sameBut hm sa aC, fun h' sb => ⟨_, _, comp_gone I2 I4 hC (by rw [upd_ne (Ne.symm hDC)]; exact nC) sb, fin D nD⟩⟩
end

/-- two statements, with a word between them -/
def tCut (t u : TS) : TS := fun D σ H => ∃ R : St → Hp → Prop, t { D with nx := R } σ H ∧ ∀ σ' H', R σ' H' → u D σ' H'
theorem pss_cut {X : Cx} {st : Stmt} {rest : List Stmt} {t u : TS} (h1 : PS X st t) (h2 : PSs X rest u) : PSs X (st :: rest) (tCut t u) := by
  intro pins s σ H D I ⟨R, h, hu⟩
  refine wpAny_execs_cons (thn (h1 pins s σ H { D with nx := R } I h) fun f s1 q => ?_)
  cases f with
  | next =>
    obtain ⟨σ', H', I', q⟩ := q
    exact h2 pins s1 σ' H' D I' (hu σ' H' q)
  | ret v => exact q
  | brk => exact q
  | cont => exact q

/-! ### the forms one uses -/
section
variable {K : PySem.W.Frag} {src : List (Option Nat)} {g : TG} {tf : TT} {te : TE} {Q : VK} {a : Addr} {xs : List V} {σ : St} {H : Hp}
/-- over n turns -/
theorem comp_n {J : It} (n : Nat) (Pv : Nat → List V → St → Hp → Prop) (h0 : Pv 0 [] (srcSt src σ) H) (hz : n ≤ sizeLine) (hl : ∀ i ys σ H, i ≤ n → Pv i ys σ H → ys.length ≤ i)
    (hst : ∀ ys σ H, Pv n ys σ H → J.stop n H) (hgo : ∀ i ys σ H, i < n → Pv i ys σ H → J.go i H)
    (hs : ∀ i ys σ H, i < n → Pv i ys σ H → ∀ x H2, J.yld i H x H2 → g x σ H2 fun σ2 H3 => tf σ2 H3 fun b H4 => if b = true then te σ2 H4 fun y H5 => Pv (i + 1) (ys ++ [y]) σ2 H5 else Pv (i + 1) ys σ2 H4)
    (hd : ∀ ys σ H, Pv n ys σ H → ∀ p, H p = none → Q (.ref p) (upd H p (.lst ys))) : CompW src J g tf te Q σ H := by
  refine ⟨fun i m ys σ H => m = n - i ∧ i ≤ n ∧ Pv i ys σ H, ⟨n, by simp, Nat.zero_le _, h0⟩, ?_⟩
  rintro i m ys σ' H' ⟨rfl, hi, p⟩
  have hy := hl i ys σ' H' hi p
  refine ⟨by omega, ?_⟩
  by_cases hlt : i < n
  · exact .inr ⟨hgo i ys σ' H' hlt p, Pv (i + 1), fun ys2 σ2 H2 z => ⟨n - (i + 1), by omega, rfl, hlt, z⟩, fun x H2 y => hs i ys σ' H' hlt p x H2 y⟩
  · have e : i = n := by omega
    subst e
    exact .inl ⟨hst ys σ' H' p, hd ys σ' H' p⟩
/-- over a list that stays -/
theorem comp_list (Pv : Nat → List V → St → Hp → Prop) (h0 : Pv 0 [] (srcSt src σ) H) (hz : xs.length ≤ sizeLine) (hl : ∀ i ys σ H, i ≤ xs.length → Pv i ys σ H → SqL K H a xs ∧ ys.length ≤ i)
    (hs : ∀ i x ys σ H, xs[i]? = some x → Pv i ys σ H → g x σ H fun σ2 H3 => tf σ2 H3 fun b H4 => if b = true then te σ2 H4 fun y H5 => Pv (i + 1) (ys ++ [y]) σ2 H5 else Pv (i + 1) ys σ2 H4)
    (hd : ∀ ys σ H, Pv xs.length ys σ H → ∀ p, H p = none → Q (.ref p) (upd H p (.lst ys))) : CompW src (Itl K a) g tf te Q σ H :=
  comp_n xs.length Pv h0 hz (fun i ys σ H hi p => (hl i ys σ H hi p).2) (fun ys σ H p => ⟨xs, (hl _ ys σ H (Nat.le_refl _) p).1, Nat.le_refl _⟩) (fun i ys σ H hi p => ⟨xs, xs[i], (hl i ys σ H (Nat.le_of_lt hi) p).1, by simp [hi]⟩)
    (fun i ys σ H hi p x H2 y => by
      obtain ⟨e, y⟩ := y
      subst e
      exact hs i x ys σ _ (y xs (hl i ys σ _ (Nat.le_of_lt hi) p).1) p) hd
theorem comp_tup (Pv : Nat → List V → St → Hp → Prop) (h0 : Pv 0 [] (srcSt src σ) H) (hz : xs.length ≤ sizeLine) (hl : ∀ i ys σ H, i ≤ xs.length → Pv i ys σ H → SqT K H a xs ∧ ys.length ≤ i)
    (hs : ∀ i x ys σ H, xs[i]? = some x → Pv i ys σ H → g x σ H fun σ2 H3 => tf σ2 H3 fun b H4 => if b = true then te σ2 H4 fun y H5 => Pv (i + 1) (ys ++ [y]) σ2 H5 else Pv (i + 1) ys σ2 H4)
    (hd : ∀ ys σ H, Pv xs.length ys σ H → ∀ p, H p = none → Q (.ref p) (upd H p (.lst ys))) : CompW src (Itt K a) g tf te Q σ H :=
  comp_n xs.length Pv h0 hz (fun i ys σ H hi p => (hl i ys σ H hi p).2) (fun ys σ H p => ⟨xs, (hl _ ys σ H (Nat.le_refl _) p).1, Nat.le_refl _⟩) (fun i ys σ H hi p => ⟨xs, xs[i], (hl i ys σ H (Nat.le_of_lt hi) p).1, by simp [hi]⟩)
    (fun i ys σ H hi p x H2 y => by
      obtain ⟨e, y⟩ := y
      subst e
      exact hs i x ys σ _ (y xs (hl i ys σ _ (Nat.le_of_lt hi) p).1) p) hd
theorem comp_range {lo : Int} {n : Nat} (Pv : Nat → List V → St → Hp → Prop) (h0 : Pv 0 [] (srcSt src σ) H) (hz : n ≤ sizeLine) (hl : ∀ i ys σ H, i ≤ n → Pv i ys σ H → ys.length ≤ i)
    (hs : ∀ i ys σ H, i < n → Pv i ys σ H → g (.int (lo + i)) σ H fun σ2 H3 => tf σ2 H3 fun b H4 => if b = true then te σ2 H4 fun y H5 => Pv (i + 1) (ys ++ [y]) σ2 H5 else Pv (i + 1) ys σ2 H4)
    (hd : ∀ ys σ H, Pv n ys σ H → ∀ p, H p = none → Q (.ref p) (upd H p (.lst ys))) : CompW src (Itr lo n) g tf te Q σ H :=
  comp_n n Pv h0 hz hl (fun _ _ _ _ => Nat.le_refl _) (fun _ _ _ _ hi _ => hi)
    (fun i ys σ H hi p x H2 y => by
      obtain ⟨e, y⟩ := y
      subst e y
      exact hs i ys σ _ hi p) hd
/-! without a test -/
theorem noTest {te : TE} {A : V → St → Hp → Prop} {B : St → Hp → Prop} : (fun σ2 H3 => tfNil σ2 H3 fun b H4 => if b = true then te σ2 H4 (fun y H5 => A y σ2 H5) else B σ2 H4) = fun (σ2 : St) (H3 : Hp) => te σ2 H3 fun y H5 => A y σ2 H5 := by
  funext σ2 H3
  show (if true = true then (te σ2 H3 fun y H5 => A y σ2 H5) else B σ2 H3) = _
  rw [if_pos rfl]
theorem comp_list0 (Pv : Nat → List V → St → Hp → Prop) (h0 : Pv 0 [] (srcSt src σ) H) (hz : xs.length ≤ sizeLine) (hl : ∀ i ys σ H, i ≤ xs.length → Pv i ys σ H → SqL K H a xs ∧ ys.length ≤ i)
    (hs : ∀ i x ys σ H, xs[i]? = some x → Pv i ys σ H → g x σ H fun σ2 H3 => te σ2 H3 fun y H5 => Pv (i + 1) (ys ++ [y]) σ2 H5)
    (hd : ∀ ys σ H, Pv xs.length ys σ H → ∀ p, H p = none → Q (.ref p) (upd H p (.lst ys))) : CompW src (Itl K a) g tfNil te Q σ H :=
  comp_list Pv h0 hz hl (fun i x ys σ H e p => by rw [noTest]; exact hs i x ys σ H e p) hd
theorem comp_tup0 (Pv : Nat → List V → St → Hp → Prop) (h0 : Pv 0 [] (srcSt src σ) H) (hz : xs.length ≤ sizeLine) (hl : ∀ i ys σ H, i ≤ xs.length → Pv i ys σ H → SqT K H a xs ∧ ys.length ≤ i)
    (hs : ∀ i x ys σ H, xs[i]? = some x → Pv i ys σ H → g x σ H fun σ2 H3 => te σ2 H3 fun y H5 => Pv (i + 1) (ys ++ [y]) σ2 H5)
    (hd : ∀ ys σ H, Pv xs.length ys σ H → ∀ p, H p = none → Q (.ref p) (upd H p (.lst ys))) : CompW src (Itt K a) g tfNil te Q σ H :=
  comp_tup Pv h0 hz hl (fun i x ys σ H e p => by rw [noTest]; exact hs i x ys σ H e p) hd
theorem comp_range0 {lo : Int} {n : Nat} (Pv : Nat → List V → St → Hp → Prop) (h0 : Pv 0 [] (srcSt src σ) H) (hz : n ≤ sizeLine) (hl : ∀ i ys σ H, i ≤ n → Pv i ys σ H → ys.length ≤ i)
    (hs : ∀ i ys σ H, i < n → Pv i ys σ H → g (.int (lo + i)) σ H fun σ2 H3 => te σ2 H3 fun y H5 => Pv (i + 1) (ys ++ [y]) σ2 H5)
    (hd : ∀ ys σ H, Pv n ys σ H → ∀ p, H p = none → Q (.ref p) (upd H p (.lst ys))) : CompW src (Itr lo n) g tfNil te Q σ H :=
  comp_range Pv h0 hz hl (fun i ys σ H e p => by rw [noTest]; exact hs i ys σ H e p) hd
end
end L2

set_option Elab.async false
set_option linter.all false
set_option maxRecDepth 100000
set_option maxHeartbeats 4000000
/-! more rules over the hand layer: data of any depth and its ==, texts, walks along texts and enumerate, sorted, isinstance -/
namespace L2
open PySem PySem.Spec PyProof.Rows

/-! ### data of any depth -/
mutual
/-- the value reads as this datum -/
def Dt (K : PySem.W.Frag) (H : Hp) : PyData → V → Prop
  | .none, v => v = .non
  | .bool b, v => v = .bl b
  | .int i, v => v = .int i
  | .str x, v => v = .str x
  | .list ds, v => ∃ a xs, v = .ref a ∧ SqL K H a xs ∧ DtAll K H ds xs
  | .tuple ds, v => ∃ a xs, v = .ref a ∧ SqT K H a xs ∧ DtAll K H ds xs
  | .dict _, _ => False
def DtAll (K : PySem.W.Frag) (H : Hp) : List PyData → List V → Prop
  | [], xs => xs = []
  | d :: ds, xs => ∃ x r, xs = x :: r ∧ Dt K H d x ∧ DtAll K H ds r
end
theorem Same.tupS {K : PySem.W.Frag} {H H' : Hp} {a : Addr} {xs : List V} (e : Same H H') (h : SqT K H a xs) : SqT K H' a xs := by
  rcases h with (h | ⟨o, h⟩) | h
  · exact .inl (.inl (e _ _ h))
  · exact .inl (.inr ⟨o, e _ _ h⟩)
  · exact .inr h
theorem DtAll.strs {K : PySem.W.Frag} {H : Hp} : ∀ (ls : List Str), DtAll K H (ls.map PyData.str) (ls.map V.str)
  | [] => rfl
  | x :: ls => ⟨.str x, ls.map V.str, rfl, rfl, DtAll.strs ls⟩
section
variable {X : Cx} {pins : List (Addr × Obj)} {σ : St} {H : Hp} {s : Shared}
mutual
theorem Dt.reads (I : Inv X pins σ H s) : ∀ (d : PyData) (v : V) (u : Value), Dt X.K H d v → RelV v u → ∃ as, Reads s.heap u d as
  | .none, _, u, h, r => by
    cases (show _ = V.non from h); cases (show u = Value.none from r); exact ⟨_, .none⟩
  | .bool b, _, u, h, r => by
    cases (show _ = V.bl b from h); cases (show u = Value.bool b from r); exact ⟨_, .bool b⟩
  | .int i, _, u, h, r => by
    cases (show _ = V.int i from h); obtain ⟨t, e⟩ := (show ∃ t, u = Value.int i t from r); cases e; exact ⟨_, .int i t⟩
  | .str x, _, u, h, r => by
    cases (show _ = V.str x from h); obtain ⟨t, e⟩ := (show ∃ t, u = Value.str x t from r); cases e; exact ⟨_, .str x t⟩
  | .list ds, _, u, ⟨a, xs, h1, h2, h3⟩, r => by
    subst h1
    cases (show u = Value.ref a from r)
    obtain ⟨its, rv, ⟨o, n, e, c, _, d⟩, _⟩ := I.list h2
    obtain ⟨as, q⟩ := DtAll.reads I ds xs its h3 rv
    exact ⟨_, .list e c d (by simpa using q)⟩
  | .tuple ds, _, u, ⟨a, xs, h1, h2, h3⟩, r => by
    subst h1
    cases (show u = Value.ref a from r)
    obtain ⟨its, rv, ⟨o, e, c, n, d⟩, _⟩ := I.tuple h2
    obtain ⟨as, q⟩ := DtAll.reads I ds xs its h3 rv
    exact ⟨_, .tuple e c d (by simpa using q)⟩
  | .dict _, _, _, h, _ => False.elim h
theorem DtAll.reads (I : Inv X pins σ H s) : ∀ (ds : List PyData) (xs : List V) (us : List Value), DtAll X.K H ds xs → Vals xs us → ∃ as, ReadsAll s.heap us ds as
  | [], _, us, h, r => by
    cases (show _ = [] from h)
    cases r
    exact ⟨_, .nil⟩
  | d :: ds, _, us, ⟨x, rr, h1, h2, h3⟩, r => by
    subst h1
    cases r with
    | cons r1 r2 =>
      obtain ⟨as, q1⟩ := Dt.reads I d x _ h2 r1
      obtain ⟨bs, q2⟩ := DtAll.reads I ds rr _ h3 r2
      exact ⟨_, .cons q1 q2⟩
end
end
section
variable {X : Cx}
def rEqD (K : PySem.W.Frag) : R2 := fun x y H Q => ∃ d e, Dt K H d x ∧ Dt K H e y ∧ SeqAt.shaped d = true ∧ SeqAt.shaped e = true ∧ Q (.bl (PyData.eqv d e)) H
def rNeD (K : PySem.W.Frag) : R2 := fun x y H Q => ∃ d e, Dt K H d x ∧ Dt K H e y ∧ SeqAt.shaped d = true ∧ SeqAt.shaped e = true ∧ Q (.bl (!PyData.eqv d e)) H
theorem op_eqD (hu : X.A.units + 64 < cLine) : OpR X (compareOp .Eq) (rEqD X.K) := by
  intro pins s σ H x y v u Q I rx ry h
  obtain ⟨d, e, h1, h2, h3, h4, q⟩ := h
  obtain ⟨as, r1⟩ := Dt.reads I d x v h1 rx
  obtain ⟨bs, r2⟩ := Dt.reads I e y u h2 ry
  exact SeqAt.compareEq_shaped r1 r2 h3 h4 hu ⟨.bl _, H, I, rfl, q⟩
theorem op_neD (hu : X.A.units + 64 < cLine) : OpR X (compareOp .NotEq) (rNeD X.K) := by
  intro pins s σ H x y v u Q I rx ry h
  obtain ⟨d, e, h1, h2, h3, h4, q⟩ := h
  obtain ⟨as, r1⟩ := Dt.reads I d x v h1 rx
  obtain ⟨bs, r2⟩ := Dt.reads I e y u h2 ry
  exact SeqAt.compareNe_shaped r1 r2 h3 h4 hu ⟨.bl _, H, I, rfl, q⟩

/-! ### texts -/
theorem strsAre_of : ∀ {ys : List Str} {us : List Value}, Vals (ys.map V.str) us → StrsAre us ys
  | [], us, r => by rw [List.map_nil] at r; cases r; exact .nil
  | y :: ys, us, r => by
    rw [List.map_cons] at r
    cases r with
    | cons r1 r2 =>
      obtain ⟨t, e⟩ := r1
      subst e
      exact .cons y t (strsAre_of r2)
theorem vals_strs : ∀ {us : List Value} {ys : List Str}, StrsAre us ys → Vals (ys.map V.str) us
  | _, _, .nil => .nil
  | _, _, .cons y t r => .cons ⟨t, rfl⟩ (vals_strs r)
/-- sep.join(xs), xs a list or a tuple of texts -/
def rJoin (K : PySem.W.Frag) : V → List V → Hp → VK → Prop := fun x vs H Q => ∃ sep p ys, x = .str sep ∧ vs = [.ref p] ∧ (SqL K H p (ys.map V.str) ∨ SqT K H p (ys.map V.str)) ∧ (ys.map (·.length)).sum + ys.length * sep.length ≤ 16777216 ∧ Q (.str (Txt.join sep ys)) H
theorem mt_join : MtR X "str.join" (rJoin X.K) := by
  intro pins s σ H x xs v us Q I rx rs h
  obtain ⟨sep, p, ys, rfl, rfl, hq, hz, q⟩ := h
  obtain ⟨t, rfl⟩ := rx
  obtain ⟨u, rfl, ru⟩ := vals1 rs
  cases ru
  rcases hq with hq | hq
  · obtain ⟨its, r, pl, _⟩ := I.list hq
    exact join_list pl.isList (by simpa using strsAre_of r) hz fun t' k => ⟨.str _, H, I.tok _, ⟨_, rfl⟩, q⟩
  · obtain ⟨its, r, pl, _⟩ := I.tuple hq
    exact join_tuple pl (by simpa using strsAre_of r) hz fun t' k => ⟨.str _, H, I.tok _, ⟨_, rfl⟩, q⟩
theorem isPart_some {vl : Value} {lo : Option Int} (h : IsPart vl lo) : ∃ o : Option (Int × Tok), vl = partValue o ∧ lo = o.map (·.1) := by
  cases h with
  | none => exact ⟨none, rfl, rfl⟩
  | int i t => exact ⟨some (i, t), rfl, rfl⟩
/-- t[lo:hi] of a text -/
def rSlS : V → Option Int → Option Int → Hp → VK → Prop := fun x lo hi H Q => ∃ z, x = .str z ∧ z.length ≤ sizeLine ∧ Q (.str (Txt.slice z lo hi)) H
theorem sl_str : SlR X rSlS := by
  intro pins s σ H x v vl vu lo hi sl Q I rx hs pl pu h
  obtain ⟨z, rfl, hz, q⟩ := h
  obtain ⟨t, rfl⟩ := rx
  obtain ⟨ol, rfl, rfl⟩ := isPart_some pl
  obtain ⟨ou, rfl, rfl⟩ := isPart_some pu
  refine ⟨"str", _, F.slot_str_getitem.lookup, typeIs_str _ _ _, wpAny_getItem_str_slice (l := ol) (u := ou) (st := none) ?_ rfl (post_val_or_str ⟨Nat.le_trans (Txt.slice_le z _ _) hz, fun t' k => ⟨.str _, H, I.tok _, ⟨_, rfl⟩, q⟩⟩)⟩
  exact hs
end

/-! ### records that turn, objects that are taken up -/
section
variable {X : Cx} {pins : List (Addr × Obj)} {σ : St} {H : Hp} {s : Shared} {h' : Heap}
theorem Un.adopt2 {fs ex : List Addr} {H H1 : Hp} {h h1 : Heap} {D : Addr} {o : HO} (u : Un fs ex H H1 h h1) (hD : h.get? D = none) (hH : H1 D = none) : Un fs ex H (upd H1 D o) h h1 where
  keep := u.keep
  slot := u.slot
  free := fun b ob q n hx => by
    have hb : b ≠ D := fun z => by rw [z, hD] at q; cases q
    rw [upd_ne hb]; exact u.free b ob q n hx
  there := u.there
  tups := fun b xs q => by rw [upd_ne (ne_of_none (u.tups b xs q) hH)]; exact u.tups b xs q
  frzs := fun b ob xs q => by rw [upd_ne (ne_of_none (u.frzs b ob xs q) hH)]; exact u.frzs b ob xs q
  tbls := fun b ps q => by
    obtain ⟨m, e⟩ := u.tbls b ps q
    exact ⟨m, by rw [upd_ne (ne_of_none e hH)]; exact e⟩
end

/-! ### for over a text -/
/-- the signs of a text, one by one -/
def Its (x : Str) : It := ⟨fun i _ => i < x.length, fun i H v H' => H' = H ∧ ∃ c, x.cps[i]? = some c ∧ v = .str ⟨#[c]⟩, fun i _ => i = x.length⟩
theorem turn_walks {P : Program} {w : World} {K : PySem.W.Frag} {tg : Expr} {it : Addr} {x : Str} {tn : Nat → Heap → Prop} (hW : ∀ A : Around, A.handled = none → Walks P w A it [it] [it] x.cps.size (SignAt x) tn)
    (ho : ∀ i h, tn i h → ∃ o, h.get? it = some o ∧ ∀ v, o.data ≠ .cell v) (hself : ∀ (A : Around) (i : Nat) (s : Shared) (Q : Value → Shared → Prop) (E : Value → Shared → Prop), tn i s.heap → Q (.ref it) s → wpAny (model P w) A (pyIter (.ref it)) Q E s) :
    Turn P w K tg (Its x) [it] it tn where
  mem := by simp
  obj := fun i h st b hb => by
    have e : b = it := by simpa using hb
    subst e
    exact ho i h st
  keep := fun i h h' st k => (hW {} rfl).frame i h h' st k
  item := by
    intro X hP hw hK hc i pins s σ H E I hf st hg
    subst hP hw hK
    obtain ⟨f0, f1, f2, f3, f4, f5⟩ := hf it (by simp)
    refine (hW X.A (I.ok.hd hc)).item i s _ _ hg st fun v h' tk hv st' kk => ?_
    obtain ⟨c, u, hcx, rfl⟩ := hv
    have I1 : Inv X pins σ H { s with heap := h', toks := tk } := I.turned (fun b o hb e => kk b o (by simpa using hb) e) f0 f1 f3 f4 f5
    refine ⟨_, rfl, ?_⟩
    have fin : ∃ x' H', Inv X pins σ H' { s with heap := h', toks := tk } ∧ RelV x' (.str ⟨#[c]⟩ u) ∧ (Its x).yld i H x' H' ∧ tn (i + 1) h' ∧ ∀ b ∈ [it], H' b = none :=
      ⟨.str ⟨#[c]⟩, H, I1, ⟨u, rfl⟩, ⟨rfl, c, hcx, rfl⟩, st', fun b hb => (hf b hb).1⟩
    unfold letOwnedTupleGo
    cases tg <;> exact wpAny_pure fin
  done := by
    intro X hP hw hK hc i pins s σ H E I hf st hg
    subst hP hw hK
    obtain ⟨f0, f1, f2, f3, f4, f5⟩ := hf it (by simp)
    exact (hW X.A (I.ok.hd hc)).done s _ _ (by have e : i = x.length := hg; subst e; exact st) fun h' tk kk => ⟨rfl, I.turned (fun b o hb e => kk b o (by simpa using hb) e) f0 f1 f3 f4 f5⟩
  self := hself
section
variable {X : Cx} {tg : Expr}
def iStr (te : TE) : TI := fun σ H R => te σ H fun x H1 => ∃ z, x = .str z ∧ R (Its z) H1
theorem pi_str {e : Expr} {te : TE} (he : PE X e te) : PI X tg e (iStr te) := by
  intro pins s σ H R I h
  refine thn (he pins s σ H _ I h) fun v s1 ⟨x, H1, I1, r1, q1⟩ => ?_
  obtain ⟨z, e, q⟩ := q1
  subst e
  obtain ⟨t, rfl⟩ := r1
  have fr : H1 s1.heap.objs.size = none := I1.hok.fresh (Nat.le_refl _)
  cases ha : z.cps.all (· < 128)
  · refine wpAny_pyIter_wide ha ?_
    refine ⟨s1.heap.objs.size, [s1.heap.objs.size], fun i h => h.IsStrIter s1.heap.objs.size "str_iterator" z t i, _, H1, rfl, I1.kept (t' := s1.toks) fun b o e => Heap.get?_push_of_some _ e,
      turn_walks (fun A hA => Walks.strWide hA _ z t) (fun i h ⟨o, ho, _, hd⟩ => ⟨o, ho, fun v z => by rw [hd] at z; cases z⟩) (fun _ _ _ _ _ st hQ => wpAny_pyIter_striter_wide st hQ), ⟨_, Heap.get?_push_size _ rfl, rfl, rfl⟩, fun b hb => ?_, q⟩
    have e : b = s1.heap.objs.size := by simpa using hb
    subst e
    exact I1.fpOk (Nat.le_refl _) fr
  · refine wpAny_pyIter_ascii ha ?_
    refine ⟨s1.heap.objs.size, [s1.heap.objs.size], fun i h => h.IsStrIter s1.heap.objs.size "str_ascii_iterator" z t i, _, H1, rfl, I1.kept (t' := s1.toks) fun b o e => Heap.get?_push_of_some _ e,
      turn_walks (fun A hA => Walks.strAscii hA _ z t) (fun i h ⟨o, ho, _, hd⟩ => ⟨o, ho, fun v z => by rw [hd] at z; cases z⟩) (fun _ _ _ _ _ st hQ => wpAny_pyIter_striter_ascii st hQ), ⟨_, Heap.get?_push_size _ rfl, rfl, rfl⟩, fun b hb => ?_, q⟩
    have e : b = s1.heap.objs.size := by simpa using hb
    subst e
    exact I1.fpOk (Nat.le_refl _) fr
end
/-- what a for-statement asks, by a word for n turns -/
abbrev ForW (J : It) (g : TG) (tb : TS) (D : Ends) (σ : St) (H : Hp) : Prop :=
  ∃ W : Nat → Nat → St → Hp → Prop, (∃ m, W 0 m σ H) ∧ ∀ i m σ H, W i m σ H →
    (J.stop i H ∧ D.nx σ H) ∨ (J.go i H ∧ ∃ N : St → Hp → Prop, (∀ σ' H', N σ' H' → ∃ m', m' < m ∧ W (i + 1) m' σ' H') ∧ ∀ x H', J.yld i H x H' → g x σ H' fun σ2 H2 => tb { D with nx := N, ct := N, bk := D.nx } σ2 H2)
theorem for_n {J : It} {g : TG} {tb : TS} {D : Ends} {σ : St} {H : Hp} (n : Nat) (Pv : Nat → St → Hp → Prop) (h0 : Pv 0 σ H) (hst : ∀ σ H, Pv n σ H → J.stop n H) (hgo : ∀ i σ H, i < n → Pv i σ H → J.go i H)
    (hs : ∀ i σ H, i < n → Pv i σ H → ∀ x H', J.yld i H x H' → g x σ H' fun σ2 H2 => tb { D with nx := Pv (i + 1), ct := Pv (i + 1), bk := D.nx } σ2 H2) (hd : ∀ σ H, Pv n σ H → D.nx σ H) : ForW J g tb D σ H := by
  refine ⟨fun i m σ H => m = n - i ∧ i ≤ n ∧ Pv i σ H, ⟨n, by simp, Nat.zero_le _, h0⟩, ?_⟩
  rintro i m σ H ⟨rfl, hi, p⟩
  by_cases hlt : i < n
  · exact .inr ⟨hgo i σ H hlt p, Pv (i + 1), fun σ' H' p' => ⟨n - (i + 1), by omega, rfl, hlt, p'⟩, fun x H' y => hs i σ H hlt p x H' y⟩
  · have e : i = n := by omega
    subst e
    exact .inl ⟨hst σ H p, hd σ H p⟩
theorem for_str {x : Str} {g : TG} {tb : TS} {D : Ends} {σ : St} {H : Hp} (Pv : Nat → St → Hp → Prop) (h0 : Pv 0 σ H)
    (hs : ∀ i c σ H, x.cps[i]? = some c → Pv i σ H → g (.str ⟨#[c]⟩) σ H fun σ2 H2 => tb { D with nx := Pv (i + 1), ct := Pv (i + 1), bk := D.nx } σ2 H2) (hd : ∀ σ H, Pv x.length σ H → D.nx σ H) : ForW (Its x) g tb D σ H :=
  for_n x.length Pv h0 (fun _ _ _ => rfl) (fun _ _ _ hi _ => hi) (fun i σ H hi p v H' y => by
    obtain ⟨e, c, hc, ev⟩ := y
    subst e ev
    exact hs i c σ _ hc p) hd

/-! ### for over enumerate(a list) -/
end L2

set_option Elab.async false
set_option linter.all false
set_option maxRecDepth 100000
set_option maxHeartbeats 4000000
namespace L2
open PySem PySem.Spec PyProof.Rows

/-! ### enumerate -/
section
variable {X : Cx} {elts : List Expr} {x1 : Nat} {tpos : Pos}

/-! ### sorted(a dict of texts) -/
def keysS (kvs : List (Str × V)) : List (Key × V) := kvs.map fun kv => (Sum.inr kv.1, kv.2)
def rSortedD : List V → Hp → VK → Prop := fun xs H Q => ∃ a kvs, xs = [.ref a] ∧ H a = some (.dK (keysS kvs)) ∧ kvs.length < 64 ∧ ∀ l ss, H l = none → ss.Perm (kvs.map (·.1)) → sortedS ss = true → Q (.ref l) (upd H l (.lst (ss.map V.str)))
theorem strs_keys {P : Program} {w : World} : ∀ {kvs : List (Str × V)} {vs : List (Key × Value)} {us : List Value}, KV (keysS kvs) vs → us.length = vs.length → (∀ (j : Nat) (v : Value), us[j]? = some v → ∃ k x, vs[j]? = some (k, x) ∧ (mixKind P w).is k v = true) → StrsAre us (kvs.map (·.1))
  | [], vs, us, r, hl, _ => by
    cases (show Paired _ [] vs from r)
    have : us = [] := List.eq_nil_of_length_eq_zero (by simpa using hl)
    subst this
    exact .nil
  | (k, v) :: kvs, vs, us, r, hl, hm => by
    cases (show Paired _ ((Sum.inr k, v) :: keysS kvs) vs from r) with
    | @cons _ b _ l2 r1 r2 =>
      cases us with
      | nil => simp at hl
      | cons u us =>
        obtain ⟨k', x, e1, e2⟩ := hm 0 u rfl
        have e1 : b = (k', x) := by simpa using e1
        subst e1
        have e3 : (Sum.inr k : Key) = k' := r1.1
        subst e3
        have e2' : keyIs (Sum.inr k : Key) u = true := e2
        rcases keyIs_shape e2' with ⟨i, t, h1, h2⟩ | ⟨y, t, h1, h2⟩
        · cases h1
        · cases h1
          subst h2
          refine .cons k t (strs_keys (P := P) (w := w) r2 (by simpa using hl) fun j v hj => ?_)
          obtain ⟨k2, x2, q1, q2⟩ := hm (j + 1) v (by simpa using hj)
          exact ⟨k2, x2, by simpa using q1, q2⟩
theorem call_sortedD (hc : X.calm = true) : CallR X (.builtin "sorted") rSortedD := by
  intro pins s σ H xs us Q I r h
  obtain ⟨a, kvs, rfl, ha, h64, q⟩ := h
  obtain ⟨u, rfl, ru⟩ := vals1 r
  cases ru
  obtain ⟨hz, hS, vs, rel, o, es, ep, ho, hx, hd, hk, hp, hnd⟩ : (keysS kvs).length ≤ sizeLine ∧ (a == sysModules) = false ∧ ∃ vs, KV (keysS kvs) vs ∧ s.heap.DictOf (mixKind X.prog X.w) a vs := I.hok a _ ha
  have hat : s.heap.DictAt (mixKind X.prog X.w) a vs ep := ⟨o, es, ho, hx, hd, hk, hp, hnd⟩
  have hlen : (keysS kvs).length = vs.length := Paired.length rel
  have hlen2 : (keysS kvs).length = kvs.length := List.length_map _
  refine Calls.call_function_entry kind_sorted plain_sorted entry_sorted (args_sorted1 _) ?_
  unfold Builtin.«sorted»
  refine wpAny_bind (m := checkCount "sorted" 1 1 _) (wpAny_pure ?_)
  refine wpAny_bind (PySem.W.kdu_collect (A := X.A.in1) (PySem.W.kdl_dict (knd := mixKind X.prog X.w) (kvs := vs) (ep := ep) hS) (I.ok.hd hc) hat (by omega) fun h' tk acc hkp hacc => ?_)
  have hal : acc.toList.length = vs.length := by rw [Array.length_toList]; exact hacc.1
  have hstr : StrsAre acc.toList (kvs.map (·.1)) := strs_keys rel hal fun j v e => hacc.2 j v (by rw [← Array.getElem?_toList]; exact e)
  refine wpAny_bind (wpAny_newList ?_ (by rw [hal]; omega))
  have hoL : (h'.push (seqObj "list" acc.toList.toArray 0)).get? h'.objs.size = some (seqObj "list" acc.toList.toArray 0) := Heap.get?_push_size _ rfl
  refine wpAny_bind (wpAny_holding (wpAny_call_entry slot_list_sort ⟨_, hoL, rfl⟩ entry_list_sort (list_sort_treeK strKind_oneLt hoL hstr.keysOf (fun v₁ v₂ rest e => keyKind_strs (by rw [← e]; exact hstr)) (by rw [hal]; omega) fun st' a1 a2 => ⟨_, rfl, ?_⟩) (args_list_sort _)))
  obtain ⟨ss', b1, b2, b3⟩ := sorted_out_str hstr a1 a2
  refine wpAny_pure ⟨_, rfl, ?_⟩
  obtain ⟨e, he⟩ := sortedHeap_at (out := (arrOf st').map (·.2)) hoL
  have nl := vals_strs b1
  have I1 : Inv X pins σ H { s with heap := h', toks := tk } := I.kept hkp
  have kp2 : ∀ b ob, h'.get? b = some ob → (sortedHeap (h'.push (seqObj "list" acc.toList.toArray 0)) h'.objs.size acc.toList ((arrOf st').map (·.2))).get? b = some ob := fun b ob q1 => by
    have hb : b < h'.objs.size := Heap.lt_size q1
    rw [sortedHeap_old (Nat.ne_of_lt hb) (by rw [Heap.size_push]; exact Nat.lt_succ_of_lt hb)]
    exact Heap.get?_push_of_some _ q1
  have fr : H h'.objs.size = none := I1.hok.fresh (Nat.le_refl _)
  have hz2 : (ss'.map V.str).length ≤ sizeLine := by
    have := b2.length_eq
    rw [List.length_map]
    rw [this, List.length_map]
    omega
  exact ⟨.ref h'.objs.size, _, I1.laid (o := .lst (ss'.map V.str)) (t' := tk) kp2 (Nat.le_refl _) ⟨hz2, _, e, nl, he⟩, rfl, q _ ss' fr b2 b3⟩

/-! ### t[lo:hi] of a tuple, the whole too -/
def rSlT2 (K : PySem.W.Frag) : V → Option Int → Option Int → Hp → VK → Prop := fun x lo hi H Q => ∃ a xs, x = .ref a ∧ SqT K H a xs ∧ ∀ v H', (v = .ref a ∧ H' = H ∧ cutV xs lo hi = xs) ∨ (∃ p, H p = none ∧ v = .ref p ∧ H' = upd H p (.tup (cutV xs lo hi))) → Q v H'
end
namespace AxT
variable {prog : Program} {w : World} {A : Around} {E : Value → Shared → Prop} {s : Shared}
open HT
theorem getItem_tuple_whole {t sl : Addr} {items : Array Value} {vl vu : Value} {lo hi : Option Int} {Q : Value → Shared → Prop} (ht : IsTup s.heap t items) (hs : s.heap.IsSliceOf sl vl vu .none) (pl : IsPart vl lo) (pu : IsPart vu hi)
    (hw : sIx items.size 0 lo = 0 ∧ sIx items.size items.size hi = items.size) (h : Q (.ref t) s) : wpAny (model prog w) A (getItem (.ref t) (.ref sl)) Q E s := by
  obtain ⟨os, hos, hcs, hds⟩ := id hs
  have hTs : s.TypeIs (.ref sl) "slice" := ⟨os, hos, hcs⟩
  unfold getItem
  try with_reducible refine wpAny_holding ?_
  first | refine wpAny_bind (wpAny_pure ?_) | skip
  refine wpAny_bind (wpAny_sequenceKey ht.typeIs (by decide) ?_)
  refine wpAny_bind (wpAny_callSpecial?_slot (name := Str.ofString "__getitem__") ht.typeIs PyProof.Rows.slot_tuple_getitem
    (wpAny_call_entry PyProof.Rows.slot_tuple_getitem ht.typeIs entry_tuple_getitem ?_ (args_tuple_getitem _ _)))
  show wpAny _ _ (Builtin.Tuple.tupleItemsOf (.ref t) >>= _) _ _ s
  refine wpAny_bind (tupleItemsOf_ ht ?_)
  refine wpAny_bind (wpAny_typeOf hTs ?_)
  rw [if_pos (by decide)]
  refine wpAny_bind (sliceApplied_gen hs pl pu ?_)
  have hyes : (((sIx items.size 0 lo : Nat) : Int) == 0 && (1 : Int) == 1 && (sIx items.size items.size hi - sIx items.size 0 lo) == items.size) = true := by
    rw [hw.1, hw.2]
    simp
  show wpAny _ _ (if (((sIx items.size 0 lo : Nat) : Int) == 0 && (1 : Int) == 1 && (sIx items.size items.size hi - sIx items.size 0 lo) == items.size) = true then _ else _) _ _ s
  rw [if_pos hyes]
  obtain ⟨o, ho, hc, n, hd⟩ := id ht
  refine wpAny_bind (m := Builtin.Tuple.tupleIsExact _) ?_
  unfold Builtin.Tuple.tupleIsExact
  refine wpAny_bind (wpAny_typeOf ht.typeIs (wpAny_pure ?_))
  rw [if_pos (by decide)]
  exact wpAny_bind (wpAny_rule (wpAny_pure ⟨_, rfl, wpAny_pure h⟩))
end AxT
section
variable {X : Cx}
theorem sl_tup2 : SlR X (rSlT2 X.K) := by
  intro pins s σ H x v vl vu lo hi sl Q I rx hs pl pu h
  obtain ⟨a, xs, rfl, hx, q⟩ := h
  cases rx
  obtain ⟨its, r, ht, hz⟩ := I.tuple hx
  have hlen : its.toArray.size = xs.length := by rw [List.size_toArray]; exact r.length.symm
  refine ⟨"tuple", _, PyProof.Rows.slot_tuple_getitem.lookup, ht.typeIs, ?_⟩
  by_cases hw : HT.sIx its.toArray.size 0 lo = 0 ∧ HT.sIx its.toArray.size its.toArray.size hi = its.toArray.size
  · refine AxT.getItem_tuple_whole ht hs pl pu hw ⟨.ref a, H, I, rfl, q _ _ (.inl ⟨rfl, rfl, ?_⟩)⟩
    rw [hlen] at hw
    unfold cutV
    rw [hw.1, hw.2]
    simp
  · refine HT.getItem_tuple_cut ht hs pl pu hw ?_ (by rw [hlen]; exact hz)
    rw [hlen]
    refine ⟨.ref s.heap.objs.size, _, I.laid (t' := s.toks) (o := .tup (cutV xs lo hi)) (fun b ob q => Heap.get?_push_of_some _ q) (Nat.le_refl _) ?_, rfl, q _ _ (.inr ⟨_, I.hok.fresh (Nat.le_refl _), rfl, rfl⟩)⟩
    exact ⟨Nat.le_trans (cutV_length xs lo hi) hz, _, (r.drop (HT.sIx xs.length 0 lo)).take (HT.sIx xs.length xs.length hi - HT.sIx xs.length 0 lo), IsTup.new _ _⟩

/-! ### calls of the text's own defs, by one fact each -/
/-- a def of the text: its promise, and how it is called -/
structure Cal (P : Program) (w : World) (K : PySem.W.Frag) (mg : Str → Option Value) (base : Heap) (k : Nat) (x : Str) (ps : List Str) (sp : Sp) : Prop where
  ex : ∃ (f : Addr) (fd : FuncData), FnOk P w K mg base CX0 k f fd ps sp ∧ mg x = some (.ref f) ∧ PySem.W.keepIn K (.ref f) = true ∧ Binds K fd ps []
theorem pe_callC {k : Nat} {x : Str} {ps : List Str} {sp : Sp} {e : Expr} {es : List Expr} {t : TA} {p pos : Pos} (C : Cal X.prog X.w X.K X.mg X.base k x ps sp) (hr : Room k X.A) (ha : PA X (e :: es) t) (hg : Gl X x := by rfl)
    (hdb : (x == ("__debug__" : Str)) = false := by decide) (he : starEach (e :: es) X.env = (false, eval e X.env) :: starEach es X.env := by rfl) (hpl : (backTo pos (starEach es X.env)).any (·.1) = false := by rfl) :
    PE X (.Call (.Name x p) (e :: es) [] pos) (tCall sp [] E0 t) := by
  obtain ⟨f, fd, F, hm, hk, hb⟩ := C.ex
  exact pe_call F hr hg hm hk hb .nil pass0 ha hdb he hpl
theorem Cal.mk' {P : Program} {w : World} {K : PySem.W.Frag} {mg : Str → Option Value} {base : Heap} {k : Nat} {x qual : Str} {st : Stmt} {f : Addr} {fd : FuncData} {ps : List Str} {sp : Sp} (F : Fun K x qual st f fd) (G : FnOk P w K mg base CX0 k f fd ps sp) (hm : mg x = some (.ref f))
    (b : Binds K fd ps []) : Cal P w K mg base k x ps sp := ⟨f, fd, G, hm, F.kp, b⟩

/-! ### an item of a dict of the text's top -/

/-! ### isinstance(x, T), T a builtin type -/
theorem call_isinst : CallR X (.builtin "isinstance") (fun xs H Q => ∃ y T t b, xs = [y, .ty T] ∧ TyOf X.K H y t ∧ PySem.W.kitOne X.K t (.type T) = some b ∧ Q (.bl b) H) := by
  intro pins s σ H xs us Q I r h
  obtain ⟨y, T, t, b, rfl, ty, kt, q⟩ := h
  obtain ⟨u, w', rfl, ru, rw'⟩ := vals2 r
  cases (show w' = Value.type T from rw')
  exact isinst_ok I ru ty kt fun tk => ⟨.bl b, H, I.tok _, rfl, q⟩
end
end L2

set_option Elab.async false
set_option linter.all false
set_option maxRecDepth 100000
set_option maxHeartbeats 4000000
namespace L2
open PySem PySem.Spec PyProof.Rows
/-! rules that name the fragment: for a comprehension's block -/
section
variable {X : Cx} {a : Expr} {ta : TE} {K : PySem.W.Frag}
def tTru (K : PySem.W.Frag) (ta : TE) : TT := fun σ H Q => ta σ H fun x H' => ∃ k, TruV K x H' k ∧ Q k H'
theorem pt_truthK (ha : PE X a ta) (he : ∀ whole, isTrue a X.env whole = (do let v ← whole; standAt a.pos; holding [v] (truthy v))) (hK : X.K = K := by rfl) : PT X a (tTru K ta) := by
  subst hK
  exact pt_truth ha he
def rIsi (K : PySem.W.Frag) : List V → Hp → VK → Prop := fun xs H Q => ∃ y T t b, xs = [y, .ty T] ∧ TyOf K H y t ∧ PySem.W.kitOne K t (.type T) = some b ∧ Q (.bl b) H
theorem call_isinstK (hK : X.K = K := by rfl) : CallR X (.builtin "isinstance") (rIsi K) := by
  subst hK
  exact call_isinst
end
end L2
/-! texts, lists of texts, heaps: what every law's text wants -/
namespace An
open PySem L2

abbrev cs (x : Str) : List Nat := x.cps.toList
theorem cs_inj {x y : Str} (h : cs x = cs y) : x = y := by
  obtain ⟨a⟩ := x
  obtain ⟨b⟩ := y
  have : a = b := by simpa using h
  rw [this]
theorem cs_append (x y : Str) : cs (x ++ y) = cs x ++ cs y := by
  show (x.cps ++ y.cps).toList = _
  simp
theorem length_cs (x : Str) : x.length = (cs x).length := by simp [Str.length]
theorem cs_joinNil : ∀ xs : List Str, cs (Str.join "" xs) = xs.flatMap cs
  | [] => rfl
  | [x] => by show cs x = _; simp
  | x :: y :: r => by
    show cs (x ++ "" ++ Str.join "" (y :: r)) = _
    have : cs ("" : Str) = [] := by decide +kernel
    rw [cs_append, cs_append, cs_joinNil (y :: r), this, List.append_nil]
    simp
theorem eqv_strs : ∀ (a b : List Str), PyData.eqvAll (a.map .str) (b.map .str) = decide (a = b)
  | [], [] => rfl
  | [], _ :: _ => rfl
  | _ :: _, [] => rfl
  | x :: a, y :: b => by
    show ((x == y) && PyData.eqvAll (a.map .str) (b.map .str)) = _
    rw [eqv_strs a b, Bool.eq_iff_iff]
    simp
/-! ### texts that are small and good -/
structure Ok (n : Nat) (x : Str) : Prop where
  len : x.length ≤ n
  ok : PyData.strOk x = true
theorem strOk_iff (x : Str) : PyData.strOk x = true ↔ ∀ c ∈ cs x, c < 1114112 := by
  unfold PyData.strOk
  rw [← Array.all_toList, List.all_eq_true]
  simp
theorem lay_strs : ∀ ls : List Str, (∀ p ∈ ls, PyData.strOk p = true) → PyData.canLayAll0 (ls.map .str) = true ∧ PyData.depthAll (ls.map .str) = 0
  | [], _ => ⟨rfl, rfl⟩
  | x :: ls, h => by
    obtain ⟨h1, h2⟩ := lay_strs ls fun p hp => h p (List.mem_cons_of_mem _ hp)
    refine ⟨?_, ?_⟩
    · show (PyData.strOk x && PyData.canLayAll0 (ls.map .str)) = true
      rw [h x List.mem_cons_self, h1]; rfl
    · show max 0 (PyData.depthAll (ls.map .str)) = 0
      rw [h2]; rfl
theorem shaped_strs {ls : List Str} (h : ∀ p ∈ ls, PyData.strOk p = true) : SeqAt.shaped (.list (ls.map .str)) = true ∧ SeqAt.shaped (.tuple (ls.map .str)) = true := by
  obtain ⟨h1, h2⟩ := lay_strs ls h
  refine ⟨?_, ?_⟩
  · show (PyData.canLayAll0 (ls.map .str) && decide (PyData.depthAll (ls.map .str) + 1 ≤ 64)) = true
    rw [h1, h2]; rfl
  · show (PyData.canLayAll0 (ls.map .str) && decide (PyData.depthAll (ls.map .str) + 1 ≤ 64)) = true
    rw [h1, h2]; rfl
theorem mem_slice {x : Str} {lo hi : Option Int} {c : Nat} (h : c ∈ cs (Txt.slice x lo hi)) : c ∈ cs x := by
  unfold Txt.slice at h
  split at h
  · exact h
  · have h : c ∈ (Builtin.Str.strSliceIndices lo hi 1 x.length).filterMap (x.cps[·]?) := by simpa using h
    obtain ⟨i, _, e⟩ := List.mem_filterMap.mp h
    have e2 : (cs x)[i]? = some c := by rw [← e]; simp
    exact List.mem_of_getElem? e2
theorem same_upd {H : Hp} {l : Addr} {o : HO} (h : H l = none) : Same H (upd H l o) := fun b u e => by rw [upd_ne (ne_of_none e h)]; exact e
theorem Same.updF {H H2 : Hp} {l : Addr} {o : HO} (e : Same H H2) (n : H l = none) : Same H (upd H2 l o) := fun b u q => by rw [upd_ne (ne_of_none q n)]; exact e b u q
theorem le_line {n : Nat} (h : n ≤ 16777216) : n ≤ sizeLine := by rw [sizeLine_eq]; exact h
theorem lt_line {n : Nat} (h : n < 16777216) : n < sizeLine := by rw [sizeLine_eq]; exact h
theorem lineN (n : Nat) (h : n ≤ 16777216 := by decide) : n ≤ sizeLine := le_line h
theorem iteN {c A B : Prop} [Decidable c] (hc : ¬ c) (h : B) : if decide c = true then A else B := by
  rw [decide_eq_false hc]; exact iteF h
theorem mem_snoc {α : Type} {p : α → Prop} {l : List α} {x : α} (h : ∀ y ∈ l, p y) (hx : p x) : ∀ y ∈ l ++ [x], p y := fun y hy => by
  rcases List.mem_append.mp hy with z | z
  · exact h y z
  · rw [List.mem_singleton.mp z]; exact hx
/-! ### an item by a place that is an int -/
theorem at_map {α : Type} {f : α → V} {xs : List α} {i : Int} (h0 : 0 ≤ i) (h1 : i < xs.length) : ∃ x, xs[i.toNat]? = some x ∧ atI (xs.map f) i = some (f x) := by
  obtain ⟨j, rfl⟩ := Int.eq_ofNat_of_zero_le h0
  have hj : j < xs.length := by omega
  refine ⟨xs[j], by simp [hj], atI_nat ?_⟩
  rw [List.getElem?_map, List.getElem?_eq_getElem hj]; rfl
theorem cut_to {xs : List V} {i : Int} (h0 : 0 ≤ i) : cutV xs none (some i) = xs.take i.toNat := by
  obtain ⟨j, rfl⟩ := Int.eq_ofNat_of_zero_le h0
  unfold cutV
  rw [HT.sIx_none, HT.sIx_nat, List.drop_zero]
  show xs.take (min j xs.length - 0) = xs.take j
  by_cases h : j ≤ xs.length
  · rw [Nat.min_eq_left h]; rfl
  · rw [Nat.min_eq_right (by omega), Nat.sub_zero, List.take_length, List.take_of_length_le (by omega)]
theorem cut_from {xs : List V} {i : Int} (h0 : 0 ≤ i) : cutV xs (some i) none = xs.drop i.toNat := by
  obtain ⟨j, rfl⟩ := Int.eq_ofNat_of_zero_le h0
  unfold cutV
  rw [HT.sIx_none, HT.sIx_nat]
  show (xs.drop (min j xs.length)).take (xs.length - min j xs.length) = xs.drop j
  by_cases h : j ≤ xs.length
  · rw [Nat.min_eq_left h]
    exact List.take_of_length_le (by rw [List.length_drop]; omega)
  · rw [Nat.min_eq_right (by omega), List.drop_eq_nil_of_le (Nat.le_refl _), List.drop_eq_nil_of_le (by omega)]; simp
/-! ### heaps that keep all but lists -/
def TSame (H H' : Hp) : Prop := ∀ b o, H b = some o → (∀ xs, o ≠ .lst xs) → H' b = some o
theorem TSame.upd {H : Hp} {l : Addr} {xs ys : List V} (h : H l = some (.lst xs)) : TSame H (L2.upd H l (.lst ys)) := fun b o e n => by
  have hb : b ≠ l := fun z => by rw [z, h] at e; cases e; exact n xs rfl
  rw [upd_ne hb]; exact e
theorem TSame.tup {K : PySem.W.Frag} {H H' : Hp} {a : Addr} {xs : List V} (e : TSame H H') (h : SqT K H a xs) : SqT K H' a xs := by
  rcases h with (h | ⟨o, h⟩) | h
  · exact .inl (.inl (e _ _ h fun xs z => nomatch z))
  · exact .inl (.inr ⟨o, e _ _ h fun xs z => nomatch z⟩)
  · exact .inr h
theorem iteNF {A B : Prop} (h : B) : if (!true) = true then A else B := by
  show if false = true then A else B
  exact iteF h
/-! ### texts of drawn signs -/
def one (c : Nat) : Str := ⟨#[c]⟩
theorem cs_joinOnes : ∀ l : List Nat, cs (Txt.join "" (l.map one)) = l := by
  intro l
  have e2 : Txt.join "" (l.map one) = Str.join "" (l.map one) := StrLaws.glued_eq_join _ _
  rw [e2, cs_joinNil, List.flatMap_map]
  induction l with
  | nil => rfl
  | cons c l ih =>
    rw [List.flatMap_cons]
    show [c] ++ _ = _
    rw [ih (StrLaws.glued_eq_join _ _)]
    rfl
theorem sum_ones : ∀ l : List Nat, ((l.map one).map (·.length)).sum = l.length
  | [] => rfl
  | c :: l => by
    rw [List.map_cons, List.map_cons, List.sum_cons, sum_ones l, List.length_cons]
    show 1 + l.length = _
    omega
end An

set_option Elab.async false
set_option linter.all false
set_option maxRecDepth 100000
set_option maxHeartbeats 4000000
/-! more rules: <= of texts, all([..]) of truth values -/
namespace L2
open PySem PySem.Spec PyProof.Rows
section
variable {X : Cx} {K : PySem.W.Frag}
def rLeS : R2 := fun x y H Q => ∃ i j : Str, x = .str i ∧ y = .str j ∧ Q (.bl (!decide (j.cps.toList < i.cps.toList))) H
theorem op_leS : OpR X (compareOp .LtE) rLeS := by
  intro pins s σ H x y v u Q I rx ry h
  obtain ⟨i, j, rfl, rfl, q⟩ := h
  obtain ⟨t, rfl⟩ := rx
  obtain ⟨t', rfl⟩ := ry
  exact P.le_str ⟨.bl _, H, I, rfl, q⟩
theorem vals_bl : ∀ {bs : List Bool} {us : List Value}, Vals (bs.map V.bl) us → us = bs.map Value.bool
  | [], us, h => by cases h; rfl
  | b :: bs, us, h => by
    cases h with
    | cons r1 r2 => rw [vals_bl r2]; cases r1; rfl
def rAll (K : PySem.W.Frag) : List V → Hp → VK → Prop := fun xs H Q => ∃ (a : Addr) (bs : List Bool), xs = [.ref a] ∧ SqL K H a (bs.map V.bl) ∧ Q (.bl (bs.all id)) H
theorem call_all (hc : X.calm = true) (hK : X.K = K := by rfl) : CallR X (.builtin "all") (rAll K) := by
  subst hK
  intro pins s σ H xs us Q I r h
  obtain ⟨a, bs, rfl, ha, q⟩ := h
  obtain ⟨u, rfl, ru⟩ := vals1 r
  cases ru
  obtain ⟨its, rv, pl, hz⟩ := I.list ha
  have ei := vals_bl rv
  have hl := pl.isList
  have hlt : a < s.heap.objs.size := by obtain ⟨_, e, _⟩ := hl; exact Heap.lt_size e
  refine call_all_walk (wpAny_pyIter_list hl ?_)
  refine ⟨s.heap.objs.size, [s.heap.objs.size, a], [s.heap.objs.size], its.toArray.size, _, _, fun i => (bs[i]?).getD true, rfl, Walks.list (A := X.A.in1) (I.ok.hd hc) _ a (Nat.ne_of_lt hlt) its.toArray,
    ⟨⟨_, Heap.get?_push_size _ rfl, rfl, rfl⟩, hl.push _⟩, fun i v s' Q' E' hP hQ => ?_, fun h' tk hk => ?_⟩
  · have hP : its[i]? = some v := by simpa using hP
    rw [ei, List.getElem?_map] at hP
    cases e : bs[i]? with
    | none => rw [e] at hP; cases hP
    | some b =>
      rw [e] at hP
      have hP : Value.bool b = v := Option.some.inj hP
      subst hP
      simp only [e, Option.getD_some] at hQ
      exact wpAny_truthy_bool hQ
  · have hlen : its.length = bs.length := by rw [ei, List.length_map]
    have e : ((List.range its.toArray.size).all fun i => (bs[i]?).getD true) = bs.all id := by
      rw [List.size_toArray, hlen]; exact PyProof.Rows.LSm.range_all bs
    rw [e]
    exact ⟨.bl _, H, I.kept (PyProof.Rows.LSm.kept_iter hk), rfl, q⟩
end
/-! ### any datum, also with dicts in it that are not read -/
mutual
def Dw (K : PySem.W.Frag) (H : Hp) : PyData → V → Prop
  | .none, v => v = .non
  | .bool b, v => v = .bl b
  | .int i, v => v = .int i
  | .str x, v => v = .str x
  | .list ds, v => ∃ a xs, v = .ref a ∧ SqL K H a xs ∧ DwAll K H ds xs
  | .tuple ds, v => ∃ a xs, v = .ref a ∧ SqT K H a xs ∧ DwAll K H ds xs
  | .dict _, v => ∃ a kvs, v = .ref a ∧ H a = some (.dK kvs)
def DwAll (K : PySem.W.Frag) (H : Hp) : List PyData → List V → Prop
  | [], xs => xs = []
  | d :: ds, xs => ∃ x r, xs = x :: r ∧ Dw K H d x ∧ DwAll K H ds r
end
mutual
theorem Dw.same {K : PySem.W.Frag} {H H' : Hp} (e : Same H H') : ∀ (d : PyData) (v : V), Dw K H d v → Dw K H' d v
  | .none, _, h => h
  | .bool _, _, h => h
  | .int _, _, h => h
  | .str _, _, h => h
  | .list ds, _, ⟨a, xs, h1, h2, h3⟩ => ⟨a, xs, h1, e.seq h2, DwAll.same e ds xs h3⟩
  | .tuple ds, _, ⟨a, xs, h1, h2, h3⟩ => ⟨a, xs, h1, e.tupS h2, DwAll.same e ds xs h3⟩
  | .dict _, _, ⟨a, kvs, h1, h2⟩ => ⟨a, kvs, h1, e _ _ h2⟩
theorem DwAll.same {K : PySem.W.Frag} {H H' : Hp} (e : Same H H') : ∀ (ds : List PyData) (xs : List V), DwAll K H ds xs → DwAll K H' ds xs
  | [], _, h => h
  | d :: ds, _, ⟨x, r, h1, h2, h3⟩ => ⟨x, r, h1, Dw.same e d x h2, DwAll.same e ds r h3⟩
end
mutual
theorem Dt.dw {K : PySem.W.Frag} {H : Hp} : ∀ {d : PyData} {v : V}, Dt K H d v → Dw K H d v
  | .none, _, h => h
  | .bool _, _, h => h
  | .int _, _, h => h
  | .str _, _, h => h
  | .list ds, _, ⟨a, xs, h1, h2, h3⟩ => ⟨a, xs, h1, h2, DtAll.dw h3⟩
  | .tuple ds, _, ⟨a, xs, h1, h2, h3⟩ => ⟨a, xs, h1, h2, DtAll.dw h3⟩
  | .dict _, _, h => h.elim
theorem DtAll.dw {K : PySem.W.Frag} {H : Hp} : ∀ {ds : List PyData} {xs : List V}, DtAll K H ds xs → DwAll K H ds xs
  | [], _, h => h
  | d :: ds, _, ⟨x, r, h1, h2, h3⟩ => ⟨x, r, h1, Dt.dw h2, DtAll.dw h3⟩
end
theorem DwAll.length {K : PySem.W.Frag} {H : Hp} : ∀ {ds : List PyData} {xs : List V}, DwAll K H ds xs → xs.length = ds.length
  | [], _, h => by rw [show _ = [] from h]; rfl
  | d :: ds, _, ⟨x, r, h1, h2, h3⟩ => by rw [h1, List.length_cons, List.length_cons, DwAll.length h3]
theorem DwAll.get {K : PySem.W.Frag} {H : Hp} : ∀ {ds : List PyData} {xs : List V} {i : Nat} {x : V}, DwAll K H ds xs → xs[i]? = some x → ∃ d, ds[i]? = some d ∧ Dw K H d x
  | [], _, i, x, h, e => by rw [show _ = [] from h] at e; cases e
  | d :: ds, _, 0, x, ⟨x', r, h1, h2, h3⟩, e => by
    rw [h1] at e
    cases e
    exact ⟨d, rfl, h2⟩
  | d :: ds, _, i + 1, x, ⟨x', r, h1, h2, h3⟩, e => by
    rw [h1] at e
    obtain ⟨d', e1, e2⟩ := DwAll.get (i := i) h3 (by simpa using e)
    exact ⟨d', by simpa using e1, e2⟩
theorem DwAll.at {K : PySem.W.Frag} {H : Hp} {ds : List PyData} {xs : List V} {i : Nat} {d : PyData} (h : DwAll K H ds xs) (e : ds[i]? = some d) : ∃ x, xs[i]? = some x ∧ Dw K H d x := by
  have hi : i < xs.length := by rw [h.length]; exact (List.getElem?_eq_some_iff.mp e).1
  obtain ⟨d', e', q⟩ := h.get (List.getElem?_eq_getElem hi)
  rw [e] at e'; cases e'
  exact ⟨_, List.getElem?_eq_getElem hi, q⟩
theorem DwAll.drop {K : PySem.W.Frag} {H : Hp} : ∀ (n : Nat) {ds : List PyData} {xs : List V}, DwAll K H ds xs → DwAll K H (ds.drop n) (xs.drop n)
  | 0, _, _, h => by simpa using h
  | n + 1, [], _, h => by rw [show _ = [] from h]; exact rfl
  | n + 1, d :: ds, _, ⟨x, r, h1, h2, h3⟩ => by rw [h1]; exact DwAll.drop n h3
def nameD : PyData → String
  | .none => "NoneType"
  | .bool _ => "bool"
  | .int _ => "int"
  | .str _ => "str"
  | .list _ => "list"
  | .tuple _ => "tuple"
  | .dict _ => "dict"
section
variable {X : Cx} {pins : List (Addr × Obj)} {σ : St} {H : Hp} {s : Shared} {A : Around} {E : Value → Shared → Prop} {Q : Value → Shared → Prop} {c : Value} {b : Bool} {K : PySem.W.Frag}
theorem isinst_dw {x : V} {u : Value} {d : PyData} (I : Inv X pins σ H s) (rx : RelV x u) (hd : Dw X.K H d x) (e : PySem.W.kitOne X.K (.type (nameD d)) c = some b) (h : ∀ tk, Q (.bool b) { s with toks := tk }) :
    wpAny (model X.prog X.w) A (call (.builtin "isinstance") [u, c]) Q E s := by
  cases d with
  | none => cases (show x = _ from hd); exact isinst_ok I rx .non e h
  | bool y => cases (show x = _ from hd); exact isinst_ok I rx (.bl y) e h
  | int i => cases (show x = _ from hd); exact isinst_ok I rx (.int i) e h
  | str y => cases (show x = _ from hd); exact isinst_ok I rx (.str y) e h
  | dict kvs => obtain ⟨a, ks, rfl, ea⟩ := hd; exact isinst_ok I rx (.dK ea) e h
  | list ds =>
    obtain ⟨a, xs, rfl, hs, _⟩ := hd
    cases (show u = Value.ref a from rx)
    obtain ⟨its, _, ⟨o, n, h1, h2, _⟩, _⟩ := I.list hs
    exact PySem.W.kia_one PySem.W.kitx_list I.kIn ⟨o, h1, h2⟩ e (fun z => nomatch z) h
  | tuple ds =>
    obtain ⟨a, xs, rfl, hs, _⟩ := hd
    cases (show u = Value.ref a from rx)
    obtain ⟨its, _, p, _⟩ := I.tuple hs
    obtain ⟨o, h1, h2, _⟩ := p
    exact PySem.W.kia_one PySem.W.kitx_tuple I.kIn ⟨o, h1, h2⟩ e (fun z => nomatch z) h
def rIsiD (K : PySem.W.Frag) : List V → Hp → VK → Prop := fun xs H Q => ∃ y T d b, xs = [y, .ty T] ∧ Dw K H d y ∧ PySem.W.kitOne K (.type (nameD d)) (.type T) = some b ∧ Q (.bl b) H
theorem call_isinstD (hK : X.K = K := by rfl) : CallR X (.builtin "isinstance") (rIsiD K) := by
  subst hK
  intro pins s σ H xs us Q I r h
  obtain ⟨y, T, d, b, rfl, hd, kt, q⟩ := h
  obtain ⟨u, w', rfl, ru, rw'⟩ := vals2 r
  cases (show w' = Value.type T from rw')
  exact isinst_dw I ru hd kt fun tk => ⟨.bl b, H, I.tok _, rfl, q⟩
end
section
variable {src : List (Option Nat)} {g : TG} {te : TE} {Q : VK} {σ : St} {H : Hp}
theorem comp_str0 {x : Str} (Pv : Nat → List V → St → Hp → Prop) (h0 : Pv 0 [] (srcSt src σ) H) (hz : x.length ≤ sizeLine) (hl : ∀ i ys σ H, i ≤ x.length → Pv i ys σ H → ys.length ≤ i)
    (hs : ∀ i c ys σ H, x.cps[i]? = some c → Pv i ys σ H → g (.str ⟨#[c]⟩) σ H fun σ2 H3 => te σ2 H3 fun y H5 => Pv (i + 1) (ys ++ [y]) σ2 H5)
    (hd : ∀ ys σ H, Pv x.length ys σ H → ∀ p, H p = none → Q (.ref p) (upd H p (.lst ys))) : CompW src (Its x) g tfNil te Q σ H :=
  comp_n x.length Pv h0 hz hl (fun _ _ _ _ => rfl) (fun _ _ _ _ hi _ => hi)
    (fun i ys σ H hi p x' H2 y => by
      obtain ⟨e, c, hc, rfl⟩ := y
      subst e
      rw [noTest]
      exact hs i c ys σ _ hc p) hd
end
end L2

set_option Elab.async false
set_option linter.all false
set_option maxRecDepth 100000
set_option maxHeartbeats 4000000
/-! lines, labels, rows of trees: what DOC.md asks of them, over any datum -/
namespace An
open PySem L2
/-! ### what is asked -/
def signB (c : Nat) : Bool := decide (32 ≤ c) && decide (c ≤ 126) && decide (c ≠ 37)
def lineB (x : Str) : Bool := decide (x.length ≤ 20) && (cs x).all signB
def lowB (c : Nat) : Bool := decide (97 ≤ c) && decide (c ≤ 122)
def labelB (x : Str) : Bool := decide (1 ≤ x.length) && decide (x.length ≤ 8) && (cs x).all lowB
def lineD : PyData → Bool
  | .str x => lineB x
  | _ => false
def linesD : PyData → Bool
  | .tuple ds => ds.all lineD
  | _ => false
def labelD : PyData → Bool
  | .str x => labelB x
  | _ => false
def textD : PyData → Bool
  | .str _ => true
  | _ => false
def rowD : PyData → Bool
  | .tuple [l, n] => labelD l && textD n
  | _ => false
mutual
/-- no text and no row of it is great -/
def small : PyData → Bool
  | .str x => decide (x.length ≤ 1000)
  | .list ds => decide (ds.length ≤ 1000) && smallAll ds
  | .tuple ds => decide (ds.length ≤ 1000) && smallAll ds
  | _ => true
def smallAll : List PyData → Bool
  | [] => true
  | d :: ds => small d && smallAll ds
end
theorem smallAll_get : ∀ {ds : List PyData} {i : Nat} {d : PyData}, smallAll ds = true → ds[i]? = some d → small d = true
  | [], _, _, _, h => by cases h
  | e :: ds, 0, d, h, q => by
    have h : (small e && smallAll ds) = true := h
    have q : e = d := Option.some.inj q
    rw [Bool.and_eq_true] at h
    rw [← q]; exact h.1
  | e :: ds, i + 1, d, h, q => by
    have h : (small e && smallAll ds) = true := h
    rw [Bool.and_eq_true] at h
    exact smallAll_get h.2 (by simpa using q)
theorem small_tuple {ds : List PyData} (h : small (.tuple ds) = true) : ds.length ≤ 1000 ∧ smallAll ds = true := by
  have h : (decide (ds.length ≤ 1000) && smallAll ds) = true := h
  rw [Bool.and_eq_true] at h
  exact ⟨of_decide_eq_true h.1, h.2⟩
theorem lt_one (a c : Nat) : [a] < [c] ↔ a < c := by
  rw [List.cons_lt_cons_iff]
  constructor
  · rintro (h | ⟨_, h⟩)
    · exact h
    · exact absurd h (by simp)
  · exact .inl
theorem not_dec {p q : Prop} [Decidable p] [Decidable q] (h : ¬ p ↔ q) : (!decide p) = decide q := by
  by_cases hp : p
  · rw [decide_eq_true hp, decide_eq_false (fun z => h.mpr z hp)]; rfl
  · rw [decide_eq_false hp, decide_eq_true (h.mp hp)]; rfl
theorem le_one (c a : Nat) (x : Str) (hx : x.cps.toList = [a]) : (!decide ((⟨#[c]⟩ : Str).cps.toList < x.cps.toList)) = decide (a ≤ c) := by
  rw [hx]
  exact not_dec (by show ¬ [c] < [a] ↔ _; rw [lt_one]; omega)
theorem one_le (c a : Nat) (x : Str) (hx : x.cps.toList = [a]) : (!decide (x.cps.toList < (⟨#[c]⟩ : Str).cps.toList)) = decide (c ≤ a) := by
  rw [hx]
  exact not_dec (by show ¬ [a] < [c] ↔ _; rw [lt_one]; omega)
/-! ### promises -/
def spSign : Sp := fun vs H Q _ => ∃ c : Nat, vs = [.str ⟨#[c]⟩] ∧ Q (.bl (signB c)) H
def spLine (K : PySem.W.Frag) : Sp := fun vs H Q _ => ∃ (d : PyData) (v : V), vs = [v] ∧ Dw K H d v ∧ small d = true ∧ ∀ H', Same H H' → Q (.bl (lineD d)) H'
def spLines (K : PySem.W.Frag) : Sp := fun vs H Q _ => ∃ (d : PyData) (v : V), vs = [v] ∧ Dw K H d v ∧ small d = true ∧ ∀ H', Same H H' → Q (.bl (linesD d)) H'
def spLabel (K : PySem.W.Frag) : Sp := fun vs H Q _ => ∃ (d : PyData) (v : V), vs = [v] ∧ Dw K H d v ∧ small d = true ∧ ∀ H', Same H H' → Q (.bl (labelD d)) H'
def spRow (K : PySem.W.Frag) : Sp := fun vs H Q _ => ∃ (d : PyData) (v : V), vs = [v] ∧ Dw K H d v ∧ small d = true ∧ ∀ H', Same H H' → Q (.bl (rowD d)) H'

theorem all_take_succ {α : Type} {l : List α} {f : α → Bool} {i : Nat} {c : α} (h : l[i]? = some c) : (l.take (i + 1)).map f = (l.take i).map f ++ [f c] := by
  rw [List.take_add_one, h, List.map_append]
  rfl
theorem cs_get {x : Str} {i c : Nat} (h : x.cps[i]? = some c) : (cs x)[i]? = some c := by rw [← h]; simp
theorem all_map (l : List α) (f : α → Bool) : (l.map f).all id = l.all f := by
  rw [List.all_map]; rfl
end An

set_option Elab.async false
set_option linter.all false
set_option maxRecDepth 100000
set_option maxHeartbeats 4000000
/-! more rules: range(a, b, -1) -/
namespace L2
open PySem PySem.Spec PyProof.Rows

section
variable {X : Cx} {tg : Expr}
end
end L2

set_option Elab.async false
set_option linter.all false
set_option maxRecDepth 100000
set_option maxHeartbeats 4000000
/-! tuples: +, * -/
namespace AxT
open PySem PySem.Spec PyProof.Rows PySem.SeqAt
open AutoSeq1 (wpAny_loadPart')
theorem noFill_tuple_mul : fillsNumberSlot (.type "tuple") "mul" = pure false :=
  PySem.fillsNumberSlot_seq (id := "tuple.__mul__") (r := some (.builtin "tuple.__rmul__")) F.slot_tuple_mul.lookup (by decide +kernel) F.slot_tuple_rmul.lookup (by decide +kernel)
theorem repeat_tuple : seqRepeat? (.type "tuple") = pure (some (.builtin "tuple.__mul__")) := by
  unfold seqRepeat?
  rw [PySem.seqSlot_of (T := "tuple") (name := "__mul__") (id := "tuple.__mul__") F.slot_tuple_mul.lookup (by decide +kernel), PySem.seqSlot_of (T := "tuple") (name := "__rmul__") (id := "tuple.__rmul__") F.slot_tuple_rmul.lookup (by decide +kernel)]
  rfl
theorem int_rmul_tuple (a : Int) (t : Tok) (l : Addr) (items : Array Value) (n : Nat) (dd : Option Addr) (sl : Array (Option Value)) :
    Meets (Builtin.«int.__rmul__» ⟨[.int a t, .ref l], []⟩) (fun _ R s => s.heap.get? l = some { cls := .type "tuple", dict := dd, data := .seq items n, slots := sl } ∧ R (.ok (.ret Value.notImplemented)) s) :=
  .of_wp fun prog w A R s h => by obtain ⟨hp, g, d, tk, os⟩ := s; obtain ⟨hl, h⟩ := h; wp_walk using wpAny_loadPart' hl; exact ⟨_, rfl, h⟩
theorem tuple_mulW (l : Addr) (items : Array Value) (n : Nat) (dd : Option Addr) (sl : Array (Option Value)) (x : Int) (u : Tok) (hc0 : ¬(decide (x < -2 ^ 63) || decide (x ≥ 2 ^ 63)) = true) (hc1 : ¬(items.isEmpty || x == 1) = true)
    (hc2 : ¬(decide (x ≤ 0) || items.isEmpty) = true) (hc3 : ¬ ((items.size : Nat) : Int) * x > (2 ^ 63 - 1) / 8) (hc4 : ¬ Builtin.Tuple.tupleTooMany (((items.size : Nat) : Int) * x) = true)
    (hsz : (List.foldl (fun x1 x2 => x1 ++ x2) #[] (List.replicate x.toNat items)).size ≤ sizeLine) :
    Meets (Builtin.«tuple.__mul__» ⟨[.ref l, .int x u], []⟩) (fun _ R s => s.heap.get? l = some { cls := .type "tuple", dict := dd, data := .seq items n, slots := sl } ∧
      R (.ok (.ret (Value.ref s.heap.objs.size))) { s with heap := s.heap.push { cls := Value.type "tuple", data := Data.seq (List.foldl (fun x1 x2 => x1 ++ x2) #[] (List.replicate x.toNat items)) }, toks := s.toks }) :=
  .of_wp fun prog w A R s h => by
    obtain ⟨hp, g, d, tk, os⟩ := s; obtain ⟨hl, h⟩ := h
    wp_walk using wpAny_loadPart' hl
    rw [if_neg hc0]
    wp_walk using wpAny_loadPart' hl
    first | rw [if_neg hc1] | skip
    wp_walk using wpAny_loadPart' hl
    first | rw [if_neg hc2] | skip
    wp_walk using wpAny_loadPart' hl
    first | rw [if_neg hc3] | skip
    wp_walk using wpAny_loadPart' hl
    first | rw [if_neg hc4] | skip
    wp_walk using wpAny_loadPart' hl
    exact ⟨_, rfl, h⟩
end AxT
namespace L2
open PySem PySem.Spec PyProof.Rows
section
variable {X : Cx}
/-- a + b, two tuples -/
def rCatT2 (K : PySem.W.Frag) : R2 := fun x y H Q => ∃ a b xs ys, x = .ref a ∧ y = .ref b ∧ SqT K H a xs ∧ SqT K H b ys ∧ xs.length + ys.length ≤ sizeLine ∧ ∀ p H', Same H H' → SqT K H' p (xs ++ ys) → Q (.ref p) H'
theorem op_catT2 : OpR X (binaryOp .Add) (rCatT2 X.K) := by
  intro pins s σ H x y v u Q I rx ry h
  obtain ⟨a, b, xs, ys, rfl, rfl, ha, hb, hz, q⟩ := h
  by_cases hx : xs = []
  · subst hx
    cases rx
    cases ry
    obtain ⟨its, r1, p1, _⟩ := I.tuple ha
    obtain ⟨its2, r2, p2, _⟩ := I.tuple hb
    have hi : its = [] := r1.nil_iff.mpr rfl
    subst hi
    obtain ⟨⟨cls, dd, data, sl⟩, ho, hc, n, hd⟩ := id p1
    obtain ⟨⟨cls2, dd2, data2, sl2⟩, ho2, hc2, n2, hd2⟩ := id p2
    simp only at hc hd hc2 hd2
    subst hc hd hc2 hd2
    exact concat_meets ⟨_, ho, rfl⟩ ⟨_, ho2, rfl⟩ noFill_tuple_add seq_tuple_add PySem.F.slot_tuple_add PySem.F.entry_tuple_add (PySem.F.args_tuple_add_2 _ _)
      (tuple_addW0 a b ([] : List Value).toArray its2.toArray n n2 dd dd2 sl sl2 (by simp)) ⟨ho, ho2, ⟨.ref b, H, I, rfl, q b H (Same.refl _) hb⟩⟩
  · exact op_catT pins s σ H _ _ v u Q I rx ry ⟨a, b, xs, ys, rfl, rfl, ha, hb, hx, hz, fun e => q a H (Same.refl _) (by rw [e, List.append_nil]; exact ha), fun _ p np => q p _ (An.same_upd np) (SqT.of upd_same)⟩
/-- t * k -/
def rRepT (K : PySem.W.Frag) : R2 := fun x y H Q => ∃ a k xs, x = .ref a ∧ y = .int k ∧ SqT K H a xs ∧ xs ≠ [] ∧ 2 ≤ k ∧ k ≤ 1000 ∧ xs.length ≤ 1000 ∧ ∀ p, H p = none → Q (.ref p) (upd H p (.tup (List.replicate k.toNat xs).flatten))
theorem op_repT : OpR X (binaryOp .Mult) (rRepT X.K) := by
  intro pins s σ H x y v u Q I rx ry h
  obtain ⟨a, k, xs, rfl, rfl, ha, hne, k2, k3, hl, q⟩ := h
  cases rx
  obtain ⟨t, rfl⟩ := ry
  obtain ⟨its, r, p, hz⟩ := I.tuple ha
  obtain ⟨⟨cls, dd, data, sl⟩, ho, hc, n, hd⟩ := id p
  simp only at hc hd
  subst hc hd
  have il : its.length = xs.length := r.length.symm
  have ine : its ≠ [] := fun z => hne (r.nil_iff.mp z)
  have f0 : List.foldl (fun x1 x2 => x1 ++ x2) #[] (List.replicate k.toNat its.toArray) = (List.replicate k.toNat its).flatten.toArray := by
    have := foldl_rep its k.toNat []
    rw [List.nil_append] at this
    exact this
  have hmul : its.toArray.size * k.toNat ≤ 1000000 := by
    rw [List.size_toArray, il]
    exact Nat.mul_le_mul hl (show k.toNat ≤ 1000 by omega)
  have hmulI : ((its.toArray.size : Nat) : Int) * k ≤ 1000000 := by
    have e : k = ((k.toNat : Nat) : Int) := by omega
    rw [e, ← Int.natCast_mul]
    show ((its.toArray.size * k.toNat : Nat) : Int) ≤ ((1000000 : Nat) : Int)
    exact Int.ofNat_le.mpr hmul
  have hlen : (List.replicate k.toNat its).flatten.length ≤ 1000000 := by
    rw [len_rep, Nat.mul_comm]; rw [List.size_toArray] at hmul; exact hmul
  refine wpAny_binaryOp_repeat_ref (T := "tuple") (U := "int") (by decide) ⟨_, ho, rfl⟩ (fun s' => typeIs_int s' k t) AxT.noFill_tuple_mul F.fills_int_mul F.slot_int_rmul AxT.repeat_tuple F.slot_int_index.lookup
    (call_meets F.slot_int_rmul (typeIs_int s k t) F.entry_int_rmul (F.args_int_rmul_2 _ _) (AxT.int_rmul_tuple k t a its.toArray n dd sl)
      ⟨ho, rfl, ⟨_, ho, rfl⟩, call_meets F.slot_tuple_mul ⟨_, ho, rfl⟩ F.entry_tuple_mul (F.args_tuple_mul_2 _ _) (AxT.tuple_mulW a its.toArray n dd sl k t ?_ ?_ ?_ ?_ ?_ ?_) ⟨ho, ?_⟩⟩)
  · simp; omega
  · simp [ine]; omega
  · simp [ine]; omega
  · omega
  · intro z
    have z : decide (((its.toArray.size : Nat) : Int) * k > ((sizeLine : Nat) : Int)) = true := z
    have z := of_decide_eq_true z
    rw [sizeLine_eq] at z
    omega
  · rw [f0, List.size_toArray]; exact An.le_line (by omega)
  · rw [f0]
    refine ⟨.ref s.heap.objs.size, _, I.laid (t' := s.toks) (o := .tup (List.replicate k.toNat xs).flatten) (fun b ob q => Heap.get?_push_of_some _ q) (Nat.le_refl _) ?_, rfl, q _ (I.hok.fresh (Nat.le_refl _))⟩
    refine ⟨?_, _, r.rep k.toNat, IsTup.new _ _⟩
    rw [len_rep, Nat.mul_comm, ← il]
    rw [len_rep, Nat.mul_comm] at hlen
    exact An.le_line (by omega)
end
end L2

set_option Elab.async false
set_option linter.all false
set_option maxRecDepth 100000
set_option maxHeartbeats 4000000
/-! reversed(a tuple), walked -/
namespace AxR
open PySem PySem.Spec PyProof.Rows
open AutoSeq1 (wpAny_loadPart')
theorem owner_rev : Manifest.owners.lookup (String.ofList ['d', 'e', 's', 'r', 'e', 'v', 'e', 'r'].reverse) = some Manifest.sig_reversed := by kernel_rfl
theorem slot_next : Slot "reversed" "__next__" "reversed.__next__" :=
  .of (owner := "reversed") (n := "__next__") (by rw [typeLookup_type, builtinLookup_eq_fast]; kernel_rfl) (by decide +kernel) (by decide +kernel) (by decide +kernel)
    (by first | exact .inl (by decide +kernel) | exact .inr (by decide +kernel)) (by rw [isSubtype_type]; kernel_rfl)
theorem entry_next : entryFor table "reversed.__next__" = some Builtin.«reversed.__next__» := entryFor_of_tree (by kernel_rfl)
theorem args_next (a : Value) : argsOk "reversed.__next__" ⟨[a], []⟩ := by
  unfold argsOk; rw [signature?_of (id := "reversed.__next__") (n := ['_', '_', 't', 'x', 'e', 'n', '_', '_']) (o := ['d', 'e', 's', 'r', 'e', 'v', 'e', 'r']) (by kernel_rfl) owner_rev]; kernel_rfl
theorem slot_iter : Slot "reversed" "__iter__" "reversed.__iter__" :=
  .of (owner := "reversed") (n := "__iter__") (by rw [typeLookup_type, builtinLookup_eq_fast]; kernel_rfl) (by decide +kernel) (by decide +kernel) (by decide +kernel)
    (by first | exact .inl (by decide +kernel) | exact .inr (by decide +kernel)) (by rw [isSubtype_type]; kernel_rfl)
theorem args_iter (a : Value) : argsOk "reversed.__iter__" ⟨[a], []⟩ := by
  unfold argsOk; rw [signature?_of (id := "reversed.__iter__") (n := ['_', '_', 'r', 'e', 't', 'i', '_', '_']) (o := ['d', 'e', 's', 'r', 'e', 'v', 'e', 'r']) (by kernel_rfl) owner_rev]; kernel_rfl
theorem entry_iter : entryFor table "reversed.__iter__" = some Builtin.«dict_keyiterator.__iter__» :=
  entryFor_alias (id' := "dict_keyiterator.__iter__") (by kernel_rfl) (by first | rfl | decide +kernel | (unfold String.splitOn; simp +decide [String.splitOnAux])) (by decide +kernel) (by kernel_rfl)
theorem slot_init : Slot "reversed" "__init__" "object.__init__" :=
  .of (owner := "object") (n := "__init__") (by rw [typeLookup_type, builtinLookup_eq_fast]; kernel_rfl) (by decide +kernel) (by decide +kernel) (by decide +kernel)
    (by first | exact .inl (by decide +kernel) | exact .inr (by decide +kernel)) (by rw [isSubtype_type]; kernel_rfl)
theorem called : TypeCalled "reversed" "reversed.__new__" "object.__init__" := ⟨by decide +kernel, F.create_reversed, ⟨_, _, F.mro_reversed⟩, F.made_reversed, F.plain_reversed_new, F.sub_reversed_self, slot_init⟩
theorem no_reversed : typeLookup (.type "tuple") "__reversed__" = pure none := by rw [typeLookup_type, builtinLookup_eq_fast]; kernel_rfl
def revO (l : Addr) (i : Int) : Obj := { cls := .type "reversed", data := .fields #[.ref l, rawInt i] }
def IsRev (h : Heap) (a l : Addr) (i : Int) : Prop := h.get? a = some (revO l i)
theorem sub_tuple_dict : isSubtype (.type "tuple") (.type "dict") = pure false := by rw [isSubtype_type]; kernel_rfl
theorem meets_new (l : Addr) (items : Array Value) (hz : items.size ≤ sizeLine) :
    Meets (Builtin.«reversed.__new__» ⟨[.type "reversed", .ref l], []⟩) (fun _ R s => IsTup s.heap l items ∧ ∀ tk, R (.ok (.ret (.ref s.heap.objs.size))) { s with heap := s.heap.push (revO l ((items.size : Int) - 1)), toks := tk }) :=
  .of_wp fun prog w A R s h => by
    obtain ⟨ht, h⟩ := h
    unfold Builtin.«reversed.__new__»
    refine wpAny_bind (wpAny_of_eq (newClass_reversed _) ?_)
    try dsimp only
    refine wpAny_bind (wpAny_of_eq (a := ()) (by first | rfl | kernel_rfl) ?_)
    refine wpAny_bind (wpAny_of_eq (a := ()) (by first | rfl | kernel_rfl) ?_)
    try dsimp only
    refine wpAny_bind (wpAny_specialOf ht.typeIs no_reversed ?_)
    try dsimp only
    have hT : s.TypeIs (.ref l) "tuple" := ht.typeIs
    have f1 := sub_tuple_dict
    have f2 := PyProof.Rows.slot_tuple_getitem.lookup
    refine wpAny_bind (wpAny_mono (Q := fun (b : Bool) s' => b = true ∧ s' = s) (E := fun _ _ => False) ?_ (fun b s' hb => ?_) (fun _ _ z => z.elim))
    · wp_walk
      exact ⟨rfl, rfl⟩
    · obtain ⟨rfl, rfl⟩ := hb
      rw [if_neg (by decide)]
      have hn := L2.line63
      refine wpAny_bind (len_tuple ht (by omega) ?_)
      refine wpAny_bind (wpAny_of_eq (a := some ((items.size : Nat) : Int)) rfl ?_)
      try dsimp only
      unfold Builtin.SmallTypes.newRecord
      refine wpAny_bind (wpAny_newObj_type ?_)
      exact wpAny_pure ⟨_, rfl, h _⟩
section
variable {prog : Program} {w : World} {A : Around} {E : Value → Shared → Prop} {s : Shared}
theorem call_rev {l : Addr} {items : Array Value} (hz : items.size ≤ sizeLine) {Q : Value → Shared → Prop} (ht : IsTup s.heap l items) (h : ∀ tk, Q (.ref s.heap.objs.size) { s with heap := s.heap.push (revO l ((items.size : Int) - 1)), toks := tk }) :
    wpAny (model prog w) A (call (.type "reversed") [.ref l]) Q E s :=
  callType_new called (by decide) (F.typeCall_reversed_1 _) (F.newCall_reversed_1 _) (fun obj => F.args_object_init_2 obj _) F.entry_reversed_new (meets_new l items hz) ⟨ht, fun tk => ⟨⟨_, Heap.get?_push_size _ rfl, rfl⟩, h tk⟩⟩
theorem typeIs {a l : Addr} {i : Int} (x : IsRev s.heap a l i) : s.TypeIs (.ref a) "reversed" := ⟨_, x, rfl⟩
theorem next_item {it l : Addr} {i : Nat} {items : Array Value} {x : Value} {Q : Option Value → Shared → Prop} (hit : IsRev s.heap it l (i : Int)) (ht : IsTup s.heap l items) (hne : l ≠ it) (hz : items.size ≤ sizeLine) (hx : items[i]? = some x)
    (hQ : ∀ h' tk, IsRev h' it l ((i : Int) - 1) → Heap.SameBut it s.heap h' → Q (some x) { s with heap := h', toks := tk }) : wpAny (model prog w) A (pyNext (.ref it)) Q E s := by
  have ho : s.heap.get? it = some (revO l i) := hit
  have hi : i < items.size := (Array.getElem?_eq_some_iff.mp hx).1
  unfold pyNext
  refine wpAny_bind (wpAny_attempt (wpAny_callSpecial?_slot (name := Str.ofString "__next__") (typeIs hit) slot_next
    (wpAny_call_entry slot_next (typeIs hit) entry_next ?_ (args_next _))))
  unfold Builtin.«reversed.__next__»
  refine wpAny_bind (wpAny_of_eq (a := (Value.ref it, [])) rfl ?_)
  try dsimp only
  refine wpAny_bind (wpAny_field ho (x := .ref l) rfl rfl ?_)
  refine wpAny_bind (wpAny_field ho (x := rawInt (i : Int)) rfl rfl ?_)
  show wpAny _ _ (if (i : Int) < 0 then _ else _) _ _ s
  rw [if_neg (by omega)]
  refine wpAny_bind (wpAny_specialOf ht.typeIs PyProof.Rows.slot_tuple_getitem.lookup ?_)
  rw [if_neg (by decide)]
  have hn := L2.line63
  refine wpAny_bind (wpAny_mkInt ?_)
  have ht1 : IsTup ({ s with toks := s.toks + 1 } : Shared).heap l items := ht
  refine wpAny_bind (wpAny_attempt (getItem_tuple (j := i) ht1 (by omega) (by omega) (by unfold seqIndex?; simp; omega) hx ?_))
  try dsimp only
  refine wpAny_bind (wpAny_field ho (x := rawInt (i : Int)) rfl rfl ?_)
  show wpAny _ _ (setField (.ref it) 1 (rawInt ((i : Int) - 1)) >>= _) _ _ _
  refine wpAny_bind (wpAny_setField ho rfl (by simp) ?_)
  refine wpAny_pure ⟨x, rfl, wpAny_pure (hQ _ _ ?_ (Heap.SameBut.update ..))⟩
  have e := Heap.get?_update_self (Obj.mapFields (·.setIfInBounds 1 (rawInt ((i : Int) - 1)))) ho rfl
  exact e
theorem next_end {it l : Addr} {Q : Option Value → Shared → Prop} (hh : A.handled = none) (hit : IsRev s.heap it l (-1))
    (hQ : ∀ h', Heap.ExtBut it s.heap h' → Q none { s with heap := h' }) : wpAny (model prog w) A (pyNext (.ref it)) Q E s := by
  have ho : s.heap.get? it = some (revO l (-1)) := hit
  unfold pyNext
  refine wpAny_bind (wpAny_attempt (wpAny_callSpecial?_slot (name := Str.ofString "__next__") (typeIs hit) slot_next
    (wpAny_call_entry slot_next (typeIs hit) entry_next ?_ (args_next _))))
  unfold Builtin.«reversed.__next__»
  refine wpAny_bind (wpAny_of_eq (a := (Value.ref it, [])) rfl ?_)
  try dsimp only
  refine wpAny_bind (wpAny_field ho (x := .ref l) rfl rfl ?_)
  refine wpAny_bind (wpAny_field ho (x := rawInt (-1)) rfl rfl ?_)
  show wpAny _ _ (if (-1 : Int) < 0 then _ else _) _ _ s
  rw [if_pos (by decide)]
  refine wpAny_bind (wpAny_rule ?_)
  refine wpAny_bind ?_
  show wpAny _ _ (setField (.ref it) 1 (rawInt (-1)) >>= fun _ => setField (.ref it) 0 .none) _ _ s
  refine wpAny_bind (wpAny_setField ho rfl (by simp) ?_)
  have ho1 : (s.heap.update it (Obj.mapFields (·.setIfInBounds 1 (rawInt (-1))))).get? it = some (revO l (-1)) := Heap.get?_update_self (Obj.mapFields (·.setIfInBounds 1 (rawInt (-1)))) ho rfl
  refine wpAny_setField ho1 rfl (by simp) ?_
  refine wpAny_bind ?_
  unfold Builtin.SmallTypes.stopIteration
  refine wpAny_bind ?_
  simp only [newExc, newTuple]
  refine wpAny_bind (wpAny_newObj_type ?_ (by size_fits))
  refine wpAny_bind (m := firstArgMember _ _) (wpAny_of_eq (a := Value.none) (by first | rfl | (simp only [firstArgMember]; rfl)) ?_)
  refine wpAny_newObj_type ?_ (by size_fits)
  simp only [raiseNew]
  refine wpAny_bind (wpAny_handled ?_)
  first | rw [show A.in1.handled = none from hh] | rw [hh]
  refine wpAny_bind (wpAny_pure (wpAny_throw ?_))
  refine wpAny_bind (wpAny_isInstance (T := "StopIteration") (b := true) ⟨_, Heap.get?_push_size _ rfl, rfl⟩ isSubtype_stop ?_)
  refine wpAny_pure (hQ _ ?_)
  refine ((Heap.ExtBut.push ?_ _).push _)
  exact fun b o hb e => by rw [Heap.get?_update_other _ _ (Ne.symm hb), Heap.get?_update_other _ _ (Ne.symm hb)]; exact e
theorem iter_self {it l : Addr} {i : Int} {Q : Value → Shared → Prop} (hit : IsRev s.heap it l i) (h : Q (.ref it) s) : wpAny (model prog w) A (pyIter (.ref it)) Q E s := by
  refine wpAny_pyIter_slot (typeIs hit) slot_iter (wpAny_call_entry slot_iter (typeIs hit) entry_iter ?_ (args_iter _))
  show wpAny _ _ (ret (.ref it)) _ _ s
  exact wpAny_pure ⟨_, rfl, "reversed", _, typeIs hit, slot_next.lookup, h⟩
end
end AxR
namespace L2
open PySem PySem.Spec PyProof.Rows
section
variable {X : Cx} {tg : Expr}
theorem boot_reversed : bootBuiltins "reversed" = some (.type "reversed") := by decide +kernel
end
end L2

set_option Elab.async false
set_option linter.all false
set_option maxRecDepth 100000
set_option maxHeartbeats 4000000
/-! more rules: a < b < c < d, text * number, in a list or tuple of data, sum of a list of numbers, reversed(a list) -/
namespace L2
open PySem PySem.Spec PyProof.Rows
section
variable {X : Cx} {K : PySem.W.Frag} {a b c d : Expr} {ta tb tc td : TE} {pos : Pos}
def rMulS : R2 := fun x y H Q => ∃ (i : Str) (n : Int), x = .str i ∧ y = .int n ∧ MulOk i n ∧ Q (.str (Txt.mul i n)) H
theorem op_mulS : OpR X (binaryOp .Mult) rMulS := by
  intro pins s σ H x y v u Q I rx ry h
  obtain ⟨i, n, rfl, rfl, ok, q⟩ := h
  obtain ⟨t, rfl⟩ := rx
  obtain ⟨t', rfl⟩ := ry
  exact SB.mul ok fun t' k => ⟨.str _, H, I.tok _, ⟨_, rfl⟩, q⟩
def rInD (K : PySem.W.Frag) (tup neg : Bool) : R2 := fun x y H Q => ∃ (d : PyData) (xs : List PyData), Dt K H d x ∧ Dt K H (if tup then .tuple xs else .list xs) y ∧ PyData.canLayAll0 xs = true ∧ d.canLay0 = true ∧ d.depth ≤ 60 ∧ Q (.bl (neg != xs.any fun y => PyData.eqv y d)) H
theorem op_inDT (hu : X.A.units + 64 < cLine) (hK : X.K = K := by rfl) : OpR X (compareOp .In) (rInD K true false) := by
  subst hK
  intro pins s σ H x y v u Q I rx ry h
  obtain ⟨d, xs, h1, h2, h3, h4, h5, q⟩ := h
  obtain ⟨as, r1⟩ := Dt.reads I d x v h1 rx
  obtain ⟨bs, r2⟩ := Dt.reads I _ y u h2 ry
  have hm : min (PyData.depthAll xs) d.depth ≤ d.depth := Nat.min_le_right _ _
  exact SeqAt.in_tuple_reads r2 r1 h3 h4 (by omega) ⟨.bl _, H, I, rfl, by simpa using q⟩
end
section
variable {X : Cx} {tg : Expr}
end
end L2

set_option Elab.async false
set_option linter.all false
set_option maxRecDepth 100000
set_option maxHeartbeats 4000000
/-! sets of texts -/
namespace AxS
open PySem PySem.Spec PyProof.Rows
/-! what the table's marks become -/
theorem orStandIn_marks (t : SetTable) (n : Nat) : (t.orStandIn n).led = t.led ∧ (t.plain = false → (t.orStandIn n).plain = false) := by
  unfold SetTable.orStandIn
  split
  · exact ⟨rfl, id⟩
  · exact ⟨rfl, fun _ => rfl⟩
theorem layNew_marks (t : SetTable) (es : Array (Int × Value)) (h : Int) (x : Value) : (layNew t es h x).2.1.led = t.led ∧ (t.plain = false → (layNew t es h x).2.1.plain = false) := by
  unfold layNew
  split
  · rename_i slot wd _
    have m := orStandIn_marks (t.put slot).1 (SetTable.insertAt es (t.put slot).2 (h, x)).size
    exact ⟨m.1, m.2⟩
  · exact ⟨rfl, fun _ => rfl⟩
theorem laid_marks {mask finger moves : Nat} {led plain : Bool} {hs : Array Int} {t : SetTable} {o : Array Nat} (h : SetTable.laid mask finger moves led plain hs = some (t, o)) : t.led = led ∧ t.plain = plain := by
  unfold SetTable.laid at h
  simp only [Option.bind_eq_bind, Option.bind_eq_some_iff, Option.pure_def, Option.some.injEq, Prod.mk.injEq] at h
  obtain ⟨_, _, h, _⟩ := h
  rw [← h]
  exact ⟨rfl, rfl⟩
theorem relayAll_marks (t : SetTable) (es : Array (Int × Value)) (n : Nat) : (relayAll t es n).2.1.led = t.led ∧ (t.plain = false → (relayAll t es n).2.1.plain = false) := by
  unfold relayAll
  split
  · rename_i t' order he
    have m := laid_marks he
    dsimp only
    split
    · exact ⟨m.1, fun z => m.2.trans z⟩
    · exact ⟨rfl, fun _ => rfl⟩
  · exact ⟨rfl, fun _ => rfl⟩
/-! a set of texts -/
def keyOf (e : Int × Value) : Str := match e.2 with
  | .str k _ => k
  | _ => ""
def TxData (prog : Program) (w : World) (es : Array (Int × Value)) (t : SetTable) (ks : List Str) : Prop :=
  ElemsOf (strKind prog w) es.toList ∧ (es.toList.map keyOf).Perm ks ∧ es.size < scanBound ∧ t.fits es.size = true ∧ t.led = !(w.params.followText "set-order") ∧ (es.size ≠ 0 → t.plain = false)
def TxSet (prog : Program) (w : World) (h : Heap) (a : Addr) (ks : List Str) : Prop := ∃ o es ep t, h.get? a = some o ∧ o.ExactSet ∧ o.data = .set es ep t ∧ TxData prog w es t ks
section
variable {prog : Program} {w : World} {A : Around} {E : Value → Shared → Prop} {s : Shared}
theorem TxSet.at {h h' : Heap} {a : Addr} {ks : List Str} (x : TxSet prog w h a ks) (e : ∀ o, h.get? a = some o → h'.get? a = some o) : TxSet prog w h' a ks := by
  obtain ⟨o, es, ep, t, ho, r⟩ := x
  exact ⟨o, es, ep, t, e _ ho, r⟩
theorem key_is {es : Array (Int × Value)} (h : ElemsOf (strKind prog w) es.toList) {e : Int × Value} (he : e ∈ es.toList) (k : Str) : (strKind prog w).is k e.2 = true ↔ keyOf e = k := by
  obtain ⟨⟨k', hk', _⟩, _⟩ := h e he
  obtain ⟨t, et⟩ := Value.isStrOf_shape hk'
  have ek : keyOf e = k' := by unfold keyOf; rw [et]
  constructor
  · intro z
    rw [ek]
    exact (strKind prog w).inj e.2 k' k hk' z
  · intro z
    rw [← z, ek]
    exact hk'
theorem mem_keys {es : Array (Int × Value)} {ks : List Str} (h : ElemsOf (strKind prog w) es.toList) (p : (es.toList.map keyOf).Perm ks) (k : Str) : k ∈ ks ↔ ∃ e ∈ es.toList, (strKind prog w).is k e.2 = true := by
  rw [← p.mem_iff, List.mem_map]
  exact ⟨fun ⟨e, he, z⟩ => ⟨e, he, (key_is h he k).mpr z⟩, fun ⟨e, he, z⟩ => ⟨e, he, (key_is h he k).mp z⟩⟩
theorem tx_len {es : Array (Int × Value)} {t : SetTable} {ks : List Str} (x : TxData prog w es t ks) : es.size = ks.length := by
  rw [← x.2.1.length_eq, List.length_map, Array.length_toList]
theorem tx_add {a : Addr} {ks : List Str} {k : Str} {tk : Tok} {Q : Bool → Shared → Prop} (hS : TxSet prog w s.heap a ks) (hroom : ks.length + 1 < scanBound)
    (h : ∀ h' r, Heap.SameBut a s.heap h' → TxSet prog w h' a (if k ∈ ks then ks else ks ++ [k]) → Q r { s with heap := h' }) :
    wpAny (model prog w) A (setAddHashed a (.str k tk) (hashStr w k)) Q E s := by
  obtain ⟨o, es, ep, t, ho, hex, hd, X⟩ := hS
  have hlen := tx_len X
  obtain ⟨hel, hp, hb, hf, hled, hpl⟩ := X
  have hkey : (strKind prog w).is k (.str k tk) = true := by show Value.isStrOf k (.str k tk) = true; simp [Value.isStrOf]
  have hsc : (Value.str k tk).scannable = true := rfl
  have hh : hashStr w k = (strKind prog w).hash k := rfl
  rw [hh]
  unfold setAddHashed setAddHashedIn
  refine wpAny_holding (wpAny_bind (wpAny_setState_of ho hd hf ?_))
  dsimp only
  rw [byScan_of (knd := strKind prog w) hsc hb hel]
  simp only [↓reduceIte]
  unfold setAddByScan
  refine wpAny_bind (wpAny_bind (wpAny_rule (wpAny_bind (wpAny_setScan_of (knd := strKind prog w) hkey ho hd hf hel ?_))))
  cases hr : List.findIdx? (fun e => (strKind prog w).is k e.2) es.toList with
  | some j =>
    obtain ⟨hj, hpj, _⟩ := List.findIdx?_eq_some_iff_getElem.mp hr
    have hk : k ∈ ks := (mem_keys hel hp k).mpr ⟨es.toList[j], List.getElem_mem hj, hpj⟩
    have := h s.heap false (Heap.SameBut.refl a s.heap) (by rw [if_pos hk]; exact ⟨o, es, ep, t, ho, hex, hd, hel, hp, hb, hf, hled, hpl⟩)
    exact wpAny_pure (wpAny_pure this)
  | none =>
    have hk : k ∉ ks := fun z => by
      obtain ⟨e, he, q⟩ := (mem_keys hel hp k).mp z
      have := List.findIdx?_eq_none_iff.mp hr e he
      rw [q] at this; cases this
    rw [if_neg hk] at h
    have hgw : ∀ (b : Bool) {s₁ : Shared} {Q' : Unit → Shared → Prop}, Q' () s₁ → wpAny (model prog w) A (match b with | true => rule "set.scan.the-table-gave-way" | false => pure ()) Q' E s₁ := by
      intro b s₁ Q' hq
      cases b
      · exact wpAny_pure hq
      · exact wpAny_rule hq
    have hperm := layNew_perm t es ((strKind prog w).hash k) (.str k tk)
    have hfits := layNew_fits t es ((strKind prog w).hash k) (.str k tk)
    have hmk := layNew_marks t es ((strKind prog w).hash k) (.str k tk)
    dsimp only
    generalize layNew t es ((strKind prog w).hash k) (.str k tk) = L at hperm hfits hmk ⊢
    obtain ⟨es1, t1, wd, gave⟩ := L
    dsimp only at hperm hfits hmk ⊢
    rw [Array.toList_push] at hperm
    have hsz : es1.size = es.size + 1 := by rw [← Array.length_toList, hperm.length_eq, List.length_append, Array.length_toList]; rfl
    have hel1 : ElemsOf (strKind prog w) es1.toList := (hel.push hkey hsc).perm hperm
    have hp1 : (es1.toList.map keyOf).Perm (ks ++ [k]) := by
      refine (hperm.map keyOf).trans ?_
      rw [List.map_append]
      exact hp.append (List.Perm.refl _)
    have hb1 : es1.size < scanBound := by omega
    refine wpAny_bind (hgw _ ?_)
    -- the mark behind: plain no more
    have tail : ∀ (t2 : SetTable), t2.fits es1.size = true → t2.led = t.led → t2.plain = false → wpAny (model prog w) A (do
        storeSet a es1 t2
        if (!wd && t2.tooFull) = true then do
            (match (relayAll t2 es1 (SetTable.grown es1.size)).2.2 with | true => rule "set.scan.the-table-gave-way" | false => pure ())
            storeSet a (relayAll t2 es1 (SetTable.grown es1.size)).1 (relayAll t2 es1 (SetTable.grown es1.size)).2.1
            pure (some true)
          else pure (some true)) (fun r s' => r = some true ∧ Q true s') E s := by
      intro t2 hf2 hl2 hp2
      refine wpAny_bind (wpAny_storeSet_of ho hd ?_ (fits_of_scanBound hb1))
      have sb1 := Heap.SameBut.update s.heap a (Obj.putSet es1 t2)
      have ho1 : (s.heap.update a (Obj.putSet es1 t2)).get? a = some { o with data := .set es1 (ep + 1) t2 } := by
        have := Heap.get?_update_self (Obj.putSet es1 t2) ho (by rw [putSet_of es1 t2 hd]; rfl)
        rw [putSet_of es1 t2 hd] at this; exact this
      split
      · have hpR := relayAll_perm t2 es1 (SetTable.grown es1.size)
        have hfR := relayAll_fits t2 es1 (SetTable.grown es1.size)
        have hmR := relayAll_marks t2 es1 (SetTable.grown es1.size)
        generalize relayAll t2 es1 (SetTable.grown es1.size) = Rl at hpR hfR hmR ⊢
        obtain ⟨es2, t3, gv⟩ := Rl
        dsimp only at hpR hfR hmR ⊢
        have hsz2 : es2.size = es1.size := by rw [← Array.length_toList, hpR.length_eq, Array.length_toList]
        refine wpAny_bind (hgw _ (wpAny_bind (wpAny_storeSet_of ho1 rfl ?_ (fits_of_scanBound (by omega)))))
        have ho2 : ((s.heap.update a (Obj.putSet es1 t2)).update a (Obj.putSet es2 t3)).get? a = some { o with data := .set es2 (ep + 1 + 1) t3 } := by
          have := Heap.get?_update_self (Obj.putSet es2 t3) ho1 (by rw [putSet_of es2 t3 rfl]; rfl)
          rw [putSet_of es2 t3 rfl] at this; exact this
        exact wpAny_pure ⟨rfl, h _ true (sb1.trans (Heap.SameBut.update _ a _)) ⟨_, es2, _, t3, ho2, hex, rfl, hel1.perm hpR, ((hpR.map keyOf)).trans hp1, by omega, hfR, hmR.1.trans (hl2.trans hled), fun _ => hmR.2 hp2⟩⟩
      · exact wpAny_pure ⟨rfl, h _ true sb1 ⟨_, es1, _, t2, ho1, hex, rfl, hel1, hp1, hb1, hf2, hl2.trans hled, fun _ => hp2⟩⟩
    split
    · refine wpAny_bind ?_
      rw [hashByValue_scannable 8 hsc]
      refine wpAny_pure ?_
      refine wpAny_mono (tail { t1 with plain := false } (SetTable.fits_plain_off hfits) hmk.1 rfl) (fun r s' q => ?_) fun _ _ z => z
      obtain ⟨rfl, q⟩ := q
      exact wpAny_pure q
    · rename_i hpf
      refine wpAny_bind (wpAny_pure ?_)
      simp only [↓reduceIte]
      refine wpAny_mono (tail t1 hfits hmk.1 (by simpa using hpf)) (fun r s' q => ?_) fun _ _ z => z
      obtain ⟨rfl, q⟩ := q
      exact wpAny_pure q
def step (ks : List Str) (k : Str) : List Str := if k ∈ ks then ks else ks ++ [k]
/-- each text once, as it came first -/
def uniq (xs : List Str) : List Str := xs.foldl step []
theorem uniq_snoc (xs : List Str) (k : Str) : uniq (xs ++ [k]) = step (uniq xs) k := by unfold uniq; rw [List.foldl_append]; rfl
theorem step_len (ks : List Str) (k : Str) : (step ks k).length ≤ ks.length + 1 := by unfold step; split <;> simp
theorem uniq_len : ∀ (n : Nat) (xs : List Str), xs.length = n → (uniq xs).length ≤ n
  | 0, xs, h => by rw [List.eq_nil_of_length_eq_zero h]; exact Nat.le_refl _
  | n + 1, xs, h => by
    have hne : xs ≠ [] := fun z => by rw [z] at h; cases h
    rw [← List.dropLast_concat_getLast hne, uniq_snoc]
    have := uniq_len n xs.dropLast (by rw [List.length_dropLast]; omega)
    have := step_len (uniq xs.dropLast) (xs.getLast hne)
    omega
theorem uniq_take {xs : List Str} {i : Nat} {k : Str} (h : xs[i]? = some k) : uniq (xs.take (i + 1)) = if k ∈ uniq (xs.take i) then uniq (xs.take i) else uniq (xs.take i) ++ [k] := by
  have e : xs.take (i + 1) = xs.take i ++ [k] := by rw [List.take_add_one, h]; rfl
  rw [e, uniq_snoc]; rfl
end
section
variable {prog : Program} {w : World} {A : Around} {R : Result → Shared → Prop} {I : Addr} {fp wr : List Addr} {G : Array GenState → Array GenState → Prop} {n : Nat} {P : Nat → Value → Prop} {St : Nat → Shared → Prop}
theorem tx_loop (W : WalksS prog w A.in1 I fp wr G n P St) (S : Addr) (hSf : S ∉ fp) (xs : List Str) (hn : xs.length = n) (hval : ∀ i v, P i v → ∃ k t, xs[i]? = some k ∧ v = .str k t) (hb : n + 1 < scanBound) :
    ∀ (m i : Nat) (s : Shared), n - i = m → i ≤ n → St i s → TxSet prog w s.heap S (uniq (xs.take i)) →
      (∀ s', Moved (S :: wr) G s s' → TxSet prog w s'.heap S (uniq xs) → R (.ok (.ret .none)) s') → codeAny (model prog w) A (.builtin "set.update.loop" ⟨[.ref S, .ref I], []⟩) R s := by
  have hSw : S ∉ wr := fun h => hSf (W.sub _ h)
  have hsub : ∀ b ∈ wr, b ∈ S :: wr := fun b hb => List.mem_cons_of_mem _ hb
  intro m
  induction m with
  | zero =>
    intro i s hk hi hst hS hR
    have hin : i = n := by omega
    subst hin
    refine codeAny_builtin PyProof.Rows.F.entry_set_update_loop ?_
    rw [Around.under_plainId PyProof.Rows.F.plain_set_update_loop _]
    show wpAny _ A.in1 (pyNext (.ref I) >>= _) _ _ s
    refine wpAny_bind (W.done s _ _ hst fun s' hm => ?_)
    show wpAny _ A.in1 (ret Value.none) _ _ s'
    rw [← hn, List.take_length] at hS
    exact wpAny_pure (hR s' (hm.mono hsub) (hS.at fun o e => hm.heap S _ hSw e))
  | succ m ih =>
    intro i s hk hi hst hS hR
    have hlt : i < n := by omega
    refine codeAny_builtin PyProof.Rows.F.entry_set_update_loop ?_
    rw [Around.under_plainId PyProof.Rows.F.plain_set_update_loop _]
    show wpAny _ A.in1 (pyNext (.ref I) >>= _) _ _ s
    refine wpAny_bind (W.item i s _ _ hlt hst fun v s' hP hst' hm => ?_)
    obtain ⟨k, t, hxk, rfl⟩ := hval i v hP
    have hS' := hS.at (h' := s'.heap) fun o e => hm.heap S _ hSw e
    show wpAny _ A.in1 (holding [Value.str k t] (setAdd S (.str k t)) >>= _) _ _ s'
    refine wpAny_bind (wpAny_holding ?_)
    unfold setAdd
    refine wpAny_holding ?_
    refine wpAny_bind ((strKind prog w).pyHash (k := k) (by show Value.isStrOf k (.str k t) = true; simp [Value.isStrOf]) ?_)
    have hl := uniq_len _ (xs.take i) rfl
    rw [List.length_take] at hl
    refine tx_add (s := { s' with toks := s'.toks + 1 }) hS' (by omega) fun h' r hsb hS2 => ?_
    rw [← uniq_take hxk] at hS2
    refine wpAny_pure ⟨plainId_quiet PyProof.Rows.F.plain_set_update_loop _, ih (i + 1) _ (by omega) hlt (W.frame _ s' _ _ hst' (Nat.le_succ _) fun b hb o e => ?_) hS2 fun s'' hm'' hS'' => ?_⟩
    · rw [hsb.2 b (fun h : b = S => hSf (by rw [← h]; exact hb))]; exact e
    · refine hR s'' (Moved.trans W.gtrans ((hm.mono hsub).then_heap (Nat.le_succ _) fun b o hb e => ?_) hm'') hS''
      rw [hsb.2 b (fun h : b = S => hb (by rw [h]; exact List.mem_cons_self))]; exact e
end
section
variable {prog : Program} {w : World} {A : Around} {E : Value → Shared → Prop} {s : Shared}
def freshSet (w : World) : Obj := { cls := .type "set", dict := none, data := .set #[] 0 (.fresh 0 0 (!(w.params.followText "set-order"))) }
theorem tx_fresh {h : Heap} {a : Addr} {xs : List Str} (e : h.get? a = some (freshSet w)) : TxSet prog w h a (uniq (xs.take 0)) :=
  ⟨_, #[], 0, _, e, ⟨rfl, rfl, rfl⟩, rfl, fun _ z => by simp at z, List.Perm.refl _, by decide, by rfl, rfl, fun z => absurd rfl z⟩
theorem set_new (a : Value) {Q₁ : Value → Shared → Prop} (h : Q₁ (.ref s.heap.objs.size) { s with heap := s.heap.push (freshSet w) }) :
    codeAny (model prog w) A (.call (.builtin "set.__new__") ⟨[.type "set", a], []⟩) (wants Q₁ E) s := by
  refine codeAny_of_tree ?_
  show wpAny _ A.in1 (do checkBuiltinCall "set.__new__" ⟨[.type "set", a], []⟩; again (.builtin "set.__new__" ⟨[.type "set", a], []⟩)) _ _ s
  refine wpAny_bind (wpAny_of_eq (F.newCall_set_1 a) (wpAny_pure ⟨plainId_quiet F.plain_set_new _, codeAny_builtin F.entry_set_new ?_⟩))
  rw [Around.under_plainId F.plain_set_new _]
  unfold Builtin.«set.__new__» Builtin.Frozenset.newClass
  have hsub := sub_set_self
  obtain ⟨hp, g, d, tk, os⟩ := s
  dsimp only
  wp_walk
  refine wpAny_askSetting (wpAny_pure ?_)
  dsimp only
  simp only [newObj]
  refine wpAny_bind (wpAny_alloc (wpAny_pure ?_))
  exact wpAny_pure h
theorem sub_list_set : isSubtype (.type "list") (.type "set") = pure false := by rw [isSubtype_type]; kernel_rfl
theorem sub_list_frozenset : isSubtype (.type "list") (.type "frozenset") = pure false := by rw [isSubtype_type]; kernel_rfl
theorem sub_tuple_set : isSubtype (.type "tuple") (.type "set") = pure false := by rw [isSubtype_type]; kernel_rfl
theorem sub_tuple_frozenset : isSubtype (.type "tuple") (.type "frozenset") = pure false := by rw [isSubtype_type]; kernel_rfl
end
end AxS

set_option Elab.async false
set_option linter.all false
set_option maxRecDepth 100000
set_option maxHeartbeats 4000000
/-! a set of texts, walked: in an order that is drawn -/
namespace AxS
open PySem PySem.Spec PyProof.Rows
section
variable {M : Model} {A : Around} {E : Value → Shared → Prop} {s : Shared}
theorem wpAny_choose {src : Source} {n : Nat} {Q : Nat → Shared → Prop} (hn : n ≠ 0) (h : ∀ i, i < n → Q i { s with drawn := s.drawn.bump src }) : wpAny M A (choose src n) Q E s :=
  fun Γ p _ => ⟨hn, h _ (Nat.mod_lt _ (Nat.pos_of_ne_zero hn))⟩
theorem perm_erase {α : Type} {xs : List α} {i : Nat} {x : α} (h : xs[i]? = some x) : (x :: xs.eraseIdx i).Perm xs := by
  induction xs generalizing i with
  | nil => cases h
  | cons y ys ih =>
    cases i with
    | zero =>
      have h : y = x := Option.some.inj h
      subst h
      exact List.Perm.refl _
    | succ i =>
      have h : ys[i]? = some x := by simpa using h
      show (x :: y :: ys.eraseIdx i).Perm (y :: ys)
      exact (List.Perm.swap y x _).trans (List.Perm.cons y (ih h))
theorem wpAny_drawOrder {α : Type} : ∀ (n : Nat) (xs : List α) (s : Shared) {Q : List α → Shared → Prop}, xs.length ≤ n → (∀ ys d, ys.Perm xs → Q ys { s with drawn := d }) → wpAny M A (drawOrder n xs) Q E s
  | 0, xs, s, Q, hl, h => by
    have e : xs = [] := List.eq_nil_of_length_eq_zero (by omega)
    subst e
    exact wpAny_pure (h [] s.drawn (List.Perm.refl _))
  | n + 1, [], s, Q, hl, h => wpAny_pure (h [] s.drawn (List.Perm.refl _))
  | n + 1, x :: xs, s, Q, hl, h => by
    refine wpAny_bind (wpAny_choose (by simp) fun i hi => ?_)
    have hx : (x :: xs)[i]? = some ((x :: xs)[i]) := List.getElem?_eq_getElem hi
    have hp := perm_erase hx
    show wpAny M A (match (x :: xs)[i]? with | some x_1 => _ | none => _) Q E _
    rw [hx]
    refine wpAny_bind (wpAny_drawOrder n _ _ (by rw [List.length_eraseIdx_of_lt hi]; simp at hl ⊢; omega) fun ys d hy => ?_)
    exact wpAny_pure (h _ d ((List.Perm.cons _ hy).trans hp))
theorem pick_go {α : Type} (next : Nat → Nat) : ∀ (fuel k : Nat) (left : List α) (out : Array α), left.length = fuel → (pickOrder.go next fuel k left out).toList.Perm (out.toList ++ left)
  | 0, k, left, out, h => by
    rw [List.eq_nil_of_length_eq_zero h, List.append_nil]
    exact List.Perm.refl _
  | fuel + 1, k, left, out, h => by
    unfold pickOrder.go
    have hlt : next k % left.length < left.length := Nat.mod_lt _ (by omega)
    have hx : left[next k % left.length]? = some (left[next k % left.length]) := List.getElem?_eq_getElem hlt
    rw [hx]
    refine (pick_go next fuel (k + 1) _ _ (by rw [List.length_eraseIdx_of_lt hlt]; omega)).trans ?_
    rw [Array.toList_push, List.append_assoc]
    exact List.Perm.append_left _ (perm_erase hx)
theorem pick_perm {α : Type} (next : Nat → Nat) (xs : Array α) : (pickOrder next xs).toList.Perm xs.toList := by
  have := pick_go next xs.size 0 xs.toList #[] (by simp)
  simpa [pickOrder] using this
end
section
variable {prog : Program} {w : World} {A : Around} {E : Value → Shared → Prop} {s : Shared}
def byText (w : World) : Bool := w.params.followText "set-order"
theorem wpAny_setDrawn {a : Addr} {o : Obj} {es : Array (Int × Value)} {ep : Nat} {t : SetTable} {Q : Bool → Shared → Prop} (ho : s.heap.get? a = some o) (hd : o.data = .set es ep t) (hf : t.fits es.size = true)
    (h : Q (!byText w && (!t.plain && decide (es.size > 1))) s) : wpAny (model prog w) A (setDrawn a) Q E s := by
  unfold setDrawn setsByText
  refine wpAny_bind (wpAny_setState_of ho hd hf ?_)
  refine wpAny_bind (wpAny_bind (wpAny_askSetting (wpAny_pure ?_)))
  exact wpAny_pure h
theorem entry_iter : entryFor table "set.__iter__" = some Builtin.«frozenset.__iter__» :=
  entryFor_alias (id' := "frozenset.__iter__") (by kernel_rfl) (by first | rfl | decide +kernel | (unfold String.splitOn; simp +decide [String.splitOnAux])) (by decide +kernel) (by kernel_rfl)
theorem owner_si : Manifest.owners.lookup (String.ofList ['r', 'o', 't', 'a', 'r', 'e', 't', 'i', '_', 't', 'e', 's'].reverse) = some Manifest.sig_set_iterator := by kernel_rfl
theorem slot_next : Slot "set_iterator" "__next__" "set_iterator.__next__" :=
  .of (owner := "set_iterator") (n := "__next__") (by rw [typeLookup_type, builtinLookup_eq_fast]; kernel_rfl) (by decide +kernel) (by decide +kernel) (by decide +kernel)
    (by first | exact .inl (by decide +kernel) | exact .inr (by decide +kernel)) (by rw [isSubtype_type]; kernel_rfl)
theorem entry_next : entryFor table "set_iterator.__next__" = some Builtin.«set_iterator.__next__» := entryFor_of_tree (by kernel_rfl)
theorem args_next (a : Value) : argsOk "set_iterator.__next__" ⟨[a], []⟩ := by
  unfold argsOk; rw [signature?_of (id := "set_iterator.__next__") (n := ['_', '_', 't', 'x', 'e', 'n', '_', '_']) (o := ['r', 'o', 't', 'a', 'r', 'e', 't', 'i', '_', 't', 'e', 's']) (by kernel_rfl) owner_si]; kernel_rfl
theorem slot_itself : Slot "set_iterator" "__iter__" "set_iterator.__iter__" :=
  .of (owner := "set_iterator") (n := "__iter__") (by rw [typeLookup_type, builtinLookup_eq_fast]; kernel_rfl) (by decide +kernel) (by decide +kernel) (by decide +kernel)
    (by first | exact .inl (by decide +kernel) | exact .inr (by decide +kernel)) (by rw [isSubtype_type]; kernel_rfl)
theorem args_itself (a : Value) : argsOk "set_iterator.__iter__" ⟨[a], []⟩ := by
  unfold argsOk; rw [signature?_of (id := "set_iterator.__iter__") (n := ['_', '_', 'r', 'e', 't', 'i', '_', '_']) (o := ['r', 'o', 't', 'a', 'r', 'e', 't', 'i', '_', 't', 'e', 's']) (by kernel_rfl) owner_si]; kernel_rfl
theorem entry_itself : entryFor table "set_iterator.__iter__" = some Builtin.«dict_keyiterator.__iter__» :=
  entryFor_alias (id' := "dict_keyiterator.__iter__") (by kernel_rfl) (by first | rfl | decide +kernel | (unfold String.splitOn; simp +decide [String.splitOnAux])) (by decide +kernel) (by kernel_rfl)
end
end AxS

set_option Elab.async false
set_option linter.all false
set_option maxRecDepth 100000
set_option maxHeartbeats 4000000
namespace AxS
open PySem PySem.Spec PyProof.Rows
section
variable {prog : Program} {w : World} {A : Around} {E : Value → Shared → Prop} {s : Shared}
/-- an iterator of the set a -/
def itO (first : Value) (i : Int) (a : Addr) (n ep : Nat) : Obj := { cls := .type "set_iterator", data := .fields #[first, rawInt i, .ref a, rawInt n, rawInt ep] }
theorem iter_set {a : Addr} {o : Obj} {es : Array (Int × Value)} {ep : Nat} {t : SetTable} {Q : Value → Shared → Prop} (ho : s.heap.get? a = some o) (hx : o.ExactSet) (hd : o.data = .set es ep t) (hf : t.fits es.size = true) (hz : es.size ≤ 1000)
    (h1 : (!byText w && (!t.plain && decide (es.size > 1))) = false → Q (.ref s.heap.objs.size) { s with heap := s.heap.push (itO (rawInt 0) 0 a es.size ep) })
    (h2 : (!byText w && (!t.plain && decide (es.size > 1))) = true → ∀ (ps : List Nat) d tk, ps.Perm (List.range es.size) → Q (.ref (s.heap.objs.size + 1)) { s with heap := (s.heap.push { cls := .type "tuple", data := .seq (ps.map fun i => rawInt (i : Nat)).toArray }).push (itO (.ref s.heap.objs.size) 0 a es.size ep), drawn := d, toks := tk }) :
    wpAny (model prog w) A (pyIter (.ref a)) Q E s := by
  have hT : s.TypeIs (.ref a) "set" := ⟨o, ho, hx.1⟩
  refine wpAny_pyIter_slot hT PySem.F.slot_set_iter (wpAny_call_entry PySem.F.slot_set_iter hT entry_iter ?_ (PySem.F.args_set_iter_1 _))
  unfold Builtin.«frozenset.__iter__»
  refine wpAny_bind (m := Builtin.Frozenset.slot0 _ _) (wpAny_of_eq (a := a) rfl ?_)
  unfold Builtin.Frozenset.sizeOf
  refine wpAny_bind (wpAny_bind (wpAny_setEntries_of ho hd hf (wpAny_pure ?_)))
  refine wpAny_bind (wpAny_setDrawn ho hd hf ?_)
  cases q : (!byText w && (!t.plain && decide (es.size > 1))) with
  | false =>
    rw [if_neg (by decide)]
    refine wpAny_bind (wpAny_pure (wpAny_bind (wpAny_setEpoch_of ho hd hf ?_)))
    simp only [newFields]
    refine wpAny_bind (wpAny_newObj_type ?_)
    exact wpAny_pure ⟨_, rfl, "set_iterator", _, ⟨_, Heap.get?_push_size _ rfl, rfl⟩, slot_next.lookup, h1 q⟩
  | true =>
    rw [if_pos rfl]
    refine wpAny_bind (wpAny_drawOrder es.size (List.range es.size) s (by rw [List.length_range]; exact Nat.le_refl _) fun ps d hp => ?_)
    have pl : ps.length = es.size := by rw [hp.length_eq, List.length_range]
    simp only [newTuple]
    refine wpAny_bind (wpAny_newObj_type ?_ ?_)
    · have ho' : (s.heap.push { cls := .type "tuple", data := .seq (ps.map fun i => rawInt (i : Nat)).toArray }).get? a = some o := Heap.get?_push_of_some _ ho
      refine wpAny_bind (wpAny_setEpoch_of (s := { s with heap := s.heap.push { cls := .type "tuple", data := .seq (ps.map fun i => rawInt (i : Nat)).toArray }, drawn := d }) ho' hd hf ?_)
      simp only [newFields]
      refine wpAny_bind (wpAny_newObj_type ?_)
      have e : (s.heap.push { cls := .type "tuple", data := .seq (ps.map fun i => rawInt (i : Nat)).toArray }).objs.size = s.heap.objs.size + 1 := Heap.size_push _ _
      refine wpAny_pure ⟨_, rfl, "set_iterator", _, ⟨_, Heap.get?_push_size _ rfl, rfl⟩, slot_next.lookup, ?_⟩
      have := h2 q ps d s.toks hp
      rw [← e] at this
      exact this
    · show (ps.map fun i => rawInt (i : Nat)).toArray.size ≤ sizeLine
      rw [List.size_toArray, List.length_map, pl, sizeLine_eq]
      omega
theorem it_type {it : Addr} {f : Value} {i : Int} {a : Addr} {n ep : Nat} (h : s.heap.get? it = some (itO f i a n ep)) : s.TypeIs (.ref it) "set_iterator" := ⟨_, h, rfl⟩
/-- one more -/
theorem next_slot {it a : Addr} {o : Obj} {es : Array (Int × Value)} {ep : Nat} {t : SetTable} {slot i slot' : Nat} {x : Value} {Q : Option Value → Shared → Prop} (hit : s.heap.get? it = some (itO (rawInt slot) i a es.size ep)) (hne : a ≠ it) (ho : s.heap.get? a = some o) (hd : o.data = .set es ep t) (hf : t.fits es.size = true)
    (hn : ∀ (A : Around) (E : Value → Shared → Prop) (Q : Option (Value × Nat) → Shared → Prop), Q (some (x, slot')) s → wpAny (model prog w) A (setNext a slot i ep) Q E s)
    (h : ∀ h', h'.get? it = some (itO (rawInt slot') (i + 1) a es.size ep) → Heap.SameBut it s.heap h' → Q (some x) { s with heap := h' }) : wpAny (model prog w) A (pyNext (.ref it)) Q E s := by
  unfold pyNext
  refine wpAny_bind (wpAny_attempt (wpAny_callSpecial?_slot (name := Str.ofString "__next__") (it_type hit) slot_next
    (wpAny_call_entry slot_next (it_type hit) entry_next ?_ (args_next _))))
  unfold Builtin.«set_iterator.__next__»
  refine wpAny_bind (wpAny_of_eq (a := (Value.ref it, [])) rfl ?_)
  refine wpAny_bind (wpAny_fieldsOf hit rfl ?_)
  show wpAny _ _ (setEntries a >>= _) _ _ s
  refine wpAny_bind (wpAny_setEntries_of ho hd hf ?_)
  have e1 : (((es.size : Nat) : Int) != ((es.size : Nat) : Int)) = false := by simp
  rw [if_neg (by rw [e1]; decide)]
  show wpAny _ _ (setNext a slot i ep >>= _) _ _ s
  refine wpAny_bind (hn _ _ _ ?_)
  show wpAny _ _ (setField (.ref it) 0 (rawInt slot') >>= _) _ _ s
  refine wpAny_bind (wpAny_setField hit rfl (by simp) ?_)
  have h1 := Heap.get?_update_self (Obj.mapFields (·.setIfInBounds 0 (rawInt (slot' : Nat)))) hit rfl
  refine wpAny_bind (wpAny_setField h1 rfl (by simp) ?_)
  have h2 := Heap.get?_update_self (Obj.mapFields (·.setIfInBounds 1 (rawInt ((i : Int) + 1)))) h1 rfl
  exact wpAny_pure ⟨x, rfl, wpAny_pure (h _ h2 ((Heap.SameBut.update ..).trans (Heap.SameBut.update ..)))⟩
/-- no more -/
theorem next_slot_end {it a : Addr} {o : Obj} {es : Array (Int × Value)} {ep : Nat} {t : SetTable} {slot i : Nat} {Q : Option Value → Shared → Prop} (hh : A.handled = none) (hit : s.heap.get? it = some (itO (rawInt slot) i a es.size ep)) (ho : s.heap.get? a = some o) (hd : o.data = .set es ep t) (hf : t.fits es.size = true)
    (hn : ∀ (A : Around) (E : Value → Shared → Prop) (Q : Option (Value × Nat) → Shared → Prop), Q none s → wpAny (model prog w) A (setNext a slot i ep) Q E s)
    (h : ∀ h', Heap.ExtBut it s.heap h' → Q none { s with heap := h' }) : wpAny (model prog w) A (pyNext (.ref it)) Q E s := by
  unfold pyNext
  refine wpAny_bind (wpAny_attempt (wpAny_callSpecial?_slot (name := Str.ofString "__next__") (it_type hit) slot_next
    (wpAny_call_entry slot_next (it_type hit) entry_next ?_ (args_next _))))
  unfold Builtin.«set_iterator.__next__»
  refine wpAny_bind (wpAny_of_eq (a := (Value.ref it, [])) rfl ?_)
  refine wpAny_bind (wpAny_fieldsOf hit rfl ?_)
  show wpAny _ _ (setEntries a >>= _) _ _ s
  refine wpAny_bind (wpAny_setEntries_of ho hd hf ?_)
  have e1 : (((es.size : Nat) : Int) != ((es.size : Nat) : Int)) = false := by simp
  rw [if_neg (by rw [e1]; decide)]
  show wpAny _ _ (setNext a slot i ep >>= _) _ _ s
  refine wpAny_bind (hn _ _ _ ?_)
  show wpAny _ _ (setField (.ref it) 2 .none >>= _) _ _ s
  refine wpAny_bind (wpAny_setField hit rfl (by simp) ?_)
  refine wpAny_bind ?_
  simp only [newExc, newTuple]
  refine wpAny_bind (wpAny_newObj_type ?_ (by size_fits))
  refine wpAny_bind (m := firstArgMember _ _) (wpAny_of_eq (a := Value.none) (by first | rfl | (simp only [firstArgMember]; rfl)) ?_)
  refine wpAny_newObj_type ?_ (by size_fits)
  simp only [raiseNew]
  refine wpAny_bind (wpAny_handled ?_)
  first | rw [show A.in1.handled = none from hh] | rw [hh]
  refine wpAny_bind (wpAny_pure (wpAny_throw ?_))
  refine wpAny_bind (wpAny_isInstance (T := "StopIteration") (b := true) ⟨_, Heap.get?_push_size _ rfl, rfl⟩ isSubtype_stop ?_)
  refine wpAny_pure (h _ ?_)
  refine ((Heap.ExtBut.push ?_ _).push _)
  exact (Heap.SameBut.update ..).extBut
def tupO (ps : List Nat) : Obj := { cls := .type "tuple", data := .seq (ps.map fun i => rawInt (i : Nat)).toArray }
theorem next_drawn {it a u : Addr} {o : Obj} {es : Array (Int × Value)} {ep : Nat} {t : SetTable} {i p : Nat} {ps : List Nat} {e : Int × Value} {Q : Option Value → Shared → Prop} (hit : s.heap.get? it = some (itO (.ref u) i a es.size ep)) (hu : s.heap.get? u = some (tupO ps)) (ho : s.heap.get? a = some o) (hd : o.data = .set es ep t) (hf : t.fits es.size = true)
    (hp : ps[i]? = some p) (he : es[p]? = some e) (h : ∀ h', h'.get? it = some (itO (.ref u) (i + 1) a es.size ep) → Heap.SameBut it s.heap h' → Q (some e.2) { s with heap := h' }) : wpAny (model prog w) A (pyNext (.ref it)) Q E s := by
  unfold pyNext
  refine wpAny_bind (wpAny_attempt (wpAny_callSpecial?_slot (name := Str.ofString "__next__") (it_type hit) slot_next
    (wpAny_call_entry slot_next (it_type hit) entry_next ?_ (args_next _))))
  unfold Builtin.«set_iterator.__next__»
  refine wpAny_bind (wpAny_of_eq (a := (Value.ref it, [])) rfl ?_)
  refine wpAny_bind (wpAny_fieldsOf hit rfl ?_)
  show wpAny _ _ (setEntries a >>= _) _ _ s
  refine wpAny_bind (wpAny_setEntries_of ho hd hf ?_)
  have e1 : (((es.size : Nat) : Int) != ((es.size : Nat) : Int)) = false := by simp
  rw [if_neg (by rw [e1]; decide)]
  show wpAny _ _ (seqItems? (.ref u) >>= _) _ _ s
  refine wpAny_bind (wpAny_seqItems hu rfl ?_)
  have hpi : (ps.map fun i => rawInt ((i : Nat) : Int)).toArray[i]? = some (rawInt (p : Nat)) := by
    rw [List.getElem?_toArray, List.getElem?_map, hp]; rfl
  show wpAny _ _ (match (ps.map fun i => rawInt ((i : Nat) : Int)).toArray[i]? with | some (.int place _) => _ | some _ => _ | none => _) _ _ s
  rw [hpi]
  show wpAny _ _ (setNextDrawn a p ep >>= _) _ _ s
  unfold setNextDrawn
  refine wpAny_bind (wpAny_bind (wpAny_setState_of ho hd hf ?_))
  have e2 : (ep != ep) = false := by simp
  dsimp only
  rw [if_neg (by rw [e2]; decide)]
  rw [he]
  refine wpAny_pure ?_
  show wpAny _ _ (setField (.ref it) 1 (rawInt ((i : Int) + 1)) >>= _) _ _ s
  refine wpAny_bind (wpAny_setField hit rfl (by simp) ?_)
  have h2 := Heap.get?_update_self (Obj.mapFields (·.setIfInBounds 1 (rawInt ((i : Int) + 1)))) hit rfl
  exact wpAny_pure ⟨e.2, rfl, wpAny_pure (h _ h2 (Heap.SameBut.update ..))⟩
theorem next_drawn_end {it a u : Addr} {o : Obj} {es : Array (Int × Value)} {ep : Nat} {t : SetTable} {i : Nat} {ps : List Nat} {Q : Option Value → Shared → Prop} (hh : A.handled = none) (hit : s.heap.get? it = some (itO (.ref u) i a es.size ep)) (hu : s.heap.get? u = some (tupO ps)) (ho : s.heap.get? a = some o) (hd : o.data = .set es ep t) (hf : t.fits es.size = true)
    (hp : ps[i]? = none) (h : ∀ h', Heap.ExtBut it s.heap h' → Q none { s with heap := h' }) : wpAny (model prog w) A (pyNext (.ref it)) Q E s := by
  unfold pyNext
  refine wpAny_bind (wpAny_attempt (wpAny_callSpecial?_slot (name := Str.ofString "__next__") (it_type hit) slot_next
    (wpAny_call_entry slot_next (it_type hit) entry_next ?_ (args_next _))))
  unfold Builtin.«set_iterator.__next__»
  refine wpAny_bind (wpAny_of_eq (a := (Value.ref it, [])) rfl ?_)
  refine wpAny_bind (wpAny_fieldsOf hit rfl ?_)
  show wpAny _ _ (setEntries a >>= _) _ _ s
  refine wpAny_bind (wpAny_setEntries_of ho hd hf ?_)
  have e1 : (((es.size : Nat) : Int) != ((es.size : Nat) : Int)) = false := by simp
  rw [if_neg (by rw [e1]; decide)]
  show wpAny _ _ (seqItems? (.ref u) >>= _) _ _ s
  refine wpAny_bind (wpAny_seqItems hu rfl ?_)
  have hpi : (ps.map fun i => rawInt ((i : Nat) : Int)).toArray[i]? = none := by
    rw [List.getElem?_toArray, List.getElem?_map, hp]; rfl
  show wpAny _ _ (match (ps.map fun i => rawInt ((i : Nat) : Int)).toArray[i]? with | some (.int place _) => _ | some _ => _ | none => _) _ _ s
  rw [hpi]
  show wpAny _ _ (setField (.ref it) 0 (rawInt 0) >>= _) _ _ s
  refine wpAny_bind (wpAny_setField hit rfl (by simp) ?_)
  have h1 := Heap.get?_update_self (Obj.mapFields (·.setIfInBounds 0 (rawInt 0))) hit rfl
  refine wpAny_bind (wpAny_setField h1 rfl (by simp) ?_)
  refine wpAny_bind ?_
  simp only [newExc, newTuple]
  refine wpAny_bind (wpAny_newObj_type ?_ (by size_fits))
  refine wpAny_bind (m := firstArgMember _ _) (wpAny_of_eq (a := Value.none) (by first | rfl | (simp only [firstArgMember]; rfl)) ?_)
  refine wpAny_newObj_type ?_ (by size_fits)
  simp only [raiseNew]
  refine wpAny_bind (wpAny_handled ?_)
  first | rw [show A.in1.handled = none from hh] | rw [hh]
  refine wpAny_bind (wpAny_pure (wpAny_throw ?_))
  refine wpAny_bind (wpAny_isInstance (T := "StopIteration") (b := true) ⟨_, Heap.get?_push_size _ rfl, rfl⟩ isSubtype_stop ?_)
  refine wpAny_pure (h _ ?_)
  refine ((Heap.ExtBut.push ?_ _).push _)
  exact ((Heap.SameBut.update ..).trans (Heap.SameBut.update ..)).extBut
end
end AxS

set_option Elab.async false
set_option linter.all false
set_option maxRecDepth 100000
set_option maxHeartbeats 4000000
namespace AxS
open PySem PySem.Spec PyProof.Rows
section
variable {prog : Program} {w : World} {A : Around} {E : Value → Shared → Prop} {s : Shared} {a : Addr} {o : Obj} {es : Array (Int × Value)} {ep : Nat} {t : SetTable}
theorem setNext_text {slot i : Nat} {Q : Option (Value × Nat) → Shared → Prop} (hb : byText w = true) (ho : s.heap.get? a = some o) (hd : o.data = .set es ep t) (hf : t.fits es.size = true)
    (h : Q (((pickOrder (w.params.setOrder a ep) es)[i]?).map fun e => (e.2, slot)) s) : wpAny (model prog w) A (setNext a slot i ep) Q E s := by
  have hb' : (Setting.mk (model prog w).prog (model prog w).w.params).params.followText "set-order" = true := hb
  unfold setNext setsByText
  refine wpAny_bind (wpAny_setState_of ho hd hf ?_)
  refine wpAny_bind (wpAny_bind (wpAny_askSetting (wpAny_pure ?_)))
  dsimp only
  rw [if_pos hb']
  have e2 : (ep != ep) = false := by simp
  rw [if_neg (by rw [e2]; decide)]
  unfold setWalk setsByText
  refine wpAny_bind (wpAny_bind (wpAny_setState_of ho hd hf ?_))
  refine wpAny_bind (wpAny_bind (wpAny_askSetting (wpAny_pure ?_)))
  dsimp only
  rw [if_pos hb']
  refine wpAny_bind (wpAny_askSetting ?_)
  exact wpAny_pure (wpAny_pure h)
theorem setNext_led {slot i : Nat} {Q : Option (Value × Nat) → Shared → Prop} (hb : byText w = false) (hl : t.led = true) (h1 : es.size ≤ 1) (ho : s.heap.get? a = some o) (hd : o.data = .set es ep t) (hf : t.fits es.size = true)
    (h : Q (match es[SetTable.below t.place slot]?, t.place[SetTable.below t.place slot]? with | some (_, x), some j => some (x, j + 1) | _, _ => none) s) : wpAny (model prog w) A (setNext a slot i ep) Q E s := by
  have hb' : (Setting.mk (model prog w).prog (model prog w).w.params).params.followText "set-order" = false := hb
  have hdr : (!t.plain && decide (es.size > 1)) = false := by rw [decide_eq_false (by omega), Bool.and_false]
  have hml : (!t.led && !es.isEmpty) = false := by rw [hl]; rfl
  unfold setNext setsByText
  refine wpAny_bind (wpAny_setState_of ho hd hf ?_)
  refine wpAny_bind (wpAny_bind (wpAny_askSetting (wpAny_pure ?_)))
  dsimp only
  rw [if_neg (by rw [hb']; decide)]
  refine wpAny_bind (wpAny_pure ?_)
  show wpAny _ _ (if (!t.plain && decide (es.size > 1)) = true then _ else _) _ _ _
  rw [if_neg (by rw [hdr]; decide)]
  refine wpAny_bind ?_
  show wpAny _ _ (if (!t.led && !es.isEmpty) = true then _ else _) _ _ _
  rw [if_neg (by rw [hml]; decide)]
  exact wpAny_pure (wpAny_pure h)
theorem it_self {it : Addr} {f : Value} {i : Int} {n : Nat} {Q : Value → Shared → Prop} (hit : s.heap.get? it = some (itO f i a n ep)) (h : Q (.ref it) s) : wpAny (model prog w) A (pyIter (.ref it)) Q E s := by
  refine wpAny_pyIter_slot (it_type hit) slot_itself (wpAny_call_entry slot_itself (it_type hit) entry_itself ?_ (args_itself _))
  show wpAny _ _ (ret (.ref it)) _ _ s
  exact wpAny_pure ⟨_, rfl, "set_iterator", _, it_type hit, slot_next.lookup, h⟩
theorem walkA (hh : A.handled = none) (I : Addr) (hne : a ≠ I) (hb : byText w = true) (hd : o.data = .set es ep t) (hf : t.fits es.size = true) :
    Walks prog w A I [I, a] [I] es.size (fun i v => ((pickOrder (w.params.setOrder a ep) es).toList.map (·.2))[i]? = some v) (fun i h => h.get? I = some (itO (rawInt (0 : Nat)) (i : Nat) a es.size ep) ∧ h.get? a = some o) where
  sub := fun b hb => by simp at hb; simp [hb]
  frame := fun _ _ _ st hk => ⟨hk I (by simp) _ st.1, hk a (by simp) _ st.2⟩
  item := fun i s Q E hi st hQ => by
    have hl : (pickOrder (w.params.setOrder a ep) es).toList.length = es.size := by rw [(pick_perm _ es).length_eq, Array.length_toList]
    have he : (pickOrder (w.params.setOrder a ep) es).toList[i]? = some ((pickOrder (w.params.setOrder a ep) es).toList[i]'(by omega)) := List.getElem?_eq_getElem (by omega)
    generalize (pickOrder (w.params.setOrder a ep) es).toList[i]'(by omega) = e at he
    refine next_slot (slot := 0) (slot' := 0) (x := e.2) st.1 hne st.2 hd hf (fun A E Q q => setNext_text hb st.2 hd hf ?_) fun h' h1 sb => ?_
    · rw [← Array.getElem?_toList, he]; exact q
    · exact hQ _ h' s.toks (by rw [List.getElem?_map, he]; rfl) ⟨h1, (sb.2 a hne).trans st.2⟩ fun b o' hb e => (sb.2 b (by simpa using hb)).trans e
  done := fun s Q E st hQ => by
    have hl : (pickOrder (w.params.setOrder a ep) es).toList.length = es.size := by rw [(pick_perm _ es).length_eq, Array.length_toList]
    refine next_slot_end (slot := 0) hh st.1 st.2 hd hf (fun A E Q q => setNext_text hb st.2 hd hf ?_) fun h' eb => hQ h' s.toks fun b o' hb e => eb b o' (by simpa using hb) e
    rw [← Array.getElem?_toList, List.getElem?_eq_none (by omega)]; exact q
  self := fun _ _ _ _ st h => it_self st.1 h
theorem walkC (hh : A.handled = none) (I u : Addr) (hne : a ≠ I) (hnu : u ≠ I) (ps : List Nat) (hp : ps.Perm (List.range es.size)) (hd : o.data = .set es ep t) (hf : t.fits es.size = true) :
    Walks prog w A I [I, a, u] [I] es.size (fun i v => (ps.filterMap fun p => (es[p]?).map (·.2))[i]? = some v) (fun i h => h.get? I = some (itO (.ref u) (i : Nat) a es.size ep) ∧ h.get? a = some o ∧ h.get? u = some (tupO ps)) where
  sub := fun b hb => by simp at hb; simp [hb]
  frame := fun _ _ _ st hk => ⟨hk I (by simp) _ st.1, hk a (by simp) _ st.2.1, hk u (by simp) _ st.2.2⟩
  item := fun i s Q E hi st hQ => by
    have hl : ps.length = es.size := by rw [hp.length_eq, List.length_range]
    have hpi : ps[i]? = some (ps[i]'(by omega)) := List.getElem?_eq_getElem (by omega)
    have hm : ps[i]'(by omega) < es.size := List.mem_range.mp (hp.mem_iff.mp (List.getElem_mem _))
    have he : es[ps[i]'(by omega)]? = some (es[ps[i]'(by omega)]'hm) := Array.getElem?_eq_getElem hm
    have all : ps.filterMap (fun p => (es[p]?).map (·.2)) = ps.map fun p => (((es[p]?).map (·.2)).getD .none) := by
      have : ∀ qs : List Nat, (∀ q ∈ qs, q < es.size) → qs.filterMap (fun p => (es[p]?).map (·.2)) = qs.map fun p => (((es[p]?).map (·.2)).getD .none) := fun qs => by
        induction qs with
        | nil => intro _; rfl
        | cons q qs ih =>
          intro hq
          have hq0 : es[q]? = some (es[q]'(hq q List.mem_cons_self)) := Array.getElem?_eq_getElem _
          rw [List.filterMap_cons, List.map_cons, hq0]
          simp only [Option.map_some, Option.getD_some]
          rw [ih fun z hz => hq z (List.mem_cons_of_mem _ hz)]
      exact this ps fun q hq => List.mem_range.mp (hp.mem_iff.mp hq)
    refine next_drawn st.1 st.2.2 st.2.1 hd hf hpi he fun h' h1 sb => ?_
    refine hQ _ h' s.toks ?_ ⟨h1, (sb.2 a hne).trans st.2.1, (sb.2 u hnu).trans st.2.2⟩ fun b o' hb e => (sb.2 b (by simpa using hb)).trans e
    rw [all, List.getElem?_map, hpi]
    simp only [Option.map_some, he, Option.getD_some]
  done := fun s Q E st hQ => by
    have hl : ps.length = es.size := by rw [hp.length_eq, List.length_range]
    exact next_drawn_end hh st.1 st.2.2 st.2.1 hd hf (List.getElem?_eq_none (by omega)) fun h' eb => hQ h' s.toks fun b o' hb e => eb b o' (by simpa using hb) e
  self := fun _ _ _ _ st h => it_self st.1 h
theorem below_zero (xs : Array Nat) (h : xs.size ≤ 1) : SetTable.below xs 0 = 0 := by
  unfold SetTable.below
  have h2 : xs.size = 0 ∨ xs.size = 1 := by omega
  rcases h2 with e | e
  · rw [e]; rfl
  · rw [e]
    unfold SetTable.below.go
    rw [if_pos (by decide)]
    show (if xs.getD 0 0 < 0 then _ else _) = _
    rw [if_neg (by omega)]
    rfl
theorem below_one (xs : Array Nat) (h : xs.size = 1) : SetTable.below xs (xs.getD 0 0 + 1) = 1 := by
  unfold SetTable.below
  rw [h]
  unfold SetTable.below.go
  rw [if_pos (by decide)]
  show (if xs.getD 0 (xs.getD 0 0 + 1) < xs.getD 0 0 + 1 then _ else _) = _
  have e : ∀ d, xs.getD 0 d = xs[0]'(by omega) := fun d => by
    rw [Array.getD_eq_getD_getElem?, Array.getElem?_eq_getElem (by omega)]; rfl
  rw [e, e, if_pos (by omega)]
  rfl
def slotB (t : SetTable) : Nat → Nat
  | 0 => 0
  | _ + 1 => t.place.getD 0 0 + 1
theorem walkB (hh : A.handled = none) (I : Addr) (hne : a ≠ I) (hb : byText w = false) (hl : t.led = true) (h1 : es.size ≤ 1) (hd : o.data = .set es ep t) (hf : t.fits es.size = true) :
    Walks prog w A I [I, a] [I] es.size (fun i v => (es.toList.map (·.2))[i]? = some v) (fun i h => h.get? I = some (itO (rawInt ((slotB t i : Nat) : Int)) (i : Nat) a es.size ep) ∧ h.get? a = some o) where
  sub := fun b hb => by simp at hb; simp [hb]
  frame := fun _ _ _ st hk => ⟨hk I (by simp) _ st.1, hk a (by simp) _ st.2⟩
  item := fun i s Q E hi st hQ => by
    have i0 : i = 0 := by omega
    subst i0
    have hpz : t.place.size = es.size := by
      unfold SetTable.fits at hf
      rw [Bool.and_eq_true] at hf
      exact eq_of_beq hf.1
    have he : es[0]? = some (es[0]'hi) := Array.getElem?_eq_getElem hi
    have hp : t.place[0]? = some (t.place[0]'(by omega)) := Array.getElem?_eq_getElem (by omega)
    have hgd : t.place.getD 0 0 = t.place[0]'(by omega) := by rw [Array.getD_eq_getD_getElem?, hp]; rfl
    refine next_slot (slot := 0) (slot' := t.place.getD 0 0 + 1) (x := (es[0]'hi).2) st.1 hne st.2 hd hf (fun A E Q q => setNext_led hb hl h1 st.2 hd hf ?_) fun h' h1 sb => ?_
    · rw [below_zero _ (by omega), he, hp, ← hgd]; exact q
    · refine hQ _ h' s.toks ?_ ⟨h1, (sb.2 a hne).trans st.2⟩ fun b o' hb e => (sb.2 b (by simpa using hb)).trans e
      rw [List.getElem?_map, Array.getElem?_toList, he]; rfl
  done := fun s Q E st hQ => by
    have hpz : t.place.size = es.size := by
      unfold SetTable.fits at hf
      rw [Bool.and_eq_true] at hf
      exact eq_of_beq hf.1
    refine next_slot_end (slot := slotB t es.size) hh st.1 st.2 hd hf (fun A E Q q => setNext_led hb hl h1 st.2 hd hf ?_) fun h' eb => hQ h' s.toks fun b o' hb e => eb b o' (by simpa using hb) e
    have h2 : es.size = 0 ∨ es.size = 1 := by omega
    rcases h2 with e | e
    · rw [e]
      show Q (match es[SetTable.below t.place 0]?, t.place[SetTable.below t.place 0]? with | some (_, x), some j => some (x, j + 1) | _, _ => none) s
      rw [below_zero _ (by omega), Array.getElem?_eq_none (by omega)]
      exact q
    · rw [e]
      show Q (match es[SetTable.below t.place (t.place.getD 0 0 + 1)]?, t.place[SetTable.below t.place (t.place.getD 0 0 + 1)]? with | some (_, x), some j => some (x, j + 1) | _, _ => none) s
      rw [below_one _ (by omega), Array.getElem?_eq_none (by omega)]
      exact q
  self := fun _ _ _ _ st h => it_self st.1 h
end
end AxS

set_option Elab.async false
set_option linter.all false
set_option maxRecDepth 100000
set_option maxHeartbeats 4000000
namespace AxS
open PySem PySem.Spec PyProof.Rows
/-- these values are these texts -/
def TextsAre (vs : List Value) (zs : List Str) : Prop := vs.length = zs.length ∧ ∀ (i : Nat) (v : Value), vs[i]? = some v → ∃ k t, zs[i]? = some k ∧ v = .str k t
section
variable {prog : Program} {w : World} {A : Around} {E : Value → Shared → Prop} {s : Shared} {a : Addr} {ks : List Str}
theorem texts_of {l : List (Int × Value)} (h : ElemsOf (strKind prog w) l) : TextsAre (l.map (·.2)) (l.map keyOf) := by
  refine ⟨by rw [List.length_map, List.length_map], fun i v e => ?_⟩
  rw [List.getElem?_map] at e
  cases q : l[i]? with
  | none => rw [q] at e; cases e
  | some x =>
    rw [q] at e
    have e : x.2 = v := Option.some.inj e
    obtain ⟨⟨k, hk, _⟩, _⟩ := h x (List.mem_of_getElem? q)
    obtain ⟨t, et⟩ := Value.isStrOf_shape hk
    exact ⟨k, t, by rw [List.getElem?_map, q]; show some (keyOf x) = _; unfold keyOf; rw [et], by rw [← e]; exact et⟩
theorem tx_iter {Q : Value → Shared → Prop} (hS : TxSet prog w s.heap a ks) (hk : ks.length ≤ 1000) (hh : A.handled = none)
    (h : ∀ (I : Addr) (fp : List Addr) (h' : Heap) d tk (vs : List Value) (zs : List Str) (St : Nat → Heap → Prop), s.heap.objs.size ≤ I → (∀ b ∈ fp, b = a ∨ s.heap.objs.size ≤ b) → (∀ b o, s.heap.get? b = some o → h'.get? b = some o) → zs.Perm ks → TextsAre vs zs →
      Walks prog w A I fp [I] ks.length (fun i v => vs[i]? = some v) St → St 0 h' → Q (.ref I) { s with heap := h', drawn := d, toks := tk }) : wpAny (model prog w) A (pyIter (.ref a)) Q E s := by
  obtain ⟨o, es, ep, t, ho, hx, hd, X⟩ := hS
  have hlen := tx_len X
  obtain ⟨hel, hp, hb, hf, hled, hpl⟩ := X
  have hlt : a < s.heap.objs.size := Heap.lt_size ho
  have hne : a ≠ s.heap.objs.size := Nat.ne_of_lt hlt
  refine iter_set ho hx hd hf (by omega) (fun q => ?_) (fun q ps d tk hps => ?_)
  · have kp : ∀ b u, s.heap.get? b = some u → (s.heap.push (itO (rawInt 0) 0 a es.size ep)).get? b = some u := fun b u e => Heap.get?_push_of_some _ e
    have fpo : ∀ b ∈ [s.heap.objs.size, a], b = a ∨ s.heap.objs.size ≤ b := fun b hb => by
      rcases List.mem_cons.mp hb with z | z
      · exact .inr (Nat.le_of_eq z.symm)
      · exact .inl (List.mem_singleton.mp z)
    cases hbt : byText w with
    | true =>
      have W := walkA (prog := prog) (A := A) (es := es) (ep := ep) (t := t) (o := o) hh s.heap.objs.size hne hbt hd hf
      have pp := pick_perm (w.params.setOrder a ep) es
      rw [hlen] at W
      exact h _ _ _ s.drawn s.toks _ _ _ (Nat.le_refl _) fpo kp ((pp.map keyOf).trans hp) (texts_of (hel.perm pp)) W ⟨by rw [← hlen]; exact Heap.get?_push_size _ rfl, Heap.get?_push_of_some _ ho⟩
    | false =>
      have h1 : es.size ≤ 1 := by
        rw [hbt] at q
        by_cases z : es.size > 1
        · rw [hpl (by omega), decide_eq_true z] at q; cases q
        · omega
      have hl : t.led = true := by rw [hled]; show (!byText w) = true; rw [hbt]; rfl
      have W := walkB (prog := prog) (A := A) (es := es) (ep := ep) (t := t) (o := o) hh s.heap.objs.size hne hbt hl h1 hd hf
      rw [hlen] at W
      exact h _ _ _ s.drawn s.toks _ _ _ (Nat.le_refl _) fpo kp hp (texts_of hel) W ⟨by rw [← hlen]; exact Heap.get?_push_size _ rfl, Heap.get?_push_of_some _ ho⟩
  · have hnI : a ≠ s.heap.objs.size + 1 := Nat.ne_of_lt (Nat.lt_succ_of_lt hlt)
    have W := walkC (prog := prog) (w := w) (A := A) (es := es) (ep := ep) (t := t) (o := o) (a := a) hh (s.heap.objs.size + 1) s.heap.objs.size hnI (Nat.ne_of_lt (Nat.lt_succ_self _)) ps hps hd hf
    have hL : (ps.filterMap fun p => es[p]?).Perm es.toList := by
      refine (hps.filterMap _).trans ?_
      have e := List.filterMap_getElem?_range_length es.toList
      rw [Array.length_toList] at e
      have e2 : (List.range es.size).filterMap (fun p => es[p]?) = (List.range es.size).filterMap fun i => es.toList[i]? := by congr 1; funext p; exact (Array.getElem?_toList ..).symm
      rw [e2, e]
    have hv : (ps.filterMap fun p => (es[p]?).map (·.2)) = (ps.filterMap fun p => es[p]?).map (·.2) := by rw [List.map_filterMap]
    rw [hlen] at W
    rw [hv] at W
    have g0 : (s.heap.push (tupO ps)).objs.size = s.heap.objs.size + 1 := Heap.size_push _ _
    refine h _ _ _ d tk _ _ _ (Nat.le_succ _) (fun b hb => ?_) (fun b u e => Heap.get?_push_of_some _ (Heap.get?_push_of_some _ e)) ((hL.map keyOf).trans hp) (texts_of (hel.perm hL)) W ⟨?_, Heap.get?_push_of_some _ (Heap.get?_push_of_some _ ho), Heap.get?_push_of_some _ (Heap.get?_push_size _ rfl)⟩
    · rcases List.mem_cons.mp hb with z | z
      · exact .inr (by rw [z]; exact Nat.le_succ _)
      · rcases List.mem_cons.mp z with z | z
        · exact .inl z
        · exact .inr (Nat.le_of_eq (List.mem_singleton.mp z).symm)
    · rw [← g0, ← hlen]
      exact Heap.get?_push_size _ rfl
theorem hint_set (hT : s.TypeIs (.ref a) "set") {Q : Bool → Shared → Prop} (h : Q false s) : wpAny (model prog w) A (Builtin.List.listLengthHint (.ref a)) Q E s := by
  unfold Builtin.List.listLengthHint
  refine wpAny_bind (wpAny_specialOf hT PySem.F.slot_set_len.lookup ?_)
  generalize hid : ("set.__len__" : String) = id0
  wp_delta
  rw [show splitId id0 = some ("set", "__len__") from by subst hid; decide +kernel]
  subst hid
  refine wpAny_bind (wpAny_isInstance (T := "set") (b := true) hT (by rw [isSubtype_type]; kernel_rfl) ?_)
  refine wpAny_ite_split (fun hab => absurd hab (by decide)) (fun _ => ?_)
  refine wpAny_ite_split (fun _ => ?_) (fun hab => absurd (by decide +kernel) hab)
  refine wpAny_bind (wpAny_typeOf hT ?_)
  exact wpAny_pure h
open PySem.Calls PyProof.V in
theorem tx_extend {R : Result → Shared → Prop} (hh : A.handled = none) (hT : TxSet prog w s.heap a ks) (hk : ks.length ≤ 1000) (S : Addr) (hSa : S ≠ a) (res : Value) (c₀ : Nat) (hS : s.heap.get? S = some { cls := .type "list", data := .seq #[] c₀ })
    (hR : ∀ h' d tk acc' c' (zs : List Str), (∀ b o, b ≠ S → s.heap.get? b = some o → h'.get? b = some o) → h'.get? S = some { cls := .type "list", dict := none, data := .seq acc' c', slots := #[] } → zs.Perm ks → TextsAre acc'.toList zs → R (.ok (.ret res)) { s with heap := h', drawn := d, toks := tk }) :
    wpAny (model prog w) A.in1 (Builtin.List.listExtendWith (.ref S) (.ref a) res)
      (fun fin s' => match fin with | .done f => R (.ok f) s' | .again c' => c'.quiet = true ∧ codeAny (model prog w) A c' R s') (fun e s' => R (.error e) s') s := by
  have hSlt : S < s.heap.objs.size := Heap.lt_size hS
  have ty : s.TypeIs (.ref a) "set" := by obtain ⟨o, es, ep, t, ho, hx, _⟩ := hT; exact ⟨o, ho, hx.1⟩
  unfold Builtin.List.listExtendWith
  refine wpAny_bind (wpAny_typeOf (T := "set") ty ?_)
  have h1 : Builtin.List.listSameRef (.ref S) (.ref a) = false := by simp [Builtin.List.listSameRef, hSa]
  have nl : (Value.type "set" == Value.type "list") = false := by decide
  have nt : (Value.type "set" == Value.type "tuple") = false := by decide
  simp only [h1, nl, nt, Bool.or_false, Bool.false_eq_true, if_false]
  refine wpAny_bind (tx_iter (A := A.in1) hT hk hh fun I fp h' d tk vs zs St hI hfp kp hz tx W st => ?_)
  have ty' : Shared.TypeIs { s with heap := h', drawn := d, toks := tk } (.ref a) "set" := by obtain ⟨o, es, ep, t, ho, hx, _⟩ := hT; exact ⟨o, kp _ _ ho, hx.1⟩
  refine wpAny_bind (wpAny_holding (hint_set ty' ?_))
  have hSf : S ∉ fp := fun z => by
    rcases hfp S z with e | e
    · exact hSa e
    · exact Nat.lt_irrefl _ (Nat.lt_of_lt_of_le hSlt e)
  have hS₁ := kp _ _ hS
  refine wpAny_ite_split (fun _ => ?_) (fun z => absurd (by decide) z)
  refine wpAny_bind (wpAny_rule ?_)
  refine wpAny_bind ?_
  show wpAny _ _ (updateSeq S (·.push .none) >>= fun _ => updateSeq S (·.pop)) _ _ _
  refine wpAny_bind (wpAny_updateSeq hS₁ rfl ?_)
  have hS₂ := Heap.get?_update_self (Obj.mapSeq (·.push Value.none)) hS₁ rfl
  refine wpAny_updateSeq (hz := by seq_fits) hS₂ rfl ?_
  have hS₃ := Heap.get?_update_self (Obj.mapSeq (·.pop)) hS₂ rfl
  refine wpAny_pure ⟨plainId_quiet PySem.F.plain_extend_loop _, ?_⟩
  have oth : ∀ b o, b ≠ S → h'.get? b = some o → ((h'.update S (Obj.mapSeq (·.push Value.none))).update S (Obj.mapSeq (·.pop))).get? b = some o := fun b o hb e =>
    (Heap.get?_update_other _ _ (Ne.symm hb)).trans ((Heap.get?_update_other _ _ (Ne.symm hb)).trans e)
  have st' := W.frame 0 _ _ st fun b hb o e => oth b o (fun z => hSf (z ▸ hb)) e
  refine codeAny_extend_loopS W.toS (by rw [sizeLine_eq]; omega) S hSf res ks.length 0 _ #[] _ rfl (Nat.zero_le _) st' hS₃ (ItemsOf.nil _) fun s' acc' c' hm hS' hacc => ?_
  rw [Moved.eq_with hm]
  have hva : acc'.toList = vs := by
    have hl : acc'.toList.length = vs.length := by rw [Array.length_toList, hacc.1, tx.1, hz.length_eq]
    refine List.ext_getElem? fun i => ?_
    by_cases hi : i < acc'.size
    · have e := Array.getElem?_eq_getElem hi
      rw [Array.getElem?_toList, e]
      exact (hacc.2 i _ e).symm
    · rw [List.getElem?_eq_none (by rw [Array.length_toList]; omega), List.getElem?_eq_none (by rw [← hl, Array.length_toList]; omega)]
  refine hR s'.heap d s'.toks acc' c' zs (fun b o hb e => hm.heap b o (fun hmem => ?_) (oth b o hb (kp b o e))) hS' hz (by rw [hva]; exact tx)
  rcases List.mem_cons.mp hmem with e' | hmem
  · exact hb e'
  · have hbI : b = I := List.mem_singleton.mp hmem
    exact absurd (hbI ▸ Heap.lt_size e) (Nat.not_lt.mpr hI)
open PySem.Calls PyProof.V PySem.W in
theorem tx_collect {R : List Value → Shared → Prop} (hh : A.handled = none) (hT : TxSet prog w s.heap a ks) (hk : ks.length ≤ 1000)
    (h : ∀ (h' : Heap) d (tk : Nat) (vs : List Value) (zs : List Str), (∀ b o, s.heap.get? b = some o → h'.get? b = some o) → zs.Perm ks → TextsAre vs zs → R vs { s with heap := h', drawn := d, toks := tk }) : wpAny (model prog w) A (collect (.ref a)) R E s := by
  have hlt : a < s.heap.objs.size := by obtain ⟨o, es, ep, t, ho, _⟩ := hT; exact Heap.lt_size ho
  unfold collect
  refine wpAny_bind (wpAny_runValue (codeAny_builtin entry_proto_collect' ?_))
  rw [Around.under_plainId PySem.F.plain_proto_collect _]
  show wpAny _ A.in1 (newList [] >>= fun l => again (.builtin "list.__iadd__" ⟨[l, .ref a], []⟩)) _ _ s
  refine wpAny_bind (wpAny_newObj_type ?_)
  refine wpAny_pure ⟨plainId_quiet PySem.F.plain_list_iadd _, codeAny_builtin entry_list_iadd' ?_⟩
  rw [Around.under_plainId PySem.F.plain_list_iadd _]
  have hS₁ : (s.heap.push { cls := .type "list", data := .seq ([] : List Value).toArray }).get? s.heap.objs.size = some { cls := .type "list", data := .seq #[] } := Heap.get?_push_size _ rfl
  show wpAny _ A.in1 (Builtin.List.listExtendWith (.ref s.heap.objs.size) (.ref a) (.ref s.heap.objs.size)) _ _ _
  have key := tx_extend (prog := prog) (w := w) (A := A) (a := a) (ks := ks) (s := { s with heap := s.heap.push { cls := .type "list", data := .seq ([] : List Value).toArray } })
    (R := fun (q : Result) (s' : Shared) => ∃ (h' : Heap) (d : Drawn) (tk : Nat) (acc' : Array Value) (c' : Nat) (zs : List Str), q = .ok (.ret (.ref s.heap.objs.size)) ∧ s' = { s with heap := h', drawn := d, toks := tk } ∧
      (∀ b o, s.heap.get? b = some o → h'.get? b = some o) ∧ h'.get? s.heap.objs.size = some { cls := .type "list", dict := none, data := .seq acc' c', slots := #[] } ∧ zs.Perm ks ∧ TextsAre acc'.toList zs)
    hh (hT.at fun o e => Heap.get?_push_of_some _ e) hk s.heap.objs.size (Nat.ne_of_gt hlt) (.ref s.heap.objs.size) 0 hS₁
    (fun h' d tk acc' c' zs hk hS' hz tx => ⟨h', d, tk, acc', c', zs, rfl, rfl, fun b o e => hk b o (Nat.ne_of_lt (Heap.lt_size e)) (Heap.get?_push_of_some _ e), hS', hz, tx⟩)
  refine wpAny_mono key (fun fin s' x => ?_) fun e s' x => ?_
  · cases fin with
    | done f =>
      obtain ⟨h', d, tk, acc', c', zs, e, rfl, hk, hS', hz, tx⟩ := x
      cases e
      show wpAny _ A (load s.heap.objs.size >>= _) _ _ _
      refine wpAny_bind (wpAny_load hS' ?_)
      exact wpAny_pure (h h' d tk _ zs hk hz tx)
    | again c₁ =>
      refine ⟨x.1, codeAny_mono x.2 fun q s₂ y => ?_⟩
      obtain ⟨h', d, tk, acc', c', zs, rfl, rfl, hk, hS', hz, tx⟩ := y
      show wpAny _ A (load s.heap.objs.size >>= _) _ _ _
      refine wpAny_bind (wpAny_load hS' ?_)
      exact wpAny_pure (h h' d tk _ zs hk hz tx)
  · obtain ⟨_, _, _, _, _, _, e', _⟩ := x
    cases e'
end
end AxS

set_option Elab.async false
set_option linter.all false
set_option maxRecDepth 100000
set_option maxHeartbeats 4000000
/-! set(a list of texts), set(a tuple of texts): as the library goes for whole numbers -/
namespace AxS
open PySem PySem.Spec PyProof.Rows
section
variable {prog : Program} {w : World} {A : Around} {E : Value → Shared → Prop} {s : Shared}
set_option maxHeartbeats 6400000 in
theorem call_set_list {l : Addr} {items : Array Value} {xs : List Str} {Q : Value → Shared → Prop} (hh : A.handled = none) (hl : s.heap.IsList l items) (hlen : xs.length = items.size) (hi : ∀ (i : Nat) (v : Value), items[i]? = some v → ∃ k t, xs[i]? = some k ∧ v = .str k t) (hb : items.size + 1 < scanBound)
    (h : ∀ (h' : Heap) (tk : Nat), TxSet prog w h' s.heap.objs.size (uniq xs) → (∀ b o, s.heap.get? b = some o → h'.get? b = some o) → Q (.ref s.heap.objs.size) { s with heap := h', toks := tk }) : wpAny (model prog w) A (call (.type "set") [.ref l]) Q E s := by
  obtain ⟨c, tl, hmro⟩ := F.called_set.mro
  have hmade := F.called_set.made
  have hsub := F.called_set.sub
  have h1 := F.called_set.notType
  have h2 := F.called_set.canCreate
  have hct := F.typeCall_set_1 (.ref l)
  refine wpAny_call (codeAny_of_tree ?_)
  show wpAny _ _ (callAny (.type "set") _) _ _ _
  refine wpAny_pure ⟨Code.quiet_builtin _ (by decide +kernel), codeAny_builtin F.entry_type_call ?_⟩
  rw [Around.under_plain (weight_type_call_type "set" [.ref l] []) rfl]
  repeat (any_goals (first | assumption | wp_step))
  refine codeAny_mono (set_new (.ref l) (E := E) (Q₁ := fun obj s₁ => obj = .ref s.heap.objs.size ∧ s₁ = { s with heap := s.heap.push (freshSet w) }) ⟨rfl, rfl⟩) fun r s₁ hr => ?_
  cases r with
  | error e => exact hr
  | ok fl =>
    cases fl with
    | ret obj =>
      obtain ⟨rfl, rfl⟩ := hr
      have hS : (s.heap.push (freshSet w)).get? s.heap.objs.size = some (freshSet w) := Heap.get?_push_size _ rfl
      have hT : Shared.TypeIs { s with heap := s.heap.push (freshSet w) } (.ref s.heap.objs.size) "set" := ⟨_, hS, rfl⟩
      have hli := F.called_set.init.lookup
      have hbi := F.called_set.init.bind (.ref s.heap.objs.size)
      repeat (any_goals (first | assumption | wp_step))
      refine codeAny_mono (codeAny_call_builtin (R := wants (fun r s₂ => r = .none ∧ ∃ h' tk, s₂ = { s with heap := h', toks := tk } ∧ TxSet prog w h' s.heap.objs.size (uniq xs) ∧
          (∀ b o, s.heap.get? b = some o → h'.get? b = some o)) E) F.called_set.init.plain F.entry_set_init (check_set_init_1 hT ?_)) fun r₂ s₂ hr₂ => ?_
      · have hl1 : (s.heap.push (freshSet w)).IsList l items := hl.push _
        obtain ⟨ol, hol, hcl, nl, hdl⟩ := id hl1
        have hlS : l < s.heap.objs.size := by obtain ⟨_, e, _⟩ := hl; exact Heap.lt_size e
        obtain ⟨ocls, odict, odata, oslots⟩ := ol
        simp only at hcl hdl
        subst hcl; subst hdl
        have hsls := sub_list_set
        have hslf := sub_list_frozenset
        have hne : (Value.type "list" == Value.type "dict") = false := by decide
        unfold freshSet at hS hol
        unfold Builtin.«set.__init__» noKeywords Builtin.Frozenset.updateFrom
        generalize hPI : pyIter = PI
        unfold freshSet
        wp_walk
        subst hPI
        refine wpAny_pyIter_list hl1 ?_
        refine wpAny_bind (wpAny_runValue ?_)
        have hh3 : A.in1.in1.in1.handled = none := by simp [hh]
        have hneI : l ≠ (s.heap.push (freshSet w)).objs.size := by
          rw [Heap.size_push]; exact Nat.ne_of_lt (Nat.lt_succ_of_lt hlS)
        have hSf : s.heap.objs.size ∉ [(s.heap.push (freshSet w)).objs.size, l] := by
          rw [Heap.size_push]; simp only [List.mem_cons, List.mem_singleton, List.not_mem_nil, or_false, not_or]
          exact ⟨Nat.ne_of_lt (Nat.lt_succ_self _), Nat.ne_of_gt hlS⟩
        refine tx_loop ((Walks.list hh3 _ l hneI items).toS) s.heap.objs.size hSf xs hlen hi hb (items.size - 0) 0 _ (by omega) (Nat.zero_le _)
          ⟨⟨_, Heap.get?_push_size _ rfl, rfl, rfl⟩, (hl1.push _)⟩ ?hS0 ?hR
        case hS0 =>
          have hget : ((s.heap.push (freshSet w)).push { cls := .type "list_iterator", data := .fields #[.ref l, .int 0 0] }).get? s.heap.objs.size = some (freshSet w) := Heap.get?_push_of_some _ hS
          exact tx_fresh hget
        case hR =>
          intro s' hm hS'
          obtain ⟨h', g', d', tk', os'⟩ := s'
          have eg : g' = s.gens := hm.gens
          have ed : d' = s.drawn := hm.drawn
          have eo : os' = s.os := hm.os
          subst eg; subst ed; subst eo
          show wpAny _ _ _ _ _ _
          refine wpAny_pure ?_
          show wpAny _ _ (ret Value.none) _ _ _
          refine wpAny_pure ⟨rfl, h', tk', rfl, hS', fun b o e => ?_⟩
          have hb0 := Heap.lt_size e
          have hb1 : b ≠ s.heap.objs.size := Nat.ne_of_lt hb0
          have hb2 : b ≠ (s.heap.push (freshSet w)).objs.size := by
            rw [Heap.size_push]; exact Nat.ne_of_lt (Nat.lt_succ_of_lt hb0)
          exact hm.heap b o (by simp only [List.mem_cons, List.mem_singleton, List.not_mem_nil, or_false, not_or]; exact ⟨hb1, hb2⟩) (Heap.get?_push_of_some _ (Heap.get?_push_of_some _ e))
      · cases r₂ with
        | error e => exact hr₂
        | ok fl₂ =>
          cases fl₂ with
          | ret r =>
            obtain ⟨rfl, h', tk, rfl, hS', hk'⟩ := hr₂
            repeat (any_goals (first | assumption | wp_step))
            exact h _ _ hS' hk'
          | _ => exact hr₂.elim
    | _ => exact hr.elim
set_option maxHeartbeats 6400000 in
theorem call_set_tuple {l : Addr} {items : Array Value} {xs : List Str} {Q : Value → Shared → Prop} (hh : A.handled = none) (hl : s.heap.IsTuple l items) (hlen : xs.length = items.size) (hi : ∀ (i : Nat) (v : Value), items[i]? = some v → ∃ k t, xs[i]? = some k ∧ v = .str k t) (hb : items.size + 1 < scanBound)
    (h : ∀ (h' : Heap) (tk : Nat), TxSet prog w h' s.heap.objs.size (uniq xs) → (∀ b o, s.heap.get? b = some o → h'.get? b = some o) → Q (.ref s.heap.objs.size) { s with heap := h', toks := tk }) : wpAny (model prog w) A (call (.type "set") [.ref l]) Q E s := by
  obtain ⟨c, tl, hmro⟩ := F.called_set.mro
  have hmade := F.called_set.made
  have hsub := F.called_set.sub
  have h1 := F.called_set.notType
  have h2 := F.called_set.canCreate
  have hct := F.typeCall_set_1 (.ref l)
  refine wpAny_call (codeAny_of_tree ?_)
  show wpAny _ _ (callAny (.type "set") _) _ _ _
  refine wpAny_pure ⟨Code.quiet_builtin _ (by decide +kernel), codeAny_builtin F.entry_type_call ?_⟩
  rw [Around.under_plain (weight_type_call_type "set" [.ref l] []) rfl]
  repeat (any_goals (first | assumption | wp_step))
  refine codeAny_mono (set_new (.ref l) (E := E) (Q₁ := fun obj s₁ => obj = .ref s.heap.objs.size ∧ s₁ = { s with heap := s.heap.push (freshSet w) }) ⟨rfl, rfl⟩) fun r s₁ hr => ?_
  cases r with
  | error e => exact hr
  | ok fl =>
    cases fl with
    | ret obj =>
      obtain ⟨rfl, rfl⟩ := hr
      have hS : (s.heap.push (freshSet w)).get? s.heap.objs.size = some (freshSet w) := Heap.get?_push_size _ rfl
      have hT : Shared.TypeIs { s with heap := s.heap.push (freshSet w) } (.ref s.heap.objs.size) "set" := ⟨_, hS, rfl⟩
      have hli := F.called_set.init.lookup
      have hbi := F.called_set.init.bind (.ref s.heap.objs.size)
      repeat (any_goals (first | assumption | wp_step))
      refine codeAny_mono (codeAny_call_builtin (R := wants (fun r s₂ => r = .none ∧ ∃ h' tk, s₂ = { s with heap := h', toks := tk } ∧ TxSet prog w h' s.heap.objs.size (uniq xs) ∧
          (∀ b o, s.heap.get? b = some o → h'.get? b = some o)) E) F.called_set.init.plain F.entry_set_init (check_set_init_1 hT ?_)) fun r₂ s₂ hr₂ => ?_
      · have hl1 : (s.heap.push (freshSet w)).IsTuple l items := hl.push _
        obtain ⟨ol, hol, hcl, nl, hdl⟩ := id hl1
        have hlS : l < s.heap.objs.size := by obtain ⟨_, e, _⟩ := hl; exact Heap.lt_size e
        obtain ⟨ocls, odict, odata, oslots⟩ := ol
        simp only at hcl hdl
        subst hcl; subst hdl
        have hsls := sub_tuple_set
        have hslf := sub_tuple_frozenset
        have hne : (Value.type "tuple" == Value.type "dict") = false := by decide
        unfold freshSet at hS hol
        unfold Builtin.«set.__init__» noKeywords Builtin.Frozenset.updateFrom
        generalize hPI : pyIter = PI
        unfold freshSet
        wp_walk
        subst hPI
        refine wpAny_pyIter_tuple hl1 ?_
        refine wpAny_bind (wpAny_runValue ?_)
        have hh3 : A.in1.in1.in1.handled = none := by simp [hh]
        have hneI : l ≠ (s.heap.push (freshSet w)).objs.size := by
          rw [Heap.size_push]; exact Nat.ne_of_lt (Nat.lt_succ_of_lt hlS)
        have hSf : s.heap.objs.size ∉ [(s.heap.push (freshSet w)).objs.size, l] := by
          rw [Heap.size_push]; simp only [List.mem_cons, List.mem_singleton, List.not_mem_nil, or_false, not_or]
          exact ⟨Nat.ne_of_lt (Nat.lt_succ_self _), Nat.ne_of_gt hlS⟩
        refine tx_loop ((Walks.tuple hh3 _ l hneI items).toS) s.heap.objs.size hSf xs hlen hi hb (items.size - 0) 0 _ (by omega) (Nat.zero_le _)
          ⟨⟨_, Heap.get?_push_size _ rfl, rfl, rfl⟩, (hl1.push _)⟩ ?hS0 ?hR
        case hS0 =>
          have hget : ((s.heap.push (freshSet w)).push { cls := .type "tuple_iterator", data := .fields #[.ref l, .int 0 0] }).get? s.heap.objs.size = some (freshSet w) := Heap.get?_push_of_some _ hS
          exact tx_fresh hget
        case hR =>
          intro s' hm hS'
          obtain ⟨h', g', d', tk', os'⟩ := s'
          have eg : g' = s.gens := hm.gens
          have ed : d' = s.drawn := hm.drawn
          have eo : os' = s.os := hm.os
          subst eg; subst ed; subst eo
          show wpAny _ _ _ _ _ _
          refine wpAny_pure ?_
          show wpAny _ _ (ret Value.none) _ _ _
          refine wpAny_pure ⟨rfl, h', tk', rfl, hS', fun b o e => ?_⟩
          have hb0 := Heap.lt_size e
          have hb1 : b ≠ s.heap.objs.size := Nat.ne_of_lt hb0
          have hb2 : b ≠ (s.heap.push (freshSet w)).objs.size := by
            rw [Heap.size_push]; exact Nat.ne_of_lt (Nat.lt_succ_of_lt hb0)
          exact hm.heap b o (by simp only [List.mem_cons, List.mem_singleton, List.not_mem_nil, or_false, not_or]; exact ⟨hb1, hb2⟩) (Heap.get?_push_of_some _ (Heap.get?_push_of_some _ e))
      · cases r₂ with
        | error e => exact hr₂
        | ok fl₂ =>
          cases fl₂ with
          | ret r =>
            obtain ⟨rfl, h', tk, rfl, hS', hk'⟩ := hr₂
            repeat (any_goals (first | assumption | wp_step))
            exact h _ _ hS' hk'
          | _ => exact hr₂.elim
    | _ => exact hr.elim
end
end AxS

set_option Elab.async false
set_option linter.all false
set_option maxRecDepth 100000
set_option maxHeartbeats 4000000
namespace L2
open PySem PySem.Spec PyProof.Rows AxS
/-- a set of texts, in hand -/
def TxHO (P : Program) (w : World) (a : Addr) (ks : List Str) : HO := .ext fun h => TxSet P w h a ks
theorem txho_ok {P : Program} {w : World} {H : Hp} {h : Heap} {a : Addr} {ks : List Str} (x : TxSet P w h a ks) : ObjOk P w H h a (TxHO P w a ks) := by
  obtain ⟨o, es, ep, t, ho, r⟩ := id x
  exact ⟨x, ⟨o, ho⟩, fun u1 u2 z k => TxSet.at z fun o e => k o e⟩
theorem txho_get {P : Program} {w : World} {H : Hp} {h : Heap} {a : Addr} {ks : List Str} (x : ObjOk P w H h a (TxHO P w a ks)) : TxSet P w h a ks := x.1
section
variable {X : Cx} {K : PySem.W.Frag}
def rLenSet (P : Program) (w : World) : List V → Hp → VK → Prop := fun xs H Q => ∃ (a : Addr) (ks : List Str), xs = [.ref a] ∧ H a = some (TxHO P w a ks) ∧ Q (.int ks.length) H
theorem call_lenS : CallR X (.builtin "len") (rLenSet X.prog X.w) := by
  intro pins s σ H xs us Q I r h
  obtain ⟨a, ks, rfl, ha, q⟩ := h
  obtain ⟨u, rfl, ru⟩ := vals1 r
  cases ru
  obtain ⟨o, es, ep, t, ho, hex, hd, X'⟩ := txho_get (I.hok a _ ha)
  have hlen := tx_len X'
  obtain ⟨_, _, hb, hf, _⟩ := X'
  have hb : es.size < 4096 := hb
  refine call_len_set ho hex hd hf (by omega) ?_
  rw [hlen]
  exact ⟨.int _, H, I.tok _, ⟨_, rfl⟩, q⟩
theorem Inv.drew {pins : List (Addr × Obj)} {σ : St} {H : Hp} {s : Shared} {d : Drawn} (I : Inv X pins σ H s) : Inv X pins σ H { s with drawn := d } :=
  ⟨I.ok, I.os, I.bare, I.base, I.loc, I.cell, I.free, I.freeC, I.pin, I.hok, I.len⟩
theorem strs_of : ∀ {vs : List Value} {zs : List Str}, TextsAre vs zs → StrsAre vs zs
  | [], [], _ => .nil
  | [], _ :: _, h => by cases h.1
  | _ :: _, [], h => by cases h.1
  | v :: vs, z :: zs, h => by
    obtain ⟨k, t, e, rfl⟩ := h.2 0 v rfl
    have e : z = k := Option.some.inj e
    subst e
    exact .cons _ _ (strs_of ⟨by have := h.1; simpa using this, fun i v e => by
      obtain ⟨k, t, e1, e2⟩ := h.2 (i + 1) v (by simpa using e)
      exact ⟨k, t, by simpa using e1, e2⟩⟩)
def rSortedS (P : Program) (w : World) : List V → Hp → VK → Prop := fun xs H Q => ∃ (a : Addr) (ks : List Str), xs = [.ref a] ∧ H a = some (TxHO P w a ks) ∧ ks.length < 64 ∧ ∀ l ss, H l = none → ss.Perm ks → sortedS ss = true → Q (.ref l) (upd H l (.lst (ss.map V.str)))
theorem call_sortedS (hc : X.calm = true) : CallR X (.builtin "sorted") (rSortedS X.prog X.w) := by
  intro pins s σ H xs us Q I r h
  obtain ⟨a, ks, rfl, ha, h64, q⟩ := h
  obtain ⟨u, rfl, ru⟩ := vals1 r
  cases ru
  have hT := txho_get (I.hok a _ ha)
  refine Calls.call_function_entry kind_sorted plain_sorted entry_sorted (args_sorted1 _) ?_
  unfold Builtin.«sorted»
  refine wpAny_bind (m := checkCount "sorted" 1 1 _) (wpAny_pure ?_)
  refine wpAny_bind (tx_collect (A := X.A.in1) (I.ok.hd hc) hT (by omega) fun h' d tk acc zs hkp hz tx => ?_)
  have hstr := strs_of tx
  have hal : acc.length < 64 := by rw [tx.1, hz.length_eq]; exact h64
  have hline : 64 ≤ sizeLine := by rw [sizeLine_eq]; decide
  refine wpAny_bind (wpAny_newList ?_ (by omega))
  have hoL : (h'.push (seqObj "list" acc.toArray 0)).get? h'.objs.size = some (seqObj "list" acc.toArray 0) := Heap.get?_push_size _ rfl
  refine wpAny_bind (wpAny_holding (wpAny_call_entry slot_list_sort ⟨_, hoL, rfl⟩ entry_list_sort (list_sort_treeK strKind_oneLt hoL hstr.keysOf (fun v₁ v₂ rest e => keyKind_strs (by rw [← e]; exact hstr)) (by omega) fun st' a1 a2 => ⟨_, rfl, ?_⟩) (args_list_sort _)))
  obtain ⟨ss', b1, b2, b3⟩ := sorted_out_str hstr a1 a2
  refine wpAny_pure ⟨_, rfl, ?_⟩
  obtain ⟨e, he⟩ := sortedHeap_at (out := (arrOf st').map (·.2)) hoL
  have nl := vals_strs b1
  have I1 : Inv X pins σ H { s with heap := h', drawn := d, toks := tk } := (I.kept (t' := tk) hkp).drew (d := d)
  have kp2 : ∀ b ob, h'.get? b = some ob → (sortedHeap (h'.push (seqObj "list" acc.toArray 0)) h'.objs.size acc ((arrOf st').map (·.2))).get? b = some ob := fun b ob q1 => by
    have hb : b < h'.objs.size := Heap.lt_size q1
    rw [sortedHeap_old (Nat.ne_of_lt hb) (by rw [Heap.size_push]; exact Nat.lt_succ_of_lt hb)]
    exact Heap.get?_push_of_some _ q1
  have fr : H h'.objs.size = none := I1.hok.fresh (Nat.le_refl _)
  have hz2 : (ss'.map V.str).length ≤ sizeLine := by
    have := b2.length_eq
    have := hz.length_eq
    rw [List.length_map]
    omega
  exact ⟨.ref h'.objs.size, _, I1.laid (o := .lst (ss'.map V.str)) (t' := tk) kp2 (Nat.le_refl _) ⟨hz2, _, e, nl, he⟩, rfl, q _ ss' fr (b2.trans hz) b3⟩
def rSet (K : PySem.W.Frag) (P : Program) (w : World) : List V → Hp → VK → Prop := fun xs H Q => ∃ (a : Addr) (ls : List Str), xs = [.ref a] ∧ (SqL K H a (ls.map V.str) ∨ SqT K H a (ls.map V.str)) ∧ ls.length ≤ 1000 ∧ ∀ p, H p = none → Q (.ref p) (upd H p (TxHO P w p (uniq ls)))
theorem vals_texts {ls : List Str} {us : List Value} (r : Vals (ls.map V.str) us) : TextsAre us ls := by
  refine ⟨by rw [← r.length, List.length_map], fun i v e => ?_⟩
  have hi : i < ls.length := by have := (List.getElem?_eq_some_iff.mp e).1; rw [← r.length, List.length_map] at this; exact this
  obtain ⟨u, hu, ru⟩ := r.get (show (ls.map V.str)[i]? = some (V.str ls[i]) by rw [List.getElem?_map, List.getElem?_eq_getElem hi]; rfl)
  rw [hu] at e
  cases e
  obtain ⟨t, rfl⟩ := ru
  exact ⟨_, t, List.getElem?_eq_getElem hi, rfl⟩
theorem call_set (hc : X.calm = true) (hK : X.K = K := by rfl) : CallR X (.type "set") (rSet K X.prog X.w) := by
  subst hK
  intro pins s σ H xs us Q I r h
  obtain ⟨a, ls, rfl, ha, hl, q⟩ := h
  obtain ⟨u, rfl, ru⟩ := vals1 r
  cases ru
  have fin : ∀ (h' : Heap) (tk : Nat), TxSet X.prog X.w h' s.heap.objs.size (uniq ls) → (∀ b o, s.heap.get? b = some o → h'.get? b = some o) → EP X pins σ Q (.ref s.heap.objs.size) { s with heap := h', toks := tk } := fun h' tk x k =>
    ⟨.ref s.heap.objs.size, _, I.laid (o := TxHO X.prog X.w s.heap.objs.size (uniq ls)) (t' := tk) k (Nat.le_refl _) (txho_ok x), rfl, q _ (I.hok.fresh (Nat.le_refl _))⟩
  have sb : scanBound = 4096 := rfl
  rcases ha with ha | ha
  · obtain ⟨its, rv, pl, _⟩ := I.list ha
    have tx := vals_texts rv
    exact call_set_list (I.ok.hd hc) pl.isList (by rw [List.size_toArray]; exact tx.1.symm) (fun i v e => tx.2 i v (by simpa using e)) (by rw [List.size_toArray, tx.1, sb]; omega) fin
  · obtain ⟨its, rv, pl, _⟩ := I.tuple ha
    have tx := vals_texts rv
    exact call_set_tuple (I.ok.hd hc) pl (by rw [List.size_toArray]; exact tx.1.symm) (fun i v e => tx.2 i v (by simpa using e)) (by rw [List.size_toArray, tx.1, sb]; omega) fin
end
end L2

set_option linter.all false
/-! labels == sorted(set(labels)): just where they rise -/
namespace An
open PySem PySem.Spec PyProof.Rows L2
def leS (a b : Str) : Prop := ¬ b.cps.toList < a.cps.toList
theorem leS_trans {a b c : Str} (h1 : leS a b) (h2 : leS b c) : leS a c := by
  have h1 : a.cps.toList ≤ b.cps.toList := List.not_lt.mp h1
  have h2 : b.cps.toList ≤ c.cps.toList := List.not_lt.mp h2
  exact List.not_lt.mpr (List.le_trans h1 h2)
theorem leS_anti {a b : Str} (h1 : leS a b) (h2 : leS b a) : a = b := by
  have e : a.cps.toList = b.cps.toList := List.le_antisymm (List.not_lt.mp h1) (List.not_lt.mp h2)
  exact cs_inj e
theorem rising_pw : ∀ (l : List Str) (p : Str), risingS p l = true → (p :: l).Pairwise leS
  | [], p, _ => List.pairwise_singleton _ _
  | x :: r, p, h => by
    have h : (!ltCps x.cps.toList p.cps.toList && risingS x r) = true := h
    rw [Bool.and_eq_true, ltCps_eq] at h
    have hx : leS p x := fun z => by rw [decide_eq_true z] at h; exact absurd h.1 (by decide)
    have ih := rising_pw r x h.2
    refine List.pairwise_cons.mpr ⟨fun y hy => ?_, ih⟩
    rcases List.mem_cons.mp hy with rfl | hy
    · exact hx
    · exact leS_trans hx ((List.pairwise_cons.mp ih).1 y hy)
theorem sorted_pw : ∀ {l : List Str}, sortedS l = true → l.Pairwise leS
  | [], _ => List.Pairwise.nil
  | x :: r, h => rising_pw r x h
/-- each less than all behind it -/
def riseB : List Str → Bool
  | [] => true
  | x :: r => r.all (fun y => decide (x.cps.toList < y.cps.toList)) && riseB r
theorem rise_iff : ∀ {l : List Str}, riseB l = true ↔ l.Pairwise leS ∧ l.Nodup
  | [] => ⟨fun _ => ⟨List.Pairwise.nil, List.nodup_nil⟩, fun _ => rfl⟩
  | x :: r => by
    show (r.all _ && riseB r) = true ↔ _
    rw [Bool.and_eq_true, rise_iff, List.all_eq_true, List.pairwise_cons, List.nodup_cons]
    constructor
    · rintro ⟨h1, h2, h3⟩
      refine ⟨⟨fun y hy => ?_, h2⟩, fun z => ?_, h3⟩
      · have := of_decide_eq_true (h1 y hy)
        exact fun z => List.lt_irrefl _ (List.lt_trans this z)
      · exact List.lt_irrefl _ (of_decide_eq_true (h1 x z))
    · rintro ⟨⟨h1, h2⟩, h3, h4⟩
      refine ⟨fun y hy => decide_eq_true ?_, h2, h4⟩
      by_cases z : x.cps.toList < y.cps.toList
      · exact z
      · have := leS_anti (h1 y hy) z
        exact absurd (this ▸ hy) h3
theorem step_nodup {ks : List Str} {k : Str} (h : ks.Nodup) : (AxS.step ks k).Nodup := by
  unfold AxS.step
  split
  · exact h
  · rename_i z
    rw [List.nodup_append]
    exact ⟨h, by simp, fun a ha b hb => by rw [List.mem_singleton.mp hb]; exact fun e => z (e ▸ ha)⟩
theorem fold_nodup : ∀ (xs ks : List Str), ks.Nodup → (xs.foldl AxS.step ks).Nodup
  | [], ks, h => h
  | x :: xs, ks, h => fold_nodup xs _ (step_nodup h)
theorem fold_all : ∀ (xs ks : List Str), (ks ++ xs).Nodup → xs.foldl AxS.step ks = ks ++ xs
  | [], ks, _ => by rw [List.append_nil]; rfl
  | x :: xs, ks, h => by
    have e : AxS.step ks x = ks ++ [x] := by
      unfold AxS.step
      rw [if_neg]
      intro z
      exact (List.nodup_append.mp h).2.2 x z x List.mem_cons_self rfl
    rw [List.foldl_cons, e, fold_all xs (ks ++ [x]) (by rw [List.append_assoc]; exact h), List.append_assoc]
    rfl
theorem uniq_nodup (xs : List Str) : (AxS.uniq xs).Nodup := fold_nodup xs [] List.nodup_nil
theorem uniq_self {xs : List Str} (h : xs.Nodup) : AxS.uniq xs = xs := fold_all xs [] h
theorem fold_mem : ∀ (xs ks : List Str) {x : Str}, x ∈ xs.foldl AxS.step ks → x ∈ ks ∨ x ∈ xs
  | [], ks, x, h => .inl h
  | y :: xs, ks, x, h => by
    rcases fold_mem xs _ h with z | z
    · unfold AxS.step at z
      split at z
      · exact .inl z
      · rcases List.mem_append.mp z with z | z
        · exact .inl z
        · exact .inr (List.mem_cons.mpr (.inl (List.mem_singleton.mp z)))
    · exact .inr (List.mem_cons_of_mem _ z)
theorem uniq_mem {xs : List Str} {x : Str} (h : x ∈ AxS.uniq xs) : x ∈ xs := (fold_mem xs [] h).elim (fun z => nomatch z) id
theorem sorted_set {xs ss : List Str} (hp : ss.Perm (AxS.uniq xs)) (hs : sortedS ss = true) : decide (xs = ss) = riseB xs := by
  rw [Bool.eq_iff_iff, decide_eq_true_iff, rise_iff]
  constructor
  · intro e
    subst e
    exact ⟨sorted_pw hs, hp.nodup_iff.mpr (uniq_nodup _)⟩
  · rintro ⟨h1, h2⟩
    rw [uniq_self h2] at hp
    exact (List.Perm.eq_of_pairwise (fun a b _ _ => leS_anti) (sorted_pw hs) h1 hp).symm
end An

set_option Elab.async false
set_option linter.all false
set_option maxRecDepth 100000
set_option maxHeartbeats 4000000
/-! exceptions over the hand layer: raise of an own class, a call that may raise, try with one clause -/
namespace L2
open PySem PySem.Spec PyProof.Rows

theorem ObjOk.there {P : Program} {w : World} {H : Hp} {h : Heap} {a : Addr} {o : HO} (x : ObjOk P w H h a o) : ∃ ob, h.get? a = some ob := by
  cases o with
  | lst xs => obtain ⟨_, _, _, _, e⟩ := x; exact ⟨_, e⟩
  | tup xs => obtain ⟨_, _, _, ob, e, _⟩ := x; exact ⟨_, e⟩
  | dK kvs => obtain ⟨_, _, _, _, ob, _, _, e, _⟩ := x; exact ⟨_, e⟩
  | dT kvs => obtain ⟨_, _, _, _, ob, _, _, e, _⟩ := x; exact ⟨_, e⟩
  | set S n => obtain ⟨ob, _, _, _, e, _⟩ := x; exact ⟨_, e⟩
  | ins C dx fs => obtain ⟨_, _, _, e, _⟩ := x; exact ⟨_, e⟩
  | own y => exact x
  | xd fs => obtain ⟨_, ⟨_, _, _, e, _⟩, _⟩ := x; exact ⟨_, e⟩
  | rng lo hi => obtain ⟨_, _, _, e⟩ := x; exact ⟨_, e⟩
  | frz ob u => obtain ⟨e, _⟩ := x; exact ⟨_, e⟩
  | tbl ps => exact ⟨_, (show h.get? a = some _ from x)⟩
  | met f y => exact ⟨_, (show h.get? a = some _ from x)⟩
  | ext φ => obtain ⟨_, e, _⟩ := x; exact e

/-- an exception at a, its traceback at T -/
def ExcAt (h : Heap) (a T : Addr) (cls : Value) : Prop :=
  ∃ a0 oe vs oT ts, h.get? a = some oe ∧ (oe.cls = cls ∧ vs[0]? = some a0) ∧ oe.data = .fields vs ∧ vs[1]? = some (.ref T) ∧ T ≠ a ∧ h.get? T = some oT ∧ oT.data = .fields ts ∧ ts[3]? = some .none
/-- how an exception lies behind a call -/
def CXF (P : Program) (w : World) : CXT := fun outer H s E e s' => ∃ a T cls H', e = .ref a ∧ s'.os = s.os ∧ AllBare s'.gens ∧ Un (frs outer) [] H H' s.heap s'.heap ∧ HOk P w H' s'.heap ∧
  s.heap.get? a = none ∧ s.heap.get? T = none ∧ H' a = none ∧ H' T = none ∧ ExcAt s'.heap a T cls ∧ E cls none H'

section
variable {X : Cx} {pins : List (Addr × Obj)} {σ : St} {H : Hp} {s : Shared}
theorem Inv.none_of (I : Inv X pins σ H s) {a : Addr} (e : s.heap.get? a = none) : H a = none := by
  cases q : H a with
  | none => rfl
  | some u =>
    obtain ⟨ob, z⟩ := (I.hok a u q).there
    rw [e] at z; cases z
theorem Inv.old_none (I : Inv X pins σ H s) (hex : X.ex = []) {a : Addr} (e : s.heap.get? a = none) : X.s₀.heap.get? a = none := by
  cases q : X.s₀.heap.get? a with
  | none => rfl
  | some o =>
    obtain ⟨ob, z⟩ := I.base.there a o q (by rw [hex]; simp)
    rw [e] at z; cases z
/-- the whole heap but some records and the frames -/
abbrev hidF (h : Heap) (as : List Addr) (l : List Env) : Heap := PySem.W.hideAll h (as ++ frs l)
theorem hidF_frames {h : Heap} {as : List Addr} {base : Heap} {l : List Env} (f : h.FunFrames base l) : h.FunFrames (hidF h as l) l :=
  PySem.W.funFrames_hide f fun env he b hb => List.mem_append_right _ (List.mem_filterMap.mpr ⟨env, he, hb⟩)
theorem hidF_stays {h : Heap} {as : List Addr} {l : List Env} : (hidF h as l).StaysIn h := fun _ _ q => PySem.W.of_hideAll _ q

/-- a made exception leaves the def's frame -/
theorem raise_leaves (hst : X.stack = X.env :: X.outer) (hfr : X.env.frame = some X.env.locals) (hex : X.ex = []) (I : Inv X pins σ H s) {e : Addr} {cls : Value} {args : List Value} {h' : Heap} (hx : Heap.MadeExcOf s.heap h' e cls args) {E : XK} (q : E cls none H)
    {Ex : Value → Shared → Prop} : wpAny (model X.prog X.w) X.A (leaving X.env (.ref e)) (fun _ s'' => CXF X.prog X.w X.outer X.H₀ X.s₀ E (.ref e) s'') Ex { s with heap := h' } := by
  have fr := hidF_frames (as := []) I.stack
  have hA : X.A.frames = some (X.env :: X.outer) := by rw [I.ok.frames, hst]
  obtain ⟨t, he, htn, ht⟩ := hx.there
  have fresh : ∀ b, s.heap.get? b = none → (hidF s.heap [] X.stack).get? b = none := fun b hb => by
    cases hq : (hidF s.heap [] X.stack).get? b with
    | none => rfl
    | some o' => have := hidF_stays b o' hq; rw [hb] at this; cases this
  rw [hst] at fr
  refine wpAny_leaving_firstW (base := hidF s.heap [] X.stack) (a0 := .ref t) hA ((by rw [hst]; exact fr : s.heap.FunFrames (hidF s.heap [] X.stack) (X.env :: X.outer)).of_keeps fun b o hb _ => ⟨o, hx.keeps b o hb, rfl⟩) hfr he (fun b o hb => hx.keeps b o (hidF_stays b o hb)) (fresh e hx.new) rfl rfl rfl fun h2 L => ?_
  obtain ⟨k1, k2, ⟨oe, vs, T, oT, ts, t1, t2, t3, t4, t5, t6, t7, t8, t9⟩, k4⟩ := L
  have stk : ∀ b ∈ frs X.stack, H b = none := I.stkFree
  have kp : ∀ b o, s.heap.get? b = some o → b ∉ frs X.stack → h2.get? b = some o := fun b o e hb => k1 b o (PySem.W.hideAll_get _ e (by simpa using hb))
  have sl : ∀ b o, s.heap.get? b = some o → b ∈ frs X.stack → ∃ sl, h2.get? b = some { o with slots := sl } := fun b o e hb => by
    obtain ⟨_, o', ho', hd⟩ := I.stack.mem hb
    rw [e] at ho'; cases ho'
    exact k4 b o (hx.keeps b o e) hd
  have nL : ∀ b o, X.s₀.heap.get? b = some o → b ≠ X.env.locals := fun b o e => Nat.ne_of_lt (Nat.lt_of_lt_of_le (Heap.lt_size e) I.ok.above)
  have nex : ∀ b, b ∉ X.ex := fun b => by rw [hex]; simp
  have nT : s.heap.get? T = none := by
    cases qT : s.heap.get? T with
    | none => rfl
    | some o =>
      exfalso
      by_cases hT : T ∈ frs X.stack
      · have k2' : h2.FunFrames (hidF s.heap [] X.stack) X.stack := by have z := k2; rw [← hst] at z; exact z
        obtain ⟨_, o', ho', hd⟩ := k2'.mem hT
        rw [t7] at ho'; cases ho'
        exact hd _ t8
      · have z : (hidF s.heap [] X.stack).get? T = some o := PySem.W.hideAll_get _ qT (by simpa using hT)
        rw [t5] at z; cases z
  refine ⟨e, T, cls, H, rfl, I.os, I.bare, ⟨fun b o e1 n hb _ => ?_, fun b o e1 n hb _ => ?_, fun b o e1 n _ => I.base.free b o e1 n (nex b), fun b o e1 _ => ?_, I.base.tups, I.base.frzs, I.base.tbls⟩, fun b u e1 => ?_, I.old_none hex hx.new, I.old_none hex nT, I.none_of hx.new, I.none_of nT, ⟨_, oe, vs, oT, ts, t1, t2, t3, t4, t6, t7, t8, t9⟩, q⟩
  · refine kp b o (I.base.keep b o e1 n hb (nex b)) fun z => ?_
    rcases List.mem_cons.mp (I.stkSub b z) with r | r
    · exact nL b o e1 r
    · exact hb r
  · obtain ⟨sl1, e2⟩ := I.base.slot b o e1 n hb (nex b)
    by_cases hz : b ∈ frs X.stack
    · obtain ⟨sl2, e3⟩ := sl b _ e2 hz
      exact ⟨sl2, e3⟩
    · exact ⟨sl1, kp b _ e2 hz⟩
  · obtain ⟨o', e2⟩ := I.base.there b o e1 (nex b)
    by_cases hz : b ∈ frs X.stack
    · obtain ⟨sl2, e3⟩ := sl b _ e2 hz
      exact ⟨_, e3⟩
    · exact ⟨o', kp b _ e2 hz⟩
  · refine (I.hok b u e1).stay (fun c v hc r => kp c v r fun z => ?_) (fun _ r => r) fun _ _ r => r
    have hz := stk c z
    rcases hc with y | y
    · rw [y, e1] at hz; cases hz
    · rw [y] at hz; cases hz
end

/-! ### raise C(..) -/
/-- an own class of exceptions, straight or by way of others under B, without an __init__ of its own -/
theorem exc_of_in {K : PySem.W.Frag} {h : Heap} {C : Addr} {bmB : List Value} {newId : String} (X : K.In h) (q : PySem.W.excIn K C bmB newId = true) :
    ∃ bm N nm q bs hdct sn sub ab col dd k0 k1 k2 k3 k5 mN, h.get? C = some (excClassObj nm q C N bs bm hdct sn sub ab col dd k0 k1 k2 k3 k5 newId) ∧ h.Ns N mN ∧ mN "__init__" = none ∧ OwnTail h bmB bm := by
  unfold PySem.W.excIn at q
  split at q
  · rename_i dd cd sl ho
    split at q
    · rename_i C' bm k0 k1 k2 k3 n k5 hm hs
      simp only [Bool.and_eq_true, beq_iff_eq, Bool.not_eq_true'] at q
      obtain ⟨⟨⟨⟨⟨rfl, rfl⟩, hdel⟩, ht⟩, hok⟩, hni⟩ := q
      obtain ⟨nm, bs, mro, ns, qn, hd, sn, sub, ab, col, del⟩ := cd
      dsimp only at hm hdel hok hni
      subst hm hdel
      have hsl : sl = #[k0, k1, k2, k3, some (.builtin n), k5] := by
        obtain ⟨l⟩ := sl
        simp only at hs
        rw [hs]
      subst hsl
      exact ⟨bm, ns, nm, qn, bs, hd, sn, sub, ab, col, dd, k0, k1, k2, k3, k5, _, X _ _ ho, .of_isNs (PySem.W.isNs_of_in X hok), PySem.W.nsMap_none_of_in X hok hni, PySem.W.tail_of_in X ht⟩
    · cases q
  · cases q
abbrev mroVE : List Value := [.type "ValueError", .type "Exception", .type "BaseException", .type "object"]
/-- what is wanted where an exception is made here -/
def Throws (X : Cx) (R : St → Hp → Value → Prop) : Prop := ∀ (pins : List (Addr × Obj)) (σ : St) (H : Hp) (s : Shared) (e : Addr) (cls : Value) (args : List Value) (h' : Heap), Inv X pins σ H s → Heap.MadeExcOf s.heap h' e cls args → R σ H cls → X.xe (.ref e) { s with heap := h' }
def tRaise (C : Addr) (R : St → Hp → Value → Prop) (t : TA) : TS := fun _ σ H => t σ H fun vs H1 => vs.length ≤ sizeLine ∧ R σ H1 (.ref C)
section
variable {X : Cx}
theorem ps_raise {x : Str} {C : Addr} {e₀ : Expr} {rest : List Expr} {np cpos pos : Pos} {R : St → Hp → Value → Prop} {t : TA} (hc : X.calm = true) (ht : Throws X R) (hg : Gl X x) (hm : X.mg x = some (.ref C)) (hex : PySem.W.excIn X.K C mroVE "ValueError.__new__" = true) (ha : PA X (e₀ :: rest) t)
    (he : starEach (e₀ :: rest) X.env = (false, eval e₀ X.env) :: starEach rest X.env := by rfl) (hplain : (backTo cpos (starEach rest X.env)).any (·.1) = false := by rfl) (hd : (x == ("__debug__" : Str)) = false := by decide) :
    PS X (.Raise (some (.Call (.Name x np) (e₀ :: rest) [] cpos)) none pos) (tRaise C R t) := by
  intro pins s σ H D I h
  obtain ⟨tl, N, nm, q, bs, hdct, sn, sub, ab, col, dd, k0, k1, k2, k3, k5, mN, hC, hN, hni, T⟩ := exc_of_in I.ok.mod.kin hex
  refine wpAny_Raise_call_subU (C := C) (nm := nm) (q := q) (N := N) (bs := bs) (bm := tl) (hdct := hdct) (sn := sn) (sub := sub) (ab := ab) (col := col) (dd := dd) (k0 := k0) (k1 := k1) (k2 := k2) (k3 := k3) (k5 := k5)
    F.excBase_ValueError (by decide +kernel) F.excBase_ValueError (mN := mN) (T.hasType F.excBase_ValueError.hasBase) (I.ok.hd hc) (by rw [he]; show (false || (backTo cpos (starEach rest X.env)).any (·.1)) = false; rw [hplain]; rfl) hni (ld_glob I hg hm ⟨rfl, ?_⟩ hd)
  have ha' := ha cpos pins s σ H _ I h
  rw [he] at ha' ⊢
  exact Calls.evalArgs_plain (wpAny_mono ha' (fun us s₂ ⟨vs, H2, I2, r2, z2, q2⟩ => ⟨rfl, by rw [← r2.length]; exact z2, I2.bk _ _ hC, hN.keeps I2.bk, T.keeps I2.bk, fun h' e hm' => ht pins σ H2 s₂ e _ _ h' I2 hm' q2⟩) fun _ _ y => y)
/-- a def's body: what it raises leaves it -/
theorem throws_fn {P : Program} {w : World} {K : PySem.W.Frag} {mg : Str → Option Value} {base : Heap} {N : List Str} {qual : Str} {scope : Scope} {f : Addr} {cd : Value} {A : Around} {outer : List Env} {s : Shared} {H : Hp} {E : XK} :
    Throws (cxOf (CXF P w) P w K mg base N qual scope f cd A outer s H E) (fun _ H' cls => E cls none H') :=
  fun _ _ _ _ _ _ _ _ I hx q => raise_leaves rfl rfl rfl I hx q
end

/-! ### a call that may raise -/
def Raises (X : Cx) (R : St → Hp → Value → Prop) : Prop := ∀ (pins : List (Addr × Obj)) (σ : St) (H : Hp) (s : Shared) (e : Value) (s' : Shared), Inv X pins σ H s → CXF X.prog X.w X.stack H s (fun cls _ H' => R σ H' cls) e s' → X.xe e s'
def tCallX (sp : Sp) (R : St → Hp → Value → Prop) (t : TA) : TE := fun σ H Q => t σ H fun vs H1 => sp vs H1 Q (fun cls _ H' => R σ H' cls)
section
variable {X : Cx} {k : Nat} {f : Addr} {fd : FuncData} {ps : List Str} {sp : Sp} {x : Str} {p pos : Pos} {e : Expr} {es : List Expr} {t : TA} {R : St → Hp → Value → Prop}
theorem run_fnX {pins : List (Addr × Obj)} {σ : St} {H : Hp} {s : Shared} {Q : VK} {us : List Value} {vs : List V} (F : FnOk X.prog X.w X.K X.mg X.base (CXF X.prog X.w) k f fd ps sp) (hr : Room k X.A) (hb : Binds X.K fd ps []) (hx : Raises X R)
    (I : Inv X pins σ H s) (r : Vals vs us) (h : sp vs H Q (fun cls _ H' => R σ H' cls)) : wpAny (model X.prog X.w) X.A (call (.ref f) us) (EP X pins σ Q) X.xe s := by
  have hl : us.length = ps.length := by rw [← r.length]; exact F.len _ _ _ _ h
  have hb' := hb s us I.kIn (by simpa using hl)
  rw [List.append_nil] at hb'
  refine wpAny_call (codeAny_mono (F.run X.A X.stack s H ⟨us, []⟩ us vs Q _ hr I.env0 hb' r h) fun r s' hq => ?_)
  cases r with
  | error e => exact hx pins σ H s e s' I hq
  | ok fl =>
    cases fl with
    | ret u => exact I.after hq
    | next => exact False.elim hq
    | brk => exact False.elim hq
    | cont => exact False.elim hq
/-- a def of the text that may raise -/
structure CalX (P : Program) (w : World) (K : PySem.W.Frag) (mg : Str → Option Value) (base : Heap) (k : Nat) (x : Str) (ps : List Str) (sp : Sp) : Prop where
  ex : ∃ (f : Addr) (fd : FuncData), FnOk P w K mg base (CXF P w) k f fd ps sp ∧ mg x = some (.ref f) ∧ PySem.W.keepIn K (.ref f) = true ∧ Binds K fd ps []
theorem pe_callX (C : CalX X.prog X.w X.K X.mg X.base k x ps sp) (hr : Room k X.A) (hx : Raises X R) (ha : PA X (e :: es) t) (hg : Gl X x := by rfl)
    (hdb : (x == ("__debug__" : Str)) = false := by decide) (he : starEach (e :: es) X.env = (false, eval e X.env) :: starEach es X.env := by rfl) (hpl : (backTo pos (starEach es X.env)).any (·.1) = false := by rfl) :
    PE X (.Call (.Name x p) (e :: es) [] pos) (tCallX sp R t) := by
  obtain ⟨f, fd, F, hm, hk, hb⟩ := C.ex
  intro pins s σ H Q I h
  refine wpAny_Call_Name_kw (ld_glob I hg hm ?_ hdb)
  refine PySem.W.callWith_K (h₀ := X.base) I.ok.mod.kin hk (thn (ha pos pins s σ H _ I h) fun us s1 ⟨vs, H1, I1, r, q⟩ => ⟨I1.kIn, ?_⟩) he hpl
  exact run_fnX F hr hb hx I1 r q
end
end L2

set_option Elab.async false
set_option linter.all false
set_option maxRecDepth 100000
set_option maxHeartbeats 4000000
namespace L2
open PySem PySem.Spec PyProof.Rows

/-- a record in nobody's hand that came behind the entry -/
def Fr1 (X : Cx) (pins : List (Addr × Obj)) (H : Hp) (b : Addr) : Prop :=
  H b = none ∧ X.s₀.heap.get? b = none ∧ b ≠ X.env.locals ∧ (∀ x c, X.env.cells.lookup x = some c → c ≠ b) ∧ ∀ p ∈ X.pn ++ pins, p.1 ≠ b
section
variable {X : Cx} {pins pins' : List (Addr × Obj)} {σ : St} {H : Hp} {s : Shared} {h' : Heap} {R : St → Hp → Value → Prop}
theorem Inv.fr1 (I : Inv X pins σ H s) (hex : X.ex = []) {H' : Hp} {b : Addr} (e : s.heap.get? b = none) (n : H' b = none) : Fr1 X pins H' b := by
  refine ⟨n, I.old_none hex e, fun z => ?_, fun x c q z => ?_, fun p hp z => ?_⟩
  · obtain ⟨m, ⟨o, _, _, ho, _⟩, _⟩ := I.loc
    rw [← z, e] at ho; cases ho
  · obtain ⟨v, o, ho, _⟩ := I.cell x c q
    rw [z, e] at ho; cases ho
  · have ho := (I.pin p hp).1
    rw [z, e] at ho; cases ho
/-- records turned, slots of frames changed -/
theorem Inv.land {ch : List Addr} (I : Inv X pins σ H s) (hch : ∀ b ∈ ch, Fr1 X pins H b) (k1 : (hidF s.heap ch X.stack).StaysIn h') (k2 : s.heap.UpToSlots h') (tk : Nat) : Inv X pins σ H { s with heap := h', toks := tk } := by
  have kp : ∀ b o, s.heap.get? b = some o → b ∉ ch → b ∉ frs X.stack → h'.get? b = some o := fun b o e hc hb => k1 b o (PySem.W.hideAll_get _ e (by
    intro z
    rcases List.mem_append.mp z with z | z
    · exact hc z
    · exact hb z))
  have any : ∀ b o, s.heap.get? b = some o → b ∉ ch → ∃ sl, h'.get? b = some { o with slots := sl } := fun b o e hc => by
    by_cases hb : b ∈ frs X.stack
    · obtain ⟨_, o', ho', hd⟩ := I.stack.mem hb
      rw [e] at ho'; cases ho'
      exact k2 b o e hd
    · exact ⟨o.slots, kp b o e hc hb⟩
  have nst : ∀ b, b ≠ X.env.locals → b ∉ X.fs → b ∉ frs X.stack := fun b h1 h2 z => (List.mem_cons.mp (I.stkSub b z)).elim h1 h2
  have nL : ∀ b o, X.s₀.heap.get? b = some o → b ≠ X.env.locals := fun b o e => Nat.ne_of_lt (Nat.lt_of_lt_of_le (Heap.lt_size e) I.ok.above)
  have nch : ∀ b o, X.s₀.heap.get? b = some o → b ∉ ch := fun b o e z => by rw [(hch b z).2.1] at e; cases e
  have cellK : ∀ c v, s.heap.IsCell c v → h'.IsCell c v := fun c v ⟨o, ho, hd⟩ => by
    obtain ⟨sl, e⟩ := k2 c o ho fun vs z => by rw [hd] at z; cases z
    exact ⟨_, e, hd⟩
  refine ⟨I.ok, I.os, I.bare, ⟨fun b o e n hb hx => ?_, fun b o e n hb hx => ?_, I.base.free, fun b o e hx => ?_, I.base.tups, I.base.frzs, I.base.tbls⟩, ?_, fun x c e => ?_, I.free, I.freeC, fun p hp => ?_, fun b u e => ?_, I.len⟩
  · exact kp b o (I.base.keep b o e n hb hx) (nch b o e) (nst b (nL b o e) hb)
  · obtain ⟨sl, e1⟩ := I.base.slot b o e n hb hx
    obtain ⟨sl', e2⟩ := any b _ e1 (nch b o e)
    exact ⟨sl', e2⟩
  · obtain ⟨o', e1⟩ := I.base.there b o e hx
    obtain ⟨sl', e2⟩ := any b _ e1 (nch b o e)
    exact ⟨_, e2⟩
  · obtain ⟨m, hn, hl⟩ := I.loc
    refine ⟨m, k2.ns hn, fun i x v e1 e2 e3 => ?_⟩
    obtain ⟨u, r, l⟩ := hl i x v e1 e2 e3
    refine ⟨u, r, ?_⟩
    rcases l with l | ⟨k, c, e, z⟩
    · exact .inl l
    · exact .inr ⟨k, c, e, cellK c _ z⟩
  · obtain ⟨v, z⟩ := I.cell x c e
    exact ⟨v, cellK c v z⟩
  · obtain ⟨e, n, ne, nf, d⟩ := I.pin p hp
    exact ⟨kp _ _ e (fun z => (hch _ z).2.2.2.2 p hp rfl) (nst _ ne nf), n, ne, nf, d⟩
  · refine (I.hok b u e).stay (fun c v hc r => kp c v r (fun z => ?_) fun z => ?_) (fun _ r => r) fun _ _ r => r
    · have hz := (hch c z).1
      rcases hc with y | y
      · rw [y, e] at hz; cases hz
      · rw [y] at hz; cases hz
    · have hz := I.stkFree c z
      rcases hc with y | y
      · rw [y, e] at hz; cases hz
      · rw [y] at hz; cases hz
theorem Inv.takeUp2 {T : Addr} {o : HO} (I : Inv X pins σ H s) (f : Fr1 X pins H T) (new : ObjOk X.prog X.w (upd H T o) s.heap T o) : Inv X pins σ (upd H T o) s := by
  obtain ⟨n, h0, hL, hc, hp⟩ := f
  refine ⟨I.ok, I.os, I.bare, I.base.adopt2 h0 n, I.loc, I.cell, ?_, fun x c e => ?_, fun p hpp => ?_, I.hok.adopt n new, I.len⟩
  · rw [upd_ne (Ne.symm hL)]; exact I.free
  · rw [upd_ne (hc x c e)]; exact I.freeC x c e
  · obtain ⟨e, n', ne, nf, d⟩ := I.pin p hpp
    exact ⟨e, by rw [upd_ne (hp p hpp)]; exact n', ne, nf, d⟩
/-- the locals are forgotten -/
theorem Inv.forgot (I : Inv X pins σ H s) {m : Str → Option Value} (hn : h'.Ns X.env.locals m) (sb : Heap.SameBut X.env.locals s.heap h') (tk : Nat) : Inv X pins (List.replicate X.N.length none) H { s with heap := h', toks := tk } := by
  have nL : ∀ b o, X.s₀.heap.get? b = some o → b ≠ X.env.locals := fun b o e => Nat.ne_of_lt (Nat.lt_of_lt_of_le (Heap.lt_size e) I.ok.above)
  refine ⟨I.ok, I.os, I.bare, ⟨fun b o e n hb hx => (sb.2 b (nL b o e)).trans (I.base.keep b o e n hb hx), fun b o e n hb hx => ?_, I.base.free, fun b o e hx => ?_, I.base.tups, I.base.frzs, I.base.tbls⟩, ⟨m, hn, fun i x v _ e2 _ => ?_⟩, fun x c e => ?_, I.free, I.freeC, fun p hp => ?_, fun b u e => ?_, by simp⟩
  · obtain ⟨sl, e1⟩ := I.base.slot b o e n hb hx
    exact ⟨sl, (sb.2 b (nL b o e)).trans e1⟩
  · obtain ⟨o', e1⟩ := I.base.there b o e hx
    exact ⟨o', (sb.2 b (nL b o e)).trans e1⟩
  · rw [List.getElem?_replicate] at e2
    split at e2 <;> cases e2
  · obtain ⟨v, z⟩ := I.cell x c e
    exact ⟨v, z.sameBut sb (I.cne x c e)⟩
  · obtain ⟨e, n, ne, nf, d⟩ := I.pin p hp
    exact ⟨(sb.2 p.1 ne).trans e, n, ne, nf, d⟩
  · refine (I.hok b u e).stay (fun c v hc r => (sb.2 c fun z => ?_).trans r) (fun _ r => r) fun _ _ r => r
    have hz := I.free
    rw [← z] at hz
    rcases hc with y | y
    · rw [y, e] at hz; cases hz
    · rw [y] at hz; cases hz

/-- within a try's body -/
def Cx.tryc (X : Cx) (pins : List (Addr × Obj)) (R : St → Hp → Value → Prop) : Cx :=
  { X with pn := X.pn ++ pins, xe := fun e s' => ∃ a T cls σ H, e = .ref a ∧ Inv X pins σ H s' ∧ Fr1 X pins H a ∧ Fr1 X pins H T ∧ ExcAt s'.heap a T cls ∧ R σ H cls }
theorem Inv.into (I : Inv X pins σ H s) (R : St → Hp → Value → Prop) : Inv (X.tryc pins R) [] σ H s :=
  ⟨⟨I.ok.mod, I.ok.kind, I.ok.glob, I.ok.blt, I.ok.above, I.ok.inj, I.ok.has, I.ok.cab, I.ok.hd, I.ok.frames, I.ok.stk, I.ok.exf, I.ok.bs, I.ok.bsz, I.ok.noex, I.ok.exfs, I.ok.funs, I.ok.frf⟩, I.os, I.bare, I.base, I.loc, I.cell, I.free, I.freeC, fun p hp => I.pin p (by
    have hp : p ∈ (X.pn ++ pins) ++ [] := hp
    simpa using hp), I.hok, I.len⟩
theorem Inv.outof (I : Inv (X.tryc pins R) pins' σ H s) : Inv X pins σ H s :=
  ⟨⟨I.ok.mod, I.ok.kind, I.ok.glob, I.ok.blt, I.ok.above, I.ok.inj, I.ok.has, I.ok.cab, I.ok.hd, I.ok.frames, I.ok.stk, I.ok.exf, I.ok.bs, I.ok.bsz, I.ok.noex, I.ok.exfs, I.ok.funs, I.ok.frf⟩, I.os, I.bare, I.base, I.loc, I.cell, I.free, I.freeC, fun p hp => I.pin p (List.mem_append_left _ hp), I.hok, I.len⟩
theorem SP.outof {D : Ends} {f : Flow} {s' : Shared} (h : SP (X.tryc pins R) pins' D f s') : SP X pins D f s' := by
  cases f with
  | next => obtain ⟨σ', H', I, q⟩ := h; exact ⟨σ', H', I.outof, q⟩
  | brk => obtain ⟨σ', H', I, q⟩ := h; exact ⟨σ', H', I.outof, q⟩
  | cont => obtain ⟨σ', H', I, q⟩ := h; exact ⟨σ', H', I.outof, q⟩
  | ret u => obtain ⟨v, σ', H', I, r, q⟩ := h; exact ⟨v, σ', H', I.outof, r, q⟩
theorem raises_tryc (hex : X.ex = []) : Raises (X.tryc pins R) R := by
  intro pins' σ H s e s' I hx
  obtain ⟨a, T, cls, H', rfl, os, bare, un, hok, na, nT, ha, hT, ea, q⟩ := hx
  have I0 : Inv X pins σ H s := I.outof
  have I1 : Inv X pins σ H' s' := I0.call' (ch := []) os un hok bare fun b z => absurd z (by simp)
  exact ⟨a, T, cls, σ, H', rfl, I1, I0.fr1 hex na ha, I0.fr1 hex nT hT, ea, q⟩

/-- within an except suite -/
def Cx.inexc (X : Cx) (e : Value) : Cx := { X with A := X.A.mark (some e), calm := false, xe := fun _ _ => False }
theorem Inv.mark (I : Inv X pins σ H s) (e : Value) : Inv (X.inexc e) pins σ H s :=
  ⟨⟨I.ok.mod, I.ok.kind, I.ok.glob, I.ok.blt, I.ok.above, I.ok.inj, I.ok.has, I.ok.cab, fun z => (by cases z), I.ok.frames, I.ok.stk, I.ok.exf, I.ok.bs, I.ok.bsz, I.ok.noex, I.ok.exfs, I.ok.funs, I.ok.frf⟩, I.os, I.bare, I.base, I.loc, I.cell, I.free, I.freeC, I.pin, I.hok, I.len⟩
theorem Inv.unmark {e : Value} (ok : X.Ok) (I : Inv (X.inexc e) pins σ H s) : Inv X pins σ H s :=
  ⟨ok, I.os, I.bare, I.base, I.loc, I.cell, I.free, I.freeC, I.pin, I.hok, I.len⟩
end

/-- an exception that is in hand -/
def IsExc (a : Addr) (cls : Value) : HO := .ext fun h => ∃ o vs, h.get? a = some o ∧ o.cls = cls ∧ o.data = .fields vs
def tTry (K : PySem.W.Frag) (C : Addr) (i : Nat) (tb : (St → Hp → Value → Prop) → TS) (th : TS) : TS := fun D σ H => ∃ R : St → Hp → Value → Prop, tb R D σ H ∧
  ∀ σ' H' cls a, R σ' H' cls → H' a = none → PySem.W.exmOne K cls (.ref C) = some true ∧ th { nx := fun _ _ => False, rt := D.rt } (σ'.set i (some (.ref a))) (upd H' a (IsExc a cls))
section
variable {X : Cx}
theorem ps_try {body suite : List Stmt} {b₀ : Stmt} {c n : Str} {C : Addr} {i : Nat} {np hpos pos : Pos} {tb : (St → Hp → Value → Prop) → TS} {th : TS} (hst : X.stack = X.env :: X.outer) (hfr : X.env.frame = some X.env.locals) (hex : X.ex = [])
    (hb : ∀ pins R, PSs (X.tryc pins R) body (tb R)) (hg : Gl X c) (hm : X.mg c = some (.ref C)) (hN : X.N.Nodup) (hi : X.N[i]? = some n) (hl : X.env.scope.names.lookup n = some .local) (hs : ∀ e, PSs (X.inexc e) (b₀ :: suite) th)
    (hd : (c == ("__debug__" : Str)) = false := by decide) : PS X (.Try body [.ExceptHandler (some (.Name c np)) (some n) (b₀ :: suite) hpos] [] [] pos) (tTry X.K C i tb th) := by
  intro pins s σ H D I h
  obtain ⟨R, hb1, hh⟩ := h
  refine wpAny_Try_except (wpAny_mono (hb pins R [] s σ H D (I.into R) hb1) (fun f s1 q => ?_) fun e s1 q => ?_)
  · have q' : SP X pins D f s1 := q.outof
    cases f with
    | next => exact wpAny_execs_nil q'
    | brk => exact q'
    | cont => exact q'
    | ret u => exact q'
  · obtain ⟨a, T, cls, σ1, H1, rfl, I1, fa, fT, ⟨a0, oe, vs, oT, ts, e1, e2, e3, e4, e5, e6, e7, e8⟩, r1⟩ := q
    obtain ⟨hx, hth⟩ := hh σ1 H1 cls a r1 fa.1
    have hA : X.A.frames = some (X.env :: X.outer) := by rw [I1.ok.frames, hst]
    have hch : ∀ b ∈ [a, T], Fr1 X pins H1 b := fun b z => by
      rcases List.mem_cons.mp z with z | z
      · rw [z]; exact fa
      · rw [List.mem_singleton.mp z]; exact fT
    have fly : Heap.FlyingW (hidF s1.heap [a, T] X.stack) (X.env :: X.outer) a cls a0 s1.heap :=
      ⟨hidF_stays, PySem.W.hideAll_none _ (by simp), by have z := hidF_frames (as := [a, T]) I1.stack; rw [hst] at z ⊢; exact z, oe, vs, T, oT, ts, e1, e2, e3, e4, PySem.W.hideAll_none _ (by simp), e5, e6, e7, e8⟩
    refine wpAny_looks_onW hA hfr fly fun h2 held2 sm2 => ?_
    refine wpAny_landsW held2 fun h3 fly3 sm3 => ?_
    have I3 : Inv X pins σ1 H1 { s1 with heap := h3 } := I1.land hch fly3.1 (sm2.trans sm3) s1.toks
    refine wpAny_handleBy_cons (codeAny_handlers_test ?_) (by intro z; cases z)
    refine ld_glob (X := X.inexc (.ref a)) (I3.mark _) hg hm ?_ hd
    obtain ⟨ob, hob, hobc⟩ := fly3.there
    have LT : PySem.W.Looks (model X.prog X.w) h3 (typeOf (.ref a)) cls := hobc ▸ (PySem.W.Looks.ld hob).andThen .now
    refine (PySem.W.exm_one (K := X.K) (h := h3) I3.kIn LT hx).here ?_
    refine codeAny_handlers_suite_as (lands_againW fly3 fun h4 fly4 sm4 => ?_)
    have I4 : Inv X pins σ1 H1 { s1 with heap := h4 } := I1.land hch fly4.1 ((sm2.trans sm3).trans sm4) s1.toks
    have new : ObjOk X.prog X.w (upd H1 a (IsExc a cls)) h4 a (IsExc a cls) := by
      obtain ⟨oe4, vs4, g1, g2, g3, _⟩ := fly4.first
      exact ⟨⟨oe4, vs4, g1, g2, g3⟩, ⟨oe4, g1⟩, fun u1 u2 ⟨o, v, z1, z2, z3⟩ k => ⟨o, v, k o z1, z2, z3⟩⟩
    have I5 : Inv X pins σ1 (upd H1 a (IsExc a cls)) { s1 with heap := h4 } := I4.takeUp2 fa new
    refine store_ok (X := X.inexc (.ref a)) (v := .ref a) (I5.mark _) hN hi (Or.inl hl) rfl (fun s6 I6 => ?_) (Or.inr hl)
    refine wpAny_mono (hs (.ref a) pins s6 _ _ _ I6 hth) (fun f s7 q7 => ?_) fun _ _ z => z.elim
    cases f with
    | ret u =>
      obtain ⟨v, σ7, H7, I7, rv, q⟩ := q7
      have I7' : Inv X pins σ7 H7 s7 := I7.unmark I1.ok
      obtain ⟨m, hn, _⟩ := I7'.loc
      refine wpAny_nameGoes hl hn (by rw [I7'.ok.kind]; rfl) fun h8 m8 hn8 sb8 => ?_
      exact ⟨v, _, H7, I7'.forgot hn8 sb8 _, rv, q⟩
    | next => obtain ⟨_, _, _, z⟩ := q7; exact z.elim
    | brk => obtain ⟨_, _, _, z⟩ := q7; exact z.elim
    | cont => obtain ⟨_, _, _, z⟩ := q7; exact z.elim
/-! a clause without a name, the first of any number -/
end
end L2

set_option Elab.async false
set_option linter.all false
set_option maxRecDepth 100000
set_option maxHeartbeats 4000000
namespace L2
open PySem PySem.Spec PyProof.Rows
section
variable {P : Program} {w : World} {K : PySem.W.Frag} {mg : Str → Option Value} {base : Heap}
/-- a def that may raise -/
theorem Fun.okX {x qual : Str} {st : Stmt} {f : Addr} {fd : FuncData} {N ps : List Str} {k : Nat} {sp : Sp} (F : Fun K x qual st f fd) (S : FnScope N ps (defScope st)) (len : ∀ vs H Q E, sp vs H Q E → vs.length = ps.length)
    (hbody : ∀ (cdv : Value) (A : Around) (outer : List Env) (s : Shared) (H : Hp) (vs : List V) (Q : VK) (E : XK), Room k (A.deeper (envOfC qual (defScope st) s.heap.objs.size f cdv)) → sp vs H Q E →
      ∃ t, PSs (cxOf (CXF P w) P w K mg base N qual (defScope st) f cdv A outer s H E) (defBody st) t ∧ t { nx := fun _ H' => Q .non H', rt := Q } (start N vs) H) : FnOk P w K mg base (CXF P w) (k + 1) f fd ps sp := by
  obtain ⟨oc, od, kV, doc, pm, an, cdv, ct, osl, rfl, lk, hcd⟩ := F.ex
  refine fn_of lk hcd S len fun A outer s H vs Q E hr hsp => ?_
  obtain ⟨t, h, q⟩ := hbody cdv A outer s H vs Q E hr hsp
  exact ⟨t, h, q⟩
end
end L2

set_option Elab.async false
set_option linter.all false
set_option maxRecDepth 100000
set_option maxHeartbeats 4000000
/-! an exception of a call that goes on through the def; a list with a tuple's items put behind it -/
namespace L2
open PySem PySem.Spec PyProof.Rows
section
variable {X : Cx} {pins : List (Addr × Obj)} {σ : St} {H : Hp} {s : Shared}
end
section
variable {X : Cx}
end
theorem CalX.mk' {P : Program} {w : World} {K : PySem.W.Frag} {mg : Str → Option Value} {base : Heap} {k : Nat} {x qual : Str} {st : Stmt} {f : Addr} {fd : FuncData} {ps : List Str} {sp : Sp} (F : Fun K x qual st f fd) (G : FnOk P w K mg base (CXF P w) k f fd ps sp) (hm : mg x = some (.ref f))
    (b : Binds K fd ps []) : CalX P w K mg base k x ps sp := ⟨f, fd, G, hm, F.kp, b⟩
end L2

set_option Elab.async false
set_option linter.all false
set_option maxRecDepth 100000
set_option maxHeartbeats 4000000
/-! displays read as data -/
namespace L2
open PySem PySem.Spec PyProof.Rows
abbrev DEnv := Nat → PyData
/-- the names of need hold the data that env tells -/
abbrev Need := List (Nat × Bool)
def tupD : PyData → List PyData
  | .tuple ds => ds
  | _ => []
def EnvD (K : PySem.W.Frag) (need : Need) (env : DEnv) (σ : St) (H : Hp) : Prop := ∀ p ∈ need, (∃ v, σ[p.1]? = some (some v) ∧ Dw K H (env p.1) v) ∧ (p.2 = true → env p.1 = .tuple (tupD (env p.1)) ∧ (tupD (env p.1)).length ≤ 60)
def tDat (K : PySem.W.Frag) (need : Need) (f : DEnv → PyData) : TE := fun σ H Q => ∃ env, EnvD K need env σ H ∧ ∀ v H', Same H H' → Dw K H' (f env) v → Q v H'
def tDats (K : PySem.W.Frag) (need : Need) (f : DEnv → List PyData) : TA := fun σ H Q => ∃ env, EnvD K need env σ H ∧ ∀ vs H', Same H H' → DwAll K H' (f env) vs → Q vs H'
theorem EnvD.same {K : PySem.W.Frag} {need : Need} {env : DEnv} {σ : St} {H H' : Hp} (h : EnvD K need env σ H) (e : Same H H') : EnvD K need env σ H' := fun i hi => by
  obtain ⟨⟨v, h1, h2⟩, h3⟩ := h i hi
  exact ⟨⟨v, h1, Dw.same e _ _ h2⟩, h3⟩
theorem EnvD.left {K : PySem.W.Frag} {n m : Need} {env : DEnv} {σ : St} {H : Hp} (h : EnvD K (n ++ m) env σ H) : EnvD K n env σ H := fun i hi => h i (List.mem_append_left _ hi)
theorem EnvD.right {K : PySem.W.Frag} {n m : Need} {env : DEnv} {σ : St} {H : Hp} (h : EnvD K (n ++ m) env σ H) : EnvD K m env σ H := fun i hi => h i (List.mem_append_right _ hi)
theorem EnvD.sub {K : PySem.W.Frag} {n m : Need} {env : DEnv} {σ : St} {H : Hp} (h : EnvD K m env σ H) (hs : (n.all fun i => m.contains i) = true := by decide) : EnvD K n env σ H := fun i hi => h i (by
  have := List.all_eq_true.mp hs i hi
  exact List.elem_iff.mp this)
theorem EnvD.cons {K : PySem.W.Frag} {i : Nat} {m : Need} {env : DEnv} {σ : St} {H : Hp} {v : V} (h1 : σ[i]? = some (some v)) (h2 : Dw K H (env i) v) (h : EnvD K m env σ H) : EnvD K ((i, false) :: m) env σ H := fun j hj => by
  rcases List.mem_cons.mp hj with rfl | hj
  · exact ⟨⟨v, h1, h2⟩, fun z => by cases z⟩
  · exact h j hj
theorem EnvD.consT {K : PySem.W.Frag} {i : Nat} {m : Need} {env : DEnv} {σ : St} {H : Hp} {v : V} {ds : List PyData} (h1 : σ[i]? = some (some v)) (h2 : Dw K H (env i) v) (e : env i = .tuple ds) (l : ds.length ≤ 60) (h : EnvD K m env σ H) : EnvD K ((i, true) :: m) env σ H := fun j hj => by
  rcases List.mem_cons.mp hj with rfl | hj
  · exact ⟨⟨v, h1, h2⟩, fun _ => ⟨by rw [e]; rfl, by rw [e]; exact l⟩⟩
  · exact h j hj
theorem EnvD.nil {K : PySem.W.Frag} {env : DEnv} {σ : St} {H : Hp} : EnvD K [] env σ H := fun _ h => nomatch h
theorem DwAll.append {K : PySem.W.Frag} {H : Hp} : ∀ {ds es : List PyData} {xs ys : List V}, DwAll K H ds xs → DwAll K H es ys → DwAll K H (ds ++ es) (xs ++ ys)
  | [], _, _, _, h1, h2 => by rw [show _ = [] from h1]; exact h2
  | d :: ds, _, _, _, ⟨x, r, h1, h3, h4⟩, h2 => by rw [h1]; exact ⟨x, r ++ _, rfl, h3, DwAll.append h4 h2⟩
section
variable {X : Cx} {pos : Pos} {e a b : Expr} {es : List Expr} {n m : Need} {f f' : DEnv → PyData} {g g' : DEnv → List PyData}
theorem PE.weak {t t' : TE} (h : PE X e t) (k : ∀ σ H Q, t' σ H Q → t σ H Q) : PE X e t' := fun pins s σ H Q I q => h pins s σ H Q I (k σ H Q q)
theorem PA.weak {t t' : TA} (h : PA X es t) (k : ∀ σ H Q, t' σ H Q → t σ H Q) : PA X es t' := fun ps pins s σ H Q I q => h ps pins s σ H Q I (k σ H Q q)
theorem pd_nil : PA X [] (tDats X.K [] fun _ => []) := pa_nil.weak fun σ H Q ⟨env, _, k⟩ => k [] H (Same.refl _) rfl
theorem pd_cons (h1 : PE X e (tDat X.K n f)) (h2 : PA X es (tDats X.K m g)) (hs : starEach (e :: es) X.env = (false, eval e X.env) :: starEach es X.env := by rfl) : PA X (e :: es) (tDats X.K (n ++ m) fun env => f env :: g env) :=
  (pa_cons h1 h2 hs).weak fun σ H Q ⟨env, he, k⟩ => ⟨env, he.left, fun v H1 s1 dv => ⟨env, he.right.same s1, fun vs H2 s2 dvs => k (v :: vs) H2 (s1.trans s2) ⟨v, vs, rfl, Dw.same s2 _ _ dv, dvs⟩⟩⟩
theorem pd_tup {x1} (h : PA X es (tDats X.K n g)) (hz : es.length ≤ 1000 := by decide) (hg : ∀ env, (g env).length = es.length := by intro _; rfl) : PE X (.Tuple es x1 pos) (tDat X.K n fun env => .tuple (g env)) :=
  (pe_tup h).weak fun σ H Q ⟨env, he, k⟩ => ⟨env, he, fun vs H1 s1 dvs => ⟨An.le_line (by rw [dvs.length, hg]; omega), fun p np => k (.ref p) _ (s1.trans (An.same_upd np)) ⟨p, vs, rfl, SqT.of upd_same, DwAll.same (An.same_upd np) _ _ dvs⟩⟩⟩
theorem pd_lst (h : PA X es (tDats X.K n g)) (hz : es.length ≤ 1000 := by decide) (hg : ∀ env, (g env).length = es.length := by intro _; rfl) : PE X (.List es pos) (tDat X.K n fun env => .list (g env)) :=
  (pe_lst h).weak fun σ H Q ⟨env, he, k⟩ => ⟨env, he, fun vs H1 s1 dvs => ⟨An.le_line (by rw [dvs.length, hg]; omega), fun p np => k (.ref p) _ (s1.trans (An.same_upd np)) ⟨p, vs, rfl, SqL.of upd_same, DwAll.same (An.same_upd np) _ _ dvs⟩⟩⟩
theorem pd_var (i : Nat) {x : Str} (h : PE X (.Name x pos) (tVar i)) : PE X (.Name x pos) (tDat X.K [(i, false)] fun env => env i) :=
  h.weak fun σ H Q ⟨env, he, k⟩ => by
    obtain ⟨⟨v, h1, h2⟩, _⟩ := he _ List.mem_cons_self
    exact ⟨v, h1, k v H (Same.refl _) h2⟩
theorem pd_varT (i : Nat) {x : Str} (h : PE X (.Name x pos) (tVar i)) : PE X (.Name x pos) (tDat X.K [(i, true)] fun env => .tuple (tupD (env i))) :=
  h.weak fun σ H Q ⟨env, he, k⟩ => by
    obtain ⟨⟨v, h1, h2⟩, h3⟩ := he _ List.mem_cons_self
    have e : env i = .tuple (tupD (env i)) := (h3 rfl).1
    refine ⟨v, h1, k v H (Same.refl _) ?_⟩
    show Dw X.K H (.tuple (tupD (env i))) v
    rw [← e]
    exact h2
theorem pd_int {i j} : PE X (.Constant (.int i) j pos) (tDat X.K [] fun _ => .int i) := pe_int.weak fun σ H Q ⟨env, _, k⟩ => k _ H (Same.refl _) rfl
theorem pd_bl {b j} : PE X (.Constant (.bool b) j pos) (tDat X.K [] fun _ => .bool b) := pe_bl.weak fun σ H Q ⟨env, _, k⟩ => k _ H (Same.refl _) rfl
theorem pd_non {j} : PE X (.Constant .none j pos) (tDat X.K [] fun _ => .none) := pe_non.weak fun σ H Q ⟨env, _, k⟩ => k _ H (Same.refl _) rfl
theorem pd_str {x j} : PE X (.Constant (.str x) j pos) (tDat X.K [] fun _ => .str x) := pe_str.weak fun σ H Q ⟨env, _, k⟩ => k _ H (Same.refl _) rfl
theorem pd_dict0 : PE X (.Dict [] [] pos) (tDat X.K [] fun _ => .dict []) := pe_dnewK.weak fun σ H Q ⟨env, _, k⟩ p np => k _ _ (An.same_upd np) ⟨p, [], rfl, upd_same⟩
/-- a text that is told n times -/
theorem pd_mulS {x y : Str} {j1 j2 p1 p2} {k : Int} (ok : MulOk x k) (e : Txt.mul x k = y) : PE X (.BinOp (.Constant (.str x) j1 p1) .Mult (.Constant (.int k) j2 p2) pos) (tDat X.K [] fun _ => .str y) :=
  (pe_op op_mulS pe_str pe_int).weak fun σ H Q ⟨env, _, q⟩ => ⟨x, k, rfl, rfl, ok, q _ H (Same.refl _) (by rw [e]; rfl)⟩
theorem pd_catT (h1 : PE X a (tDat X.K n fun env => .tuple (g env))) (h2 : PE X b (tDat X.K m fun env => .tuple (g' env))) (hC : ∀ env : DEnv, (∀ p ∈ n ++ m, p.2 = true → (tupD (env p.1)).length ≤ 60) → (g env).length + (g' env).length ≤ 1000) :
    PE X (.BinOp a .Add b pos) (tDat X.K (n ++ m) fun env => .tuple (g env ++ g' env)) :=
  (pe_op op_catT2 h1 h2).weak fun σ H Q ⟨env, he, k⟩ => ⟨env, he.left, fun v H1 s1 ⟨p1, xs, ev, hp1, dv⟩ => ⟨env, he.right.same s1, fun u H2 s2 ⟨p2, ys, eu, hp2, du⟩ => by
    have l1 := dv.length
    have l2 := du.length
    have hz := hC env fun p hp z => ((he p hp).2 z).2
    exact ⟨p1, p2, xs, ys, ev, eu, s2.tupS hp1, hp2, An.le_line (by omega), fun p H3 s3 hp => k _ _ ((s1.trans s2).trans s3) ⟨p, _, rfl, hp, DwAll.append (DwAll.same (s2.trans s3) _ _ dv) (DwAll.same s3 _ _ du)⟩⟩⟩⟩
theorem DwAll.rep {K : PySem.W.Frag} {H : Hp} {ds : List PyData} {xs : List V} (h : DwAll K H ds xs) : ∀ k : Nat, DwAll K H (List.replicate k ds).flatten (List.replicate k xs).flatten
  | 0 => rfl
  | k + 1 => by rw [List.replicate_succ, List.replicate_succ, List.flatten_cons, List.flatten_cons]; exact DwAll.append h (DwAll.rep h k)
theorem pd_repT {k : Int} {j2 p2} (h1 : PE X a (tDat X.K n fun env => .tuple (g env))) (hg : ∀ env, g env ≠ [] ∧ (g env).length ≤ 1000) (k2 : 2 ≤ k) (k3 : k ≤ 1000) :
    PE X (.BinOp a .Mult (.Constant (.int k) j2 p2) pos) (tDat X.K n fun env => .tuple (List.replicate k.toNat (g env)).flatten) :=
  (pe_op op_repT h1 pe_int).weak fun σ H Q ⟨env, he, q⟩ => ⟨env, he, fun v H1 s1 ⟨p1, xs, ev, hp1, dv⟩ => by
    have l1 := dv.length
    have hg := hg env
    refine ⟨p1, k, xs, ev, rfl, hp1, fun z => hg.1 (List.eq_nil_of_length_eq_zero (by rw [← l1, z]; rfl)), k2, k3, by omega, fun p np => q _ _ (s1.trans (An.same_upd np)) ⟨p, _, rfl, SqT.of upd_same, DwAll.same (An.same_upd np) _ _ (DwAll.rep dv _)⟩⟩⟩
theorem pd_listOf {x : Str} {p : Pos} (hx : x = ("list" : Str)) (hg : Gl X x) (hm : X.mg x = none) (h : PE X e (tDat X.K n fun env => .tuple (g env))) (he : starEach [e] X.env = [(false, eval e X.env)] := by rfl) : PE X (.Call (.Name x p) [e] [] pos) (tDat X.K n fun env => .list (g env)) := by
  subst hx
  refine (pe_callTy call_list_of hg hm PyProof.Rows.boot_list (pa_cons h pa_nil he) (by decide) (by decide) he rfl).weak fun σ H Q ⟨env, hv, k⟩ => ⟨env, hv, fun v H1 s1 ⟨p1, xs, ev, hp1, dv⟩ => ⟨p1, xs, by rw [ev], .inr hp1, fun l nl => k _ _ (s1.trans (An.same_upd nl)) ⟨l, xs, rfl, SqL.of upd_same, DwAll.same (An.same_upd nl) _ _ dv⟩⟩⟩
def rListOf (K : PySem.W.Frag) : List V → Hp → VK → Prop := fun xs H Q => ∃ p ys, xs = [.ref p] ∧ (SqL K H p ys ∨ SqT K H p ys) ∧ ∀ l, H l = none → Q (.ref l) (upd H l (.lst ys))
theorem call_listK {K : PySem.W.Frag} (hK : X.K = K := by rfl) : CallR X (.type "list") (rListOf K) := by
  subst hK
  exact call_list_of
end
end L2

set_option Elab.async false
set_option linter.all false
set_option maxRecDepth 100000
set_option maxHeartbeats 4000000
/-! a dict in a tuple of tuples: it is not; is, is not of truth values -/
namespace PySem.SeqAt
open MeetsSeq PyProof.Rows
theorem sub_dict_tuple : isSubtype (.type "dict") (.type "tuple") = pure false := by rw [isSubtype_type]; kernel_rfl
theorem sub_tuple_dict' : isSubtype (.type "tuple") (.type "dict") = pure false := by rw [isSubtype_type]; kernel_rfl
theorem dict_eq_declines_tuple (l b : Addr) (es : Array DictEntry) (items2 : Array Value) (n n2 : Nat) (dd dd2 : Option Addr) (sl sl2 : Array (Option Value)) :
    Meets (Builtin.«dict.__eq__» ⟨[.ref l, .ref b], []⟩) (fun _ R s => s.heap.get? l = some { cls := .type "dict", dict := dd, data := .dict es n, slots := sl } ∧ s.heap.get? b = some { cls := .type "tuple", dict := dd2, data := .seq items2 n2, slots := sl2 } ∧ R (.ok (.ret .notImplemented)) s) :=
  .of_wp fun prog w A R s h => by obtain ⟨hp, g, d, tk, os⟩ := s; obtain ⟨hl, hb, h⟩ := h; have f1 := sub_tuple_dict'; wp_walk using wpAny_loadPart' hl, wpAny_loadPart' hb; exact ⟨_, rfl, h⟩
theorem tuple_eq_declines_dict (l b : Addr) (items : Array Value) (es : Array DictEntry) (n n2 : Nat) (dd dd2 : Option Addr) (sl sl2 : Array (Option Value)) :
    Meets (Builtin.«tuple.__eq__» ⟨[.ref l, .ref b], []⟩) (fun _ R s => s.heap.get? l = some { cls := .type "tuple", dict := dd, data := .seq items n, slots := sl } ∧ s.heap.get? b = some { cls := .type "dict", dict := dd2, data := .dict es n2, slots := sl2 } ∧ R (.ok (.ret .notImplemented)) s) :=
  .of_wp fun prog w A R s h => by obtain ⟨hp, g, d, tk, os⟩ := s; obtain ⟨hl, hb, h⟩ := h; have f1 := sub_dict_tuple; wp_walk using wpAny_loadPart' hl, wpAny_loadPart' hb; exact ⟨_, rfl, h⟩
section
variable {A : Around} {s : Shared}
theorem RcAt.tuple_dict {l b : Addr} {items : Array Value} {o2 : Obj} {es : Array DictEntry} {n2 : Nat} (hl : s.heap.IsTuple l items) (ho2 : s.heap.get? b = some o2) (hc2 : o2.cls = .type "dict") (hd2 : o2.data = .dict es n2) (hu : A.units < cLine) : RcAt A s (.ref l) (.ref b) false := fun prog w E Q h => by
  obtain ⟨⟨cls, dd, data, sl⟩, ho, hc, n, hd⟩ := id hl
  obtain ⟨cls2, dd2, data2, sl2⟩ := o2
  simp only at hc hd hc2 hd2
  subst hc hd hc2 hd2
  have hne : l ≠ b := fun e => by subst e; rw [ho] at ho2; exact absurd ho2 (by simp)
  exact (rc_eq_decline_or (k := false) ⟨_, ho, rfl⟩ ⟨_, ho2, rfl⟩ (by decide) sub_dict_tuple F.slot_tuple_eq F.slot_dict_eq_refl
    (fun _ hq => call_meets F.slot_tuple_eq ⟨_, ho, rfl⟩ F.entry_tuple_eq (F.args_tuple_eq_2 _ _) (tuple_eq_declines_dict l b items es n n2 dd dd2 sl sl2) ⟨ho, ho2, hq⟩)
    (fun _ hq => call_meets F.slot_dict_eq_refl ⟨_, ho2, rfl⟩ F.entry_dict_eq (F.args_dict_eq_2 _ _) (dict_eq_declines_tuple b l es items n2 n dd2 dd sl2 sl) ⟨ho2, ho, hq⟩)
    (fun _ hq => wpAny_isSame_ref_other' hne ho ho2 (by simp) hq) (.inr hu) h)
theorem EqAt.tuple_dict {l b : Addr} {items : Array Value} {o2 : Obj} {es : Array DictEntry} {n2 : Nat} (hl : s.heap.IsTuple l items) (ho2 : s.heap.get? b = some o2) (hc2 : o2.cls = .type "dict") (hd2 : o2.data = .dict es n2) (hu : A.units < cLine) : EqAt A s (.ref l) (.ref b) false :=
  .of_refs (fun e => by
    obtain ⟨o, ho, hc, _⟩ := hl
    subst e
    rw [ho] at ho2; cases ho2
    rw [hc] at hc2; exact absurd hc2 (by simp)) (.tuple_dict hl ho2 hc2 hd2 hu)
end
end PySem.SeqAt
namespace L2
open PySem PySem.Spec PyProof.Rows
section
variable {X : Cx} {K : PySem.W.Frag}
def rInDE (K : PySem.W.Frag) : R2 := fun x y H Q => ∃ (a t : Addr) (kvs : List (Key × V)) (zs : List V), x = .ref a ∧ H a = some (.dK kvs) ∧ y = .ref t ∧ SqT K H t zs ∧ (∀ z ∈ zs, ∃ p ws, z = .ref p ∧ SqT K H p ws) ∧ Q (.bl false) H
theorem vals_mem : ∀ {zs : List V} {us : List Value}, Vals zs us → ∀ u ∈ us, ∃ z ∈ zs, RelV z u
  | _, _, .nil, u, h => nomatch h
  | _, _, .cons r1 r2, u, h => by
    rcases List.mem_cons.mp h with rfl | h
    · exact ⟨_, List.mem_cons_self, r1⟩
    · obtain ⟨z, hz, r⟩ := vals_mem r2 u h
      exact ⟨z, List.mem_cons_of_mem _ hz, r⟩
theorem op_inDE (hu : X.A.units + 64 < cLine) (hK : X.K = K := by rfl) : OpR X (compareOp .In) (rInDE K) := by
  subst hK
  intro pins s σ H x y v u Q I rx ry h
  obtain ⟨a, t, kvs, zs, rfl, ha, rfl, ht, hz, q⟩ := h
  cases rx
  cases ry
  obtain ⟨_, _, vs, rel, o, es, ep, ho, hx, hd, _⟩ : kvs.length ≤ sizeLine ∧ (a == sysModules) = false ∧ ∃ vs, KV kvs vs ∧ s.heap.DictOf (mixKind X.prog X.w) a vs := I.hok a _ ha
  obtain ⟨its, rv, pt, _⟩ := I.tuple ht
  refine SeqAt.in_tupleAt (fun _ => false) (show s.heap.IsTuple t its.toArray from pt) (fun y hy => ?_) ?_
  · obtain ⟨z, hz', rz⟩ := vals_mem rv y (by simpa using hy)
    obtain ⟨p, ws, rfl, hp⟩ := hz z hz'
    cases rz
    obtain ⟨its2, _, pp, _⟩ := I.tuple hp
    refine SeqAt.EqAt.tuple_dict (show s.heap.IsTuple p its2.toArray from pp) ho hx.1 hd ?_
    show X.A.units + 1 < cLine
    omega
  · refine ⟨.bl false, H, I, ?_, q⟩
    show Value.bool _ = Value.bool false
    congr 1
    simp
theorem op_isnotB : OpR X (compareOp .IsNot) (fun x y H Q => ∃ a b, x = .bl a ∧ y = .bl b ∧ Q (.bl (a != b)) H) := by
  intro pins s σ H x y v u Q I rx ry h
  obtain ⟨a, b, rfl, rfl, q⟩ := h
  cases rx; cases ry
  exact isnot_bool ⟨.bl _, H, I, rfl, q⟩
end
end L2

set_option Elab.async false
set_option linter.all false
set_option maxRecDepth 100000
set_option maxHeartbeats 4000000
/-! isinstance of an exception in hand -/
namespace PySem.W
open PySem PySem.Spec PySem.Calls PyProof.Rows Builtin Builtin.ObjectAttr Builtin.Getset_descriptor
section
variable {prog : Program} {w : World} {A : Around} {E : Value → Shared → Prop} {s : Shared} {K : Frag} {x D : Addr} {ox : Obj}
/-- what is asked of an own class of exceptions -/
structure ExcKit (K : Frag) (D : Addr) : Prop where
  ga : findIn K (.ref D) "__getattribute__" = some (some (.builtin "BaseException.__getattribute__"))
  hk : findIn K (.ref D) "__getattr__" = some none
  ha : findIn K (.ref D) "__class__" = some (some (.builtin "object.__class__"))
  hn : specialIn K (.builtin "object.__class__") "__get__" = some (some (.builtin "getset_descriptor.__get__"))
  htk : takesIn K (.builtin "object.__class__") = some true
  hm : mroIn K D (.type "object") = some true
  hb : subIn K (.ref D) (.type "BaseException") = some true
  cl : (clsIn K D).isSome = true
structure ExcIn (h : Heap) (x D : Addr) : Prop where
  ex : ∃ o, h.get? x = some o ∧ o.cls = .ref D ∧ notCls o = true
theorem ExcIn.type {M : Model} {h : Heap} (I : ExcIn h x D) : Looks M h (typeOf (.ref x)) (.ref D) := by
  obtain ⟨o, ho, hc, _⟩ := I.ex
  exact hc ▸ (Looks.ld ho).andThen .now
theorem exc_class_get {R : Result → Shared → Prop} {tp : Value} (X : K.In s.heap) (I : ExcIn s.heap x D) (hm : mroIn K D (.type "object") = some true)
    (h : R (.ok (.ret (.ref D))) s) : codeAny (model prog w) A (.call (.builtin "getset_descriptor.__get__") ⟨[.builtin "object.__class__", .ref x, tp], []⟩) R s := by
  obtain ⟨hh, g, dr, t, os⟩ := s
  have L0 := I.type (M := model prog w)
  have L1 := looks_mroIn (M := model prog w) X hm
  refine codeAny_call_builtin KF.slot_gs.plain KF.entry_gs (KF.slot_gs.check _ _ _ _ _ _ _ _ KF.type_class (KF.args_gs _ _ _) ?_)
  unfold Builtin.«getset_descriptor.__get__» descrGet
  rw [dga_obj]
  refine wpAny_bind (wpAny_pure ?_)
  unfold descrGetter descrCheckInstance descrNameAndClass isInstance
  simp only [KF.owner_class]
  repeat lk
  refine ⟨Code.quiet_builtin _ (by decide +kernel), codeAny_builtin KF.entry_class ?_⟩
  unfold Builtin.«object.__class__» shownTypeOf
  repeat lk
  exact h
theorem exc_find {M : Model} {h : Heap} (X : K.In h) (k : ExcKit K D) : Looks M h (find (.ref x) (.ref D) "__class__") (.bind (.builtin "getset_descriptor.__get__") (.builtin "object.__class__")) := by
  have L1 := looks_findIn (M := M) X k.ha
  have L2 := looks_specialIn (M := M) X k.hn
  have L3 := looks_takesIn (M := M) X k.htk
  unfold find
  exact L1.andThen (Looks.andThen L2 (Looks.andThen (L3.andThen .now) (Looks.tag .now)))
theorem exc_check {M : Model} {nameV : Value} {Q : Unit → Shared → Prop} (k : ExcKit K D) (X : K.In s.heap) (I : ExcIn s.heap x D) (hq : Q () s) : wpAny M A (checkBuiltinCall "BaseException.__getattribute__" ⟨[.ref x, nameV], []⟩) Q E s := by
  have hk : builtinKind "BaseException.__getattribute__" = some .slot := by decide +kernel
  have hsplit : splitId "BaseException.__getattribute__" = some ("BaseException", "__getattribute__") := by decide +kernel
  have ha := F.args_bexc_ga (.ref x) nameV
  obtain ⟨hh, g, d, t, os⟩ := s
  have L0 := I.type (M := M)
  have L1 := looks_subIn (M := M) X k.hb
  simp only [checkBuiltinCall, hk, hsplit]
  refine wpAny_bind ?_
  · unfold isInstance
    repeat (first | lk | wp_step)
    exact hq
theorem exc_entry {tk : Tok} {Q : Fin → Shared → Prop} (k : ExcKit K D) (X : K.In s.heap) (I : ExcIn s.heap x D) (hq : Q (.done (.ret (.ref D))) s) :
    wpAny (model prog w) A (Builtin.«object.__getattribute__» ⟨[.ref x, .str "__class__" tk], []⟩) Q E s := by
  obtain ⟨hh, g, d, t, os⟩ := s
  have L0 := I.type (M := model prog w)
  have L1 := exc_find (M := model prog w) (x := x) X k
  unfold Builtin.«object.__getattribute__»
  refine wpAny_bind (wpAny_pure (wpAny_bind (wpAny_pure (wpAny_bind (L0.at (wpAny_bind (L1.at ?_)))))))
  show wpAny _ _ (bindTo _ _ _ _) _ _ _
  show wpAny _ _ (holding [Value.builtin "object.__class__"] (call (Value.builtin "getset_descriptor.__get__") [Value.builtin "object.__class__", Value.ref x, Value.ref D]) >>= ret) _ _ _
  exact wpAny_bind (wpAny_holding (wpAny_call (exc_class_get (s := ⟨hh, g, d, t, os⟩) X I k.hm (wpAny_pure hq))))
theorem exc_class {Q : Option Value → Shared → Prop} (k : ExcKit K D) (X : K.In s.heap) (I : ExcIn s.heap x D) (h : Q (some (.ref D)) { s with toks := s.toks + 1 }) : wpAny (model prog w) A (getAttr? (.ref x) "__class__") Q E s := by
  obtain ⟨hh, g, d, t, os⟩ := s
  have L0 := I.type (M := model prog w)
  have L1 := looks_findIn (M := model prog w) X k.ga
  have L2 := looks_findIn (M := model prog w) X k.hk
  unfold getAttr? getAttrBy? getAttrBy
  refine wpAny_bind (wpAny_mkText (wpAny_bind (wpAny_attempt (wpAny_holding (wpAny_bind (L0.at (wpAny_bind (L1.at ?_))))))))
  show wpAny _ _ (getAttrByItsOwn _ _ _ _ _ _) _ _ _
  unfold getAttrByItsOwn hookBefore
  refine wpAny_bind (L2.at ?_)
  refine wpAny_bind (wpAny_attempt (wpAny_holding ?_))
  show wpAny _ _ (boundAndCalled _ _ _) _ _ _
  unfold boundAndCalled
  rw [F.attr_ValueError.ga.bind]
  refine wpAny_bind (wpAny_pure ?_)
  refine wpAny_call (codeAny_call_builtin F.attr_ValueError.ga.plain F.entry_bexc_ga (exc_check k X I (exc_entry k X I ?_)))
  exact handed_on (s := ⟨hh, g, d, t + 1, os⟩) rfl (wpAny_pure h)
theorem kitx_exc (k : ExcKit K D) : KitX K (.ref x) (.ref D) (fun h => ExcIn h x D) where
  ty := fun _ _ _ I => I.type
  it := fun _ _ X _ => by
    obtain ⟨cdD, hcD⟩ := Option.isSome_iff_exists.mp k.cl
    unfold clsIn at hcD
    split at hcD
    · rename_i c' d' cd' sl' ho
      intro A' Q' E' s' k q
      unfold isType loadHead
      exact wpAny_bind (wpAny_loadPart (k _ _ (X _ _ ho)) (wpAny_pure q))
    · cases hcD
  ne := fun h tp dd its n sl X htp => by
    obtain ⟨cdD, hcD⟩ := Option.isSome_iff_exists.mp k.cl
    refine Bool.eq_false_iff.mpr fun q => ?_
    have e : D = tp := Value.ref.inj (beq_iff_eq.mp q)
    subst e
    unfold clsIn at hcD
    split at hcD
    · rename_i c' d' cd' sl' ho
      have z := (X _ _ ho).symm.trans htp
      cases z
    · cases hcD
  ca := fun X I q => exc_class k X I q
end
end PySem.W
namespace L2
open PySem PySem.Spec PyProof.Rows
section
variable {X : Cx} {K : PySem.W.Frag}
/-- isinstance of an exception in hand, by a value c that stands for a class -/
def rIsiE (K : PySem.W.Frag) (c : Value) (cv : V) : List V → Hp → VK → Prop := fun xs H Q => ∃ (a D : Addr) (b : Bool), xs = [.ref a, cv] ∧ H a = some (IsExc a (.ref D)) ∧ PySem.W.ExcKit K D ∧ PySem.W.kitOne K (.ref D) c = some b ∧ Q (.bl b) H
theorem isi_exc {pins : List (Addr × Obj)} {s : Shared} {σ : St} {H : Hp} {a D : Addr} {b : Bool} {c : Value} {Q : VK} (I : Inv X pins σ H s) (ha : H a = some (IsExc a (.ref D))) (k : PySem.W.ExcKit X.K D) (e : PySem.W.kitOne X.K (.ref D) c = some b) (q : Q (.bl b) H) :
    wpAny (model X.prog X.w) X.A (call (.builtin "isinstance") [.ref a, c]) (EP X pins σ Q) X.xe s := by
  obtain ⟨⟨o, vs, h1, h2, h3⟩, _⟩ := (I.hok a _ ha)
  refine PySem.W.kia_one (PySem.W.kitx_exc k) I.kIn ⟨o, h1, h2, ?_⟩ e (fun z => nomatch z) fun tk => ⟨.bl b, H, I.tok _, rfl, q⟩
  unfold PySem.W.notCls
  rw [h3]
theorem call_isinstE (hK : X.K = K := by rfl) {C : Addr} : CallR X (.builtin "isinstance") (rIsiE K (.ref C) (.ref C)) := by
  subst hK
  intro pins s σ H xs us Q I r h
  obtain ⟨a, D, b, rfl, ha, k, e, q⟩ := h
  obtain ⟨u, w', rfl, ru, rw'⟩ := vals2 r
  cases (show u = Value.ref a from ru)
  cases (show w' = Value.ref C from rw')
  exact isi_exc I ha k e q
theorem call_isinstET (hK : X.K = K := by rfl) {T : String} : CallR X (.builtin "isinstance") (rIsiE K (.type T) (.ty T)) := by
  subst hK
  intro pins s σ H xs us Q I r h
  obtain ⟨a, D, b, rfl, ha, k, e, q⟩ := h
  obtain ⟨u, w', rfl, ru, rw'⟩ := vals2 r
  cases (show u = Value.ref a from ru)
  cases (show w' = Value.type T from rw')
  exact isi_exc I ha k e q
end
end L2

set_option Elab.async false
set_option linter.all false
set_option maxRecDepth 100000
set_option maxHeartbeats 4000000
/-! tuple(reversed(a tuple)) -/
namespace AxR
open PySem PySem.Spec PyProof.Rows
theorem nolen_rev : typeLookup (.type "reversed") "__len__" = pure none := by rw [typeLookup_type, builtinLookup_eq_fast]; kernel_rfl
theorem hint_rev : typeLookup (.type "reversed") "__length_hint__" = pure (some (.builtin "reversed.__length_hint__")) := by rw [typeLookup_type, builtinLookup_eq_fast]; kernel_rfl
section
variable {prog : Program} {w : World} {A : Around} {E : Value → Shared → Prop} {s : Shared}
theorem rev_ne {h : Heap} {it l : Addr} {i : Int} {items : Array Value} (hit : IsRev h it l i) (ht : IsTup h l items) : l ≠ it := fun z => by
  obtain ⟨o, ho, hcl, _⟩ := ht
  have st2 : h.get? it = some _ := hit
  rw [z, st2] at ho
  cases ho
  have hcl : Value.type "reversed" = Value.type "tuple" := hcl
  exact absurd hcl (by decide)
theorem walks_rev (hh : A.handled = none) {it l : Addr} {items : Array Value} (hz : items.size ≤ sizeLine) :
    Walks prog w A it [it, l] [it] items.size (fun i v => items[items.size - 1 - i]? = some v) (fun i h => i ≤ items.size ∧ IsRev h it l ((items.size : Int) - 1 - (i : Int)) ∧ IsTup h l items) where
  sub := fun b hb => by rw [List.mem_singleton.mp hb]; exact List.mem_cons_self
  frame := fun i h h' st k => ⟨st.1, k it List.mem_cons_self _ st.2.1, by
    obtain ⟨o, ho, hc⟩ := st.2.2
    exact ⟨o, k l (List.mem_cons_of_mem _ List.mem_cons_self) _ ho, hc⟩⟩
  item := fun i s Q E hi st hQ => by
    have st1 := st.2.1
    have e : (items.size : Int) - 1 - (i : Int) = ((items.size - 1 - i : Nat) : Int) := by omega
    rw [e] at st1
    have hne := rev_ne st1 st.2.2
    have hx : items[items.size - 1 - i]? = some (items[items.size - 1 - i]'(by omega)) := Array.getElem?_eq_getElem (by omega)
    refine next_item st1 st.2.2 hne hz hx fun h' tk st' sb => hQ _ h' tk hx ⟨by omega, ?_, ?_⟩ fun b o hb e => (sb.2 b fun z => hb (by rw [z]; exact List.mem_cons_self)).trans e
    · have e2 : ((items.size - 1 - i : Nat) : Int) - 1 = (items.size : Int) - 1 - ((i + 1 : Nat) : Int) := by omega
      rw [e2] at st'
      exact st'
    · obtain ⟨o, ho, hc⟩ := st.2.2
      exact ⟨o, (sb.2 l hne).trans ho, hc⟩
  done := fun s Q E st hQ => by
    have st1 := st.2.1
    have e : (items.size : Int) - 1 - (items.size : Int) = -1 := by omega
    rw [e] at st1
    exact next_end hh st1 fun h' eb => hQ h' s.toks fun b o hb e => eb b o (fun z => hb (by rw [z]; exact List.mem_cons_self)) e
  self := fun i s Q E st h => iter_self st.2.1 h
theorem slot_hint : Slot "reversed" "__length_hint__" "reversed.__length_hint__" :=
  .of (owner := "reversed") (n := "__length_hint__") hint_rev (by decide +kernel) (by decide +kernel) (by decide +kernel)
    (by first | exact .inl (by decide +kernel) | exact .inr (by decide +kernel)) (by rw [isSubtype_type]; kernel_rfl)
theorem entry_hint : entryFor table "reversed.__length_hint__" = some Builtin.«reversed.__length_hint__» := entryFor_of_tree (by kernel_rfl)
theorem args_hint (a : Value) : argsOk "reversed.__length_hint__" ⟨[a], []⟩ := by
  unfold argsOk; rw [signature?_of (id := "reversed.__length_hint__") (n := ['_', '_', 't', 'n', 'i', 'h', '_', 'h', 't', 'g', 'n', 'e', 'l', '_', '_']) (o := ['d', 'e', 's', 'r', 'e', 'v', 'e', 'r']) (by kernel_rfl) owner_rev]; kernel_rfl
theorem hint_call {Q : Value → Shared → Prop} {it l : Addr} {items : Array Value} (hz : items.size ≤ sizeLine) (hit : IsRev s.heap it l ((items.size : Int) - 1)) (ht : IsTup s.heap l items) (h : ∀ tk tk', s.toks ≤ tk → Q (.int (items.size : Int) tk') { s with toks := tk }) :
    wpAny (model prog w) A (call (.builtin "reversed.__length_hint__") [.ref it]) Q E s := by
  have ho : s.heap.get? it = some (revO l ((items.size : Int) - 1)) := hit
  refine wpAny_call_entry slot_hint (typeIs hit) entry_hint ?_ (args_hint _)
  unfold Builtin.«reversed.__length_hint__»
  refine wpAny_bind (wpAny_of_eq (a := Value.ref it) rfl ?_)
  refine wpAny_bind (wpAny_field ho (x := .ref l) rfl rfl ?_)
  rw [if_neg (show ¬ (Value.ref l == Value.none) = true from fun z => absurd (eq_of_beq z) nofun)]
  have hn := L2.line63
  refine wpAny_bind (len_tuple ht (by omega) ?_)
  refine wpAny_bind (wpAny_of_eq (a := some ((items.size : Nat) : Int)) rfl ?_)
  try dsimp only
  have ho1 : ({ s with toks := s.toks + 1 } : Shared).heap.get? it = some (revO l ((items.size : Int) - 1)) := hit
  refine wpAny_bind (wpAny_field ho1 (x := rawInt ((items.size : Int) - 1)) rfl rfl ?_)
  show wpAny _ _ (if ((items.size : Nat) : Int) < (items.size : Int) - 1 + 1 then _ else _) _ _ _
  rw [if_neg (by omega)]
  have e : (items.size : Int) - 1 + 1 = items.size := by omega
  rw [e]
  unfold retInt
  refine wpAny_bind (wpAny_mkInt ?_)
  exact wpAny_pure ⟨_, rfl, h _ _ (by simp; omega)⟩
theorem collect_rev {Q : List Value → Shared → Prop} (hh : A.handled = none) {it l : Addr} {items : Array Value} (hz : items.size ≤ sizeLine) (h0 : 0 < items.size) (hit : IsRev s.heap it l ((items.size : Int) - 1)) (ht : IsTup s.heap l items)
    (hQ : ∀ s' acc, Moved [it] (fun a b => b = a) s s' → ItemsOf (fun i v => items[items.size - 1 - i]? = some v) acc items.size → Q acc.toList s') : wpAny (model prog w) A (collect (.ref it)) Q E s := by
  have W := (walks_rev (prog := prog) (w := w) (A := A.in1) hh (it := it) (l := l) hz).toS
  have hI : it < s.heap.objs.size := Heap.lt_size hit
  have hl : l < s.heap.objs.size := by obtain ⟨o, ho, _⟩ := ht; exact Heap.lt_size ho
  have hSf : s.heap.objs.size ∉ [it, l] := fun hm => by
    rcases List.mem_cons.mp hm with z | z
    · rw [← z] at hI; exact Nat.lt_irrefl _ hI
    · rw [← List.mem_singleton.mp z] at hl; exact Nat.lt_irrefl _ hl
  have hSI : s.heap.objs.size ≠ it := fun e => hSf (e ▸ List.mem_cons_self)
  have hst : 0 ≤ items.size ∧ IsRev s.heap it l ((items.size : Int) - 1 - ((0 : Nat) : Int)) ∧ IsTup s.heap l items := ⟨Nat.zero_le _, by
    have e : (items.size : Int) - 1 - ((0 : Nat) : Int) = (items.size : Int) - 1 := by omega
    rw [e]; exact hit, ht⟩
  unfold collect
  refine wpAny_bind (wpAny_runValue (codeAny_builtin F.entry_proto_collect ?_))
  rw [Around.under_plainId F.plain_proto_collect _]
  show wpAny _ A.in1 (newList [] >>= fun l => again (.builtin "list.__iadd__" ⟨[l, .ref it], []⟩)) _ _ s
  refine wpAny_bind (wpAny_newObj_type ?_)
  refine wpAny_pure ⟨plainId_quiet F.plain_list_iadd _, codeAny_builtin F.entry_list_iadd ?_⟩
  rw [Around.under_plainId F.plain_list_iadd _]
  have hst₁ := W.frame 0 s (s.heap.push { cls := .type "list", data := .seq ([] : List Value).toArray }) s.toks hst (Nat.le_refl _) fun b _ o e => Heap.get?_push_of_some _ e
  have hT : Shared.TypeIs { s with heap := s.heap.push { cls := .type "list", data := .seq ([] : List Value).toArray } } (.ref it) "reversed" := typeIs hst₁.2.1
  have hS₁ : (s.heap.push { cls := .type "list", data := .seq ([] : List Value).toArray }).get? s.heap.objs.size = some { cls := .type "list", data := .seq ([] : List Value).toArray } := Heap.get?_push_size _ rfl
  have h1 : Builtin.List.listSameRef (.ref s.heap.objs.size) (.ref it) = false := by simp [Builtin.List.listSameRef, hSI]
  show wpAny _ A.in1 (Builtin.List.listExtendWith (.ref s.heap.objs.size) (.ref it) (.ref s.heap.objs.size)) _ _ _
  unfold Builtin.List.listExtendWith
  refine wpAny_bind (wpAny_typeOf hT ?_)
  rw [if_neg (by rw [h1]; decide)]
  refine wpAny_bind (W.self 0 _ _ _ hst₁ ?_)
  refine wpAny_bind (wpAny_holding ?_)
  unfold Builtin.List.listLengthHint
  refine wpAny_bind (wpAny_specialOf hT nolen_rev ?_)
  show wpAny _ A.in1 (specialOf (Value.ref it) (Str.ofString "__length_hint__") >>= _) _ _ _
  refine wpAny_bind (wpAny_specialOf hT hint_rev ?_)
  generalize hid : ("reversed.__length_hint__" : String) = id0
  wp_delta
  rw [show splitId id0 = some ("reversed", "__length_hint__") from by subst hid; decide +kernel]
  subst hid
  refine wpAny_bind (wpAny_isInstance (b := true) hT (by rw [isSubtype_type]; kernel_rfl) ?_)
  rw [if_neg (by decide)]
  refine wpAny_ite_split (fun z => absurd z (by decide +kernel)) (fun _ => ?_)
  refine wpAny_bind (wpAny_rule ?_)
  rw [slot_hint.bind]
  refine wpAny_bind (wpAny_pure ?_)
  have hit₁ : IsRev (s.heap.push { cls := .type "list", data := .seq ([] : List Value).toArray }) it l ((items.size : Int) - 1) := Heap.get?_push_of_some _ hit
  have ht₁ : IsTup (s.heap.push { cls := .type "list", data := .seq ([] : List Value).toArray }) l items := hst₁.2.2
  refine wpAny_bind (wpAny_attempt (hint_call (s := { s with heap := s.heap.push { cls := .type "list", data := .seq ([] : List Value).toArray } }) hz hit₁ ht₁ fun tk tk' htk => ?_))
  show wpAny _ _ (asInt? (Value.int ((items.size : Nat) : Int) tk') >>= _) _ _ _
  have ea : asInt? (Value.int ((items.size : Nat) : Int) tk') = pure (some ((items.size : Nat) : Int)) := rfl
  rw [ea]
  refine wpAny_bind ?_
  refine wpAny_pure ?_
  have hn := L2.line63
  have hsz : (items.size : Int) < 2 ^ 63 := by omega
  show wpAny _ _ (if (!Builtin.List.listFitsIndex ((items.size : Nat) : Int)) = true then _ else _) _ _ _
  rw [fitsIndex_both (by omega) hsz, if_neg (by decide)]
  show wpAny _ _ (if ((items.size : Nat) : Int) < 0 then _ else _) _ _ _
  rw [if_neg (by omega)]
  show wpAny _ _ (if Builtin.List.listTooLong ((items.size : Nat) : Int).toNat = true then _ else _) _ _ _
  rw [Int.toNat_natCast, L2.notLongL hz, if_neg (by decide)]
  refine wpAny_pure ?_
  have hb : (((items.size : Nat) : Int) != 0) = true := by
    rw [bne_iff_ne]; omega
  rw [hb, Bool.true_or, if_pos rfl]
  refine wpAny_bind (wpAny_rule ?_)
  refine wpAny_bind ?_
  show wpAny _ _ (updateSeq s.heap.objs.size (·.push .none) >>= fun _ => updateSeq s.heap.objs.size (·.pop)) _ _ _
  refine wpAny_bind (wpAny_updateSeq hS₁ rfl ?_)
  have hS₂ := Heap.get?_update_self (Obj.mapSeq (·.push Value.none)) hS₁ rfl
  refine wpAny_updateSeq (hz := by seq_fits) hS₂ rfl ?_
  have hS₃ := Heap.get?_update_self (Obj.mapSeq (·.pop)) hS₂ rfl
  have oth : ∀ b o, b ≠ s.heap.objs.size → (s.heap.push { cls := .type "list", data := .seq ([] : List Value).toArray }).get? b = some o → (((s.heap.push { cls := .type "list", data := .seq ([] : List Value).toArray }).update s.heap.objs.size (Obj.mapSeq (·.push Value.none))).update s.heap.objs.size (Obj.mapSeq (·.pop))).get? b = some o := fun b o hb e =>
    (Heap.get?_update_other _ _ (Ne.symm hb)).trans ((Heap.get?_update_other _ _ (Ne.symm hb)).trans e)
  have st' := (walks_rev (prog := prog) (w := w) (A := A.in1) hh (it := it) (l := l) hz).frame 0 _ _ hst₁ fun b hb o e => oth b o (fun z => hSf (z ▸ hb)) e
  refine wpAny_pure ⟨plainId_quiet F.plain_extend_loop _, codeAny_extend_loopS W hz _ hSf _ items.size 0 _ _ _ rfl (Nat.zero_le _) st' hS₃ (ItemsOf.nil _) fun s' acc' c' hm hS' hacc => ?_⟩
  show wpAny _ A (load s.heap.objs.size >>= _) _ _ s'
  refine wpAny_bind (wpAny_load hS' ?_)
  refine wpAny_pure (hQ s' acc' ⟨fun b o hb e => ?_, hm.gens, hm.drawn, hm.os, ?_⟩ hacc)
  · have hbs : b ≠ s.heap.objs.size := Nat.ne_of_lt (Heap.lt_size e)
    refine hm.heap b o (fun z => ?_) (oth b o hbs (Heap.get?_push_of_some _ e))
    rcases List.mem_cons.mp z with z | z
    · exact hbs z
    · exact hb z
  · have := hm.toks
    exact Nat.le_trans htk this
theorem items_rev {items acc : Array Value} (h : ItemsOf (fun i v => items[items.size - 1 - i]? = some v) acc items.size) : acc.toList = items.toList.reverse := by
  refine List.ext_getElem? fun i => ?_
  by_cases hi : i < acc.size
  · have e := Array.getElem?_eq_getElem hi
    rw [Array.getElem?_toList, e]
    have := h.2 i _ e
    rw [List.getElem?_reverse (by rw [Array.length_toList, ← h.1]; exact hi), Array.length_toList, Array.getElem?_toList]
    exact this.symm
  · rw [List.getElem?_eq_none (by rw [Array.length_toList]; omega), List.getElem?_eq_none (by rw [List.length_reverse, Array.length_toList, ← h.1]; omega)]
theorem meets_tuple_rev (it l : Addr) (items : Array Value) (hz : items.size ≤ sizeLine) (h0 : 0 < items.size) :
    Meets (Builtin.«tuple.__new__» ⟨[.type "tuple", .ref it], []⟩)
      (fun A R s => A.handled = none ∧ IsRev s.heap it l ((items.size : Int) - 1) ∧ IsTup s.heap l items ∧ ∀ (s' : Shared) (acc : Array Value), Moved [it] (fun a b => b = a) s s' → acc.toList = items.toList.reverse →
        R (.ok (.ret (.ref s'.heap.objs.size))) { s' with heap := s'.heap.push { cls := .type "tuple", data := .seq acc } }) :=
  .of_wp fun prog w A R s h => by
    obtain ⟨hh, hit, ht, h⟩ := h
    have hsub := sub_tuple_self
    have hinit := init_tuple_lookup
    have hmh := madeHere_tuple
    have hT : s.TypeIs (.ref it) "reversed" := typeIs hit
    have hh1 : A.in1.handled = none := hh
    have ho : s.heap.get? it = some (revO l ((items.size : Int) - 1)) := hit
    wp_walk using AutoSeq1.wpAny_loadPart' ho, wpAny_typeOf hT, collect_rev hh1 hz h0 hit ht
    intro s' acc hm hacc
    have he := items_rev hacc
    show wpAny _ _ (Builtin.Tuple.tupleExact acc.toList.toArray >>= fun v => ret v) _ _ _
    unfold Builtin.Tuple.tupleExact
    refine wpAny_bind (wpAny_newObj_type ?_ (show acc.toList.toArray.size ≤ sizeLine by simp only [Array.toArray_toList]; rw [hacc.1]; exact hz))
    refine wpAny_pure ⟨_, rfl, ?_⟩
    have e : acc.toList.toArray = acc := by simp
    rw [e]
    exact h s' acc hm he
theorem call_tuple_rev {Q : Value → Shared → Prop} (hh : A.handled = none) {it l : Addr} {items : Array Value} (hz : items.size ≤ sizeLine) (h0 : 0 < items.size) (hit : IsRev s.heap it l ((items.size : Int) - 1)) (ht : IsTup s.heap l items)
    (h : ∀ (h' : Heap) (tk : Nat), (∀ b o, b ≠ it → s.heap.get? b = some o → h'.get? b = some o) → Q (.ref h'.objs.size) { s with heap := h'.push { cls := .type "tuple", data := .seq items.toList.reverse.toArray }, toks := tk }) :
    wpAny (model prog w) A (call (.type "tuple") [.ref it]) Q E s := by
  refine callType_new F.called_tuple (by decide) (F.typeCall_tuple_1 _) (F.newCall_tuple_1 _) (fun obj => F.args_object_init_2 obj _) F.entry_tuple_new
    (meets_tuple_rev it l items hz h0) ⟨hh, hit, ht, fun s' acc hm hacc => ⟨⟨_, Heap.get?_push_size _ rfl, rfl⟩, ?_⟩⟩
  rw [Moved.eq_with hm]
  have e : acc = items.toList.reverse.toArray := by rw [← hacc]
  rw [e]
  exact h s'.heap s'.toks fun b o hb ho => hm.heap b o (fun z => hb (List.mem_singleton.mp z)) ho
end
end AxR
namespace L2
open PySem PySem.Spec PyProof.Rows
section
variable {X : Cx}
def tTupRev (K : PySem.W.Frag) (ta : TA) : TE := fun σ H Q => ta σ H fun vs H1 => ∃ l xs, vs = [.ref l] ∧ SqT K H1 l xs ∧ xs ≠ [] ∧ ∀ q, H1 q = none → Q (.ref q) (upd H1 q (.tup xs.reverse))
theorem pe_tupRev {a : Expr} {ta : TA} {p p2 pos pos2 : Pos} (hc : X.calm = true) (hg : Gl X "tuple") (hm : X.mg "tuple" = none) (hg2 : Gl X "reversed") (hm2 : X.mg "reversed" = none) (ha : PA X [a] ta)
    (hs2 : starEach [a] X.env = [(false, eval a X.env)] := by rfl) (hs : starEach [Expr.Call (.Name "reversed" p2) [a] [] pos2] X.env = [(false, eval (.Call (.Name "reversed" p2) [a] [] pos2) X.env)] := by rfl) :
    PE X (.Call (.Name "tuple" p) [.Call (.Name "reversed" p2) [a] [] pos2] [] pos) (tTupRev X.K ta) := by
  intro pins s σ H Q I h
  refine Call_ (ld_blt I hg hm boot_tuple (PyProof.Rows.callWith_type1 ?_ hs rfl))
  rw [hs]
  show wpAny _ _ (spliced [(false, eval (.Call (.Name "reversed" p2) [a] [] pos2) X.env)]) _ _ s
  refine Calls.spliced_cons ?_
  refine Call_ (ld_blt I hg2 hm2 boot_reversed (PyProof.Rows.callWith_type1 (thn (ha pos2 pins s σ H _ I h) fun us s1 ⟨vs, H1, I1, r1, q1⟩ => ?_) hs2 rfl))
  obtain ⟨l, xs, e, hq, hne, q⟩ := q1
  subst e
  obtain ⟨u, rfl, ru⟩ := vals1 r1
  cases ru
  obtain ⟨its, rv, p', hz⟩ := I1.tuple hq
  have hl : its.toArray.size = xs.length := by rw [List.size_toArray]; exact rv.length.symm
  have h0 : 0 < its.toArray.size := by rw [hl]; exact List.length_pos_iff.mpr hne
  refine AxR.call_rev (by rw [hl]; exact hz) p' fun tk => ?_
  refine Calls.spliced_nil ?_
  have hit : AxR.IsRev (s1.heap.push (AxR.revO l ((its.toArray.size : Int) - 1))) s1.heap.objs.size l ((its.toArray.size : Int) - 1) := Heap.get?_push_size _ rfl
  have ht : IsTup (s1.heap.push (AxR.revO l ((its.toArray.size : Int) - 1))) l its.toArray := by
    obtain ⟨o, ho, hcc⟩ := p'
    exact ⟨o, Heap.get?_push_of_some _ ho, hcc⟩
  refine AxR.call_tuple_rev (s := { s1 with heap := s1.heap.push (AxR.revO l ((its.toArray.size : Int) - 1)), toks := tk }) (I1.ok.hd hc) (by rw [hl]; exact hz) h0 hit ht fun h' tk' kp => ?_
  have I2 : Inv X pins σ H1 { s1 with heap := h', toks := tk' } := I1.kept (t' := tk') fun b o e => kp b o (Nat.ne_of_lt (Heap.lt_size e)) (Heap.get?_push_of_some _ e)
  have hf : H1 h'.objs.size = none := I2.hok.fresh (Nat.le_refl _)
  refine ⟨.ref h'.objs.size, upd H1 h'.objs.size (.tup xs.reverse), I2.laid (t' := tk') (fun b u e => Heap.get?_push_of_some _ e) (Nat.le_refl _) ?_, rfl, q _ hf⟩
  exact ⟨by rw [List.length_reverse]; exact hz, its.reverse, Vals.reverse rv, by simpa using IsTup.new h' _⟩
end
end L2

set_option Elab.async false
set_option linter.all false
set_option maxRecDepth 100000
set_option maxHeartbeats 4000000
namespace An02
open PySem L2 An
seal L2.PS L2.PSs L2.PE L2.PT L2.PW L2.PA L2.PG L2.PGs L2.PI L2.PFi L2.PC
def top (i : Nat) : Stmt := PySem.Challenge.pw_annals_k02_things_or_not.main.body.getD i (.Pass ⟨0, 0, 0, 0⟩)
def kinds : List String := ["NoneType", "bool", "int", "str", "list", "tuple", "dict"]
/-- what the walk asks of the text's top -/
structure Txt (K : PySem.W.Frag) (mg : Str → Option Value) (t1 t2 t3 t4 : Tok) (aT aA b1 b2 b3 b4 b5 b6 b7 b8 b9 : Addr) : Prop where
  len : mg "len" = none
  all : mg "all" = none
  ord : mg "ord" = none
  isinstance : mg "isinstance" = none
  str : mg "str" = none
  set : mg "set" = none
  sorted : mg "sorted" = none
  tuple : mg "tuple" = none
  LONGEST_LINE : mg "LONGEST_LINE" = some (.int 20 t1)
  LONGEST_LABEL : mg "LONGEST_LABEL" = some (.int 8 t2)
  MOST_PARENTS : mg "MOST_PARENTS" = some (.int 2 t3)
  PERCENT : mg "PERCENT" = some (.int 37 t4)
  list : mg "list" = none
  range : mg "range" = none
  bool : mg "bool" = none
  reversed : mg "reversed" = none
  ValueError : mg "ValueError" = none
  NoThing : mg "NoThing" = some (.ref aT)
  AnnalsError : mg "AnnalsError" = some (.ref aA)
  NoName : mg "NoName" = some (.ref b1)
  BadPath : mg "BadPath" = some (.ref b2)
  BadLine : mg "BadLine" = some (.ref b3)
  BadFiles : mg "BadFiles" = some (.ref b4)
  NoFit : mg "NoFit" = some (.ref b5)
  Clash : mg "Clash" = some (.ref b6)
  NoBranch : mg "NoBranch" = some (.ref b7)
  BadBranch : mg "BadBranch" = some (.ref b8)
  NoVersion : mg "NoVersion" = some (.ref b9)
  xNoThing : PySem.W.excIn K aT mroVE "ValueError.__new__" = true
  exm : PySem.W.exmOne K (.ref aT) (.ref aA) = some true
  ek : PySem.W.ExcKit K aT
  k1 : PySem.W.kitOne K (.ref aT) (.ref b1) = some false
  k2 : PySem.W.kitOne K (.ref aT) (.ref b2) = some false
  k3 : PySem.W.kitOne K (.ref aT) (.ref b3) = some false
  k4 : PySem.W.kitOne K (.ref aT) (.ref b4) = some false
  k5 : PySem.W.kitOne K (.ref aT) (.ref b5) = some false
  k6 : PySem.W.kitOne K (.ref aT) (.ref b6) = some false
  k7 : PySem.W.kitOne K (.ref aT) (.ref b7) = some false
  k8 : PySem.W.kitOne K (.ref aT) (.ref b8) = some false
  k9 : PySem.W.kitOne K (.ref aT) (.ref b9) = some false
  kT : PySem.W.kitOne K (.ref aT) (.ref aT) = some true
  kV : PySem.W.kitOne K (.ref aT) (.type "ValueError") = some true
  kit : ∀ a ∈ kinds, ∀ b ∈ kinds, PySem.W.kitOne K (.type a) (.type b) = some (a == b || (a == "bool" && b == "int"))
theorem nameD_in (d : PyData) : nameD d ∈ kinds := by cases d <;> simp [nameD, kinds]

def txtD : PyData → Str
  | .str x => x
  | _ => ""
def parentsD : PyData → Bool
  | .tuple ds => ds.all textD && (decide (ds.length ≤ 2) && decide ((AxS.uniq (ds.map txtD)).length = ds.length))
  | _ => false
def spParents (K : PySem.W.Frag) : Sp := fun vs H Q _ => ∃ (d : PyData) (v : V), vs = [v] ∧ Dw K H d v ∧ small d = true ∧ ∀ H', Same H H' → Q (.bl (parentsD d)) H'
theorem texts_at {K : PySem.W.Frag} {H : Hp} : ∀ {ds : List PyData} {xs : List V}, DwAll K H ds xs → ds.all textD = true → xs = (ds.map txtD).map V.str
  | [], _, h, _ => by rw [show _ = [] from h]; rfl
  | .str x :: ds, _, ⟨v, r, e, hv, hr⟩, h => by
    rw [List.all_cons, Bool.and_eq_true] at h
    rw [e, texts_at hr h.2, show v = V.str x from hv]; rfl
  | .none :: _, _, _, h => by cases h
  | .bool _ :: _, _, _, h => by cases h
  | .int _ :: _, _, _, h => by cases h
  | .list _ :: _, _, _, h => by cases h
  | .tuple _ :: _, _, _, h => by cases h
  | .dict _ :: _, _, _, h => by cases h
theorem textD_name (d : PyData) : (nameD d == "str" || (nameD d == "bool" && "str" == "int")) = textD d := by cases d <;> rfl
def labD : PyData → Str
  | .tuple (.str l :: _) => l
  | _ => ""
def rowsD : PyData → Bool
  | .tuple ds => ds.all rowD && riseB (ds.map labD)
  | _ => false
def spRows (K : PySem.W.Frag) : Sp := fun vs H Q _ => ∃ (d : PyData) (v : V), vs = [v] ∧ Dw K H d v ∧ small d = true ∧ (∀ ds, d = .tuple ds → ds.length ≤ 60) ∧ ∀ H', Same H H' → Q (.bl (rowsD d)) H'
theorem row_at {K : PySem.W.Frag} {H : Hp} {d : PyData} {v : V} (h : Dw K H d v) (r : rowD d = true) : ∃ (t : Addr) (y : V), v = .ref t ∧ SqT K H t [.str (labD d), y] ∧ labelB (labD d) = true := by
  match d, r with
  | .tuple [l, n], r =>
    have r : (labelD l && textD n) = true := r
    rw [Bool.and_eq_true] at r
    obtain ⟨t, xs, rfl, ht, x0, r0, rfl, h0, x1, r1, rfl, h1, e⟩ := h
    have e : r1 = [] := e
    subst e
    cases l with
    | str x => cases (show x0 = _ from h0); exact ⟨t, x1, rfl, ht, r.1⟩
    | none => cases r.1
    | bool _ => cases r.1
    | int _ => cases r.1
    | list _ => cases r.1
    | tuple _ => cases r.1
    | dict _ => cases r.1
theorem labelB_ok {x : Str} (h : labelB x = true) : PyData.strOk x = true := by
  unfold labelB at h
  rw [Bool.and_eq_true] at h
  rw [strOk_iff]
  intro c hc
  have := List.all_eq_true.mp h.2 c hc
  unfold lowB at this
  rw [Bool.and_eq_true] at this
  have := of_decide_eq_true this.2
  omega
def atD (ds : List PyData) (i : Nat) : PyData := (ds[i]?).getD .none
def leafB (word : Str) (ds : List PyData) : Bool := decide (word = "leaf") && (decide (ds.length = 1) && linesD (atD ds 0))
def treeB (word : Str) (ds : List PyData) : Bool := decide (word = "tree") && (decide (ds.length = 1) && rowsD (atD ds 0))
/-- a word and the parts behind it -/
def spForm (K : PySem.W.Frag) (b : Str → List PyData → Bool) : Sp := fun vs H Q _ => ∃ (word : Str) (a : Addr) (ds : List PyData) (xs : List V), vs = [.str word, .ref a] ∧ SqT K H a xs ∧ DwAll K H ds xs ∧ smallAll ds = true ∧ ds.length ≤ 60 ∧ (∀ e ∈ ds, ∀ es, e = .tuple es → es.length ≤ 60) ∧ ∀ H', Same H H' → Q (.bl (b word ds)) H'
def noteB (word : Str) (ds : List PyData) : Bool := decide (word = "note") && (decide (ds.length = 3) && (textD (atD ds 0) && (parentsD (atD ds 1) && lineD (atD ds 2))))
def thingB : PyData → Bool
  | .tuple (.str word :: ds) => leafB word ds || (treeB word ds || noteB word ds)
  | _ => false
def narrow (d : PyData) : Prop := ∀ ds, d = .tuple ds → ds.length ≤ 60 ∧ ∀ e ∈ ds, ∀ es, e = .tuple es → es.length ≤ 60
def spThing (K : PySem.W.Frag) : Sp := fun vs H Q _ => ∃ (d : PyData) (v : V), vs = [v] ∧ Dw K H d v ∧ small d = true ∧ narrow d ∧ ∀ H', Same H H' → Q (.bl (thingB d)) H'
theorem cut_any {K : PySem.W.Frag} {H H' : Hp} {a : Addr} {xs : List V} {lo hi : Option Int} {v : V} (hs : SqT K H a xs) (h : (v = .ref a ∧ H' = H ∧ cutV xs lo hi = xs) ∨ (∃ p, H p = none ∧ v = .ref p ∧ H' = upd H p (.tup (cutV xs lo hi)))) :
    ∃ p : Addr, v = .ref p ∧ Same H H' ∧ SqT K H' p (cutV xs lo hi) := by
  rcases h with ⟨rfl, rfl, e2⟩ | ⟨p, np, rfl, rfl⟩
  · exact ⟨a, rfl, Same.refl _, by rw [e2]; exact hs⟩
  · exact ⟨p, rfl, same_upd np, SqT.of upd_same⟩
def spNeed (K : PySem.W.Frag) (aT : Addr) : Sp := fun vs H Q E => ∃ (d : PyData) (v : V), vs = [v] ∧ Dw K H d v ∧ small d = true ∧ narrow d ∧ (thingB d = true → ∀ H', Same H H' → Q v H') ∧ (thingB d = false → ∀ H', Same H H' → E (.ref aT) none H')
section
variable {P : Program} {w : World} {K : PySem.W.Frag} {mg : Str → Option Value} {base : Heap} {t1 t2 t3 t4 : Tok} {aT aA b1 b2 b3 b4 b5 b6 b7 b8 b9 : Addr}
theorem Txt.is {d : PyData} {T : String} (t : Txt K mg t1 t2 t3 t4 aT aA b1 b2 b3 b4 b5 b6 b7 b8 b9) (hT : T ∈ kinds) : PySem.W.kitOne K (.type (nameD d)) (.type T) = some (nameD d == T || (nameD d == "bool" && T == "int")) := t.kit _ (nameD_in d) _ hT
namespace f_is_sign
abbrev st : Stmt := top 17
theorem sc : FnScope ["sign"] ["sign"] (defScope st) := ⟨rfl, rfl, rfl, by decide +kernel, rfl, by decide +kernel, by decide +kernel⟩
theorem ok {f : Addr} {fd : FuncData} (F : Fun K "is_sign" "is_sign" st f fd) (T : Txt K mg t1 t2 t3 t4 aT aA b1 b2 b3 b4 b5 b6 b7 b8 b9) : FnOk P w K mg base CX0 1 f fd ["sign"] spSign := by
  refine F.ok sc (fun vs H Q E h => ?_) (fun cdv A outer s H vs Q E hr h => ?_)
  · obtain ⟨c, rfl, _⟩ := h
    rfl
  · obtain ⟨c, rfl, k⟩ := h
    refine ⟨_, (pss_one (ps_ret (pe_and (pe_chain op_leS op_leS pe_str (pv 0) pe_str) (pe_one (pe_cmpR op_ne (pe_callB call_ord (by rfl) T.ord PyProof.Rows.boot_ord (pa_cons (pv 0) pa_nil)) (pe_glob (v := .int 37) rfl T.PERCENT ⟨_, rfl⟩) (nomark _)))))), ?_⟩
    refine ⟨_, rfl, _, _, rfl, rfl, _, rfl, ?_⟩
    rw [le_one c 32 " " (by decide +kernel)]
    refine ite2 (fun h1 => ?_) (fun h1 => ?_)
    · refine ⟨_, _, rfl, rfl, _, rfl, ?_⟩
      rw [one_le c 126 "~" (by decide +kernel)]
      refine ite2 (fun h2 => ?_) (fun h2 => ?_)
      · refine ⟨_, rfl, _, rfl, rfl, rfl, ?_⟩
        have e : signB c = !decide (V.int (((⟨#[c]⟩ : Str).cps.getD 0 0 : Nat) : Int) = V.int 37) := by
          unfold signB
          rw [h1, h2]
          show decide (c ≠ 37) = !decide (V.int (c : Int) = V.int 37)
          rw [eq_comm]
          exact not_dec ⟨fun h z => h (by rw [z]; rfl), fun h z => h (by injection z with z; omega)⟩
        rw [e] at k
        exact k
      · have e : signB c = false := by
          unfold signB
          rw [h1, Bool.eq_false_iff.mpr h2]; rfl
        rw [e] at k
        exact k
    · have e : signB c = false := by
        unfold signB
        rw [Bool.eq_false_iff.mpr h1]; rfl
      rw [e] at k
      exact ⟨_, rfl, k⟩
end f_is_sign
namespace f_is_line
abbrev st : Stmt := top 18
theorem sc : FnScope ["thing"] ["thing"] (defScope st) := ⟨rfl, rfl, rfl, by decide +kernel, rfl, by decide +kernel, by decide +kernel⟩
theorem ok {f : Addr} {fd : FuncData} (F : Fun K "is_line" "is_line" st f fd) (T : Txt K mg t1 t2 t3 t4 aT aA b1 b2 b3 b4 b5 b6 b7 b8 b9) (C_is_sign : Cal P w K mg base 1 "is_sign" ["sign"] spSign) : FnOk P w K mg base CX0 2 f fd ["thing"] (spLine K) := by
  refine F.ok sc (fun vs H Q E h => ?_) (fun cdv A outer s H vs Q E hr h => ?_)
  · obtain ⟨d, v, rfl, _⟩ := h
    rfl
  · obtain ⟨d, v, rfl, hd, sm, k⟩ := h
    refine ⟨_, (pss_one (ps_ret (pe_and (pe_callB (call_isinstD (K := K)) (by rfl) T.isinstance PyProof.Rows.boot_isinstance (pa_cons (pv 0) (pa_cons (pe_bltn (v := .ty "str") rfl T.str PyProof.Rows.boot_str rfl) pa_nil))) (pe_and (pe_cmpR op_le (pe_callB call_len_str (by rfl) T.len PySem.boot_len (pa_cons (pv 0) pa_nil)) (pe_glob (v := .int 20) rfl T.LONGEST_LINE ⟨_, rfl⟩) (nomark _)) (pe_one (pe_callB (call_all rfl) (by rfl) T.all PyProof.Rows.boot_all (pa_cons (pe_comp (sc := defScope st) (N := ["thing"]) (N' := ["sign"]) (src := [none]) ⟨by decide +kernel, rfl, rfl, by decide +kernel, by decide +kernel, by decide +kernel, by decide +kernel⟩ rfl rfl rfl (pi_str (pv 0)) (fun _ _ _ _ => (pg_name (i := 0) (show (["sign"] : List Str).Nodup by decide +kernel) rfl (Or.inl rfl))) (fun _ _ _ _ => pf_nil) (fun _ _ _ _ => (pe_callC C_is_sign (hr.mono (by decide)) (pa_cons (pv 0) pa_nil)))) pa_nil))))))), ?_⟩
    refine ⟨_, rfl, _, _, d, _, rfl, hd, T.is (by simp [kinds]), _, rfl, ?_⟩
    cases d with
    | str x =>
      cases (show v = _ from hd)
      have xl : x.length ≤ 1000 := of_decide_eq_true sm
      refine iteT ⟨_, rfl, x, rfl, le_line (by omega), _, _, rfl, rfl, _, rfl, ite2 (fun h1 => ?_) (fun h1 => ?_)⟩
      · have h1 : x.length ≤ 20 := by have := of_decide_eq_true h1; omega
        refine ⟨_, rfl, _, rfl, comp_str0 (fun i ys σ H2 => ∃ o, σ = [o] ∧ H2 = H ∧ ys = (((cs x).take i).map signB).map V.bl) ⟨none, rfl, rfl, rfl⟩ (le_line (by omega)) ?_ ?_ ?_⟩
        · rintro i ys σ H2 hi ⟨o, rfl, rfl, rfl⟩
          rw [List.length_map, List.length_map, List.length_take]; omega
        · rintro i c ys σ H2 hc ⟨o, rfl, rfl, rfl⟩
          refine ⟨_, rfl, c, rfl, _, rfl, rfl, ?_⟩
          rw [all_take_succ (cs_get hc), List.map_append]; rfl
        · rintro ys σ H2 ⟨o, rfl, rfl, rfl⟩ p np
          refine ⟨p, _, rfl, SqL.of upd_same, ?_⟩
          rw [length_cs, List.take_length, all_map]
          have e : lineD (.str x) = (cs x).all signB := by
            show (decide (x.length ≤ 20) && (cs x).all signB) = _
            rw [decide_eq_true h1]; rfl
          rw [e] at k
          exact k _ (same_upd np)
      · have e : lineD (.str x) = false := by
          show (decide (x.length ≤ 20) && (cs x).all signB) = _
          rw [decide_eq_false (fun z => h1 (decide_eq_true (by omega)))]; rfl
        rw [e] at k
        exact k _ (Same.refl _)
    | none => exact iteF (k _ (Same.refl _))
    | bool b => exact iteF (k _ (Same.refl _))
    | int i => exact iteF (k _ (Same.refl _))
    | list ds => exact iteF (k _ (Same.refl _))
    | tuple ds => exact iteF (k _ (Same.refl _))
    | dict kvs => exact iteF (k _ (Same.refl _))
end f_is_line
namespace f_is_lines
abbrev st : Stmt := top 19
theorem sc : FnScope ["thing"] ["thing"] (defScope st) := ⟨rfl, rfl, rfl, by decide +kernel, rfl, by decide +kernel, by decide +kernel⟩
theorem ok {f : Addr} {fd : FuncData} (F : Fun K "is_lines" "is_lines" st f fd) (T : Txt K mg t1 t2 t3 t4 aT aA b1 b2 b3 b4 b5 b6 b7 b8 b9) (C_is_line : Cal P w K mg base 2 "is_line" ["thing"] (spLine K)) : FnOk P w K mg base CX0 3 f fd ["thing"] (spLines K) := by
  refine F.ok sc (fun vs H Q E h => ?_) (fun cdv A outer s H vs Q E hr h => ?_)
  · obtain ⟨d, v, rfl, _⟩ := h
    rfl
  · obtain ⟨d, v, rfl, hd, sm, k⟩ := h
    refine ⟨_, (pss_one (ps_ret (pe_and (pe_callB (call_isinstD (K := K)) (by rfl) T.isinstance PyProof.Rows.boot_isinstance (pa_cons (pv 0) (pa_cons (pe_bltn (v := .ty "tuple") rfl T.tuple PyProof.Rows.boot_tuple rfl) pa_nil))) (pe_one (pe_callB (call_all rfl) (by rfl) T.all PyProof.Rows.boot_all (pa_cons (pe_comp (sc := defScope st) (N := ["thing"]) (N' := ["line"]) (src := [none]) ⟨by decide +kernel, rfl, rfl, by decide +kernel, by decide +kernel, by decide +kernel, by decide +kernel⟩ rfl rfl rfl (pi_tup (pv 0)) (fun _ _ _ _ => (pg_name (i := 0) (show (["line"] : List Str).Nodup by decide +kernel) rfl (Or.inl rfl))) (fun _ _ _ _ => pf_nil) (fun _ _ _ _ => (pe_callC C_is_line (hr.mono (by decide)) (pa_cons (pv 0) pa_nil)))) pa_nil)))))), ?_⟩
    refine ⟨_, rfl, _, _, d, _, rfl, hd, T.is (by simp [kinds]), _, rfl, ?_⟩
    cases d with
    | tuple ds =>
      obtain ⟨a, xs, rfl, hs, ha⟩ := hd
      obtain ⟨sl, sa⟩ := small_tuple sm
      have hlen := ha.length
      refine iteT ⟨_, rfl, a, rfl, ⟨_, hs⟩, comp_tup0 (K := K) (a := a) (xs := xs) (fun i ys σ H2 => ∃ o, σ = [o] ∧ Same H H2 ∧ ys = ((ds.take i).map lineD).map V.bl) ⟨none, rfl, Same.refl _, rfl⟩ (le_line (by omega)) ?_ ?_ ?_⟩
      · rintro i ys σ H2 hi ⟨o, rfl, e2, rfl⟩
        refine ⟨e2.tupS hs, ?_⟩
        rw [List.length_map, List.length_map, List.length_take]; omega
      · rintro i x ys σ H2 hx ⟨o, rfl, e2, rfl⟩
        obtain ⟨d, hd, dx⟩ := ha.get hx
        refine ⟨_, rfl, d, x, rfl, dx.same e2, smallAll_get sa hd, fun H3 e3 => ⟨_, rfl, e2.trans e3, ?_⟩⟩
        rw [all_take_succ hd, List.map_append]; rfl
      · rintro ys σ H2 ⟨o, rfl, e2, rfl⟩ p np
        refine ⟨p, _, rfl, SqL.of upd_same, ?_⟩
        rw [hlen, List.take_length, all_map]
        exact k _ (e2.trans (same_upd np))
    | none => exact iteF (k _ (Same.refl _))
    | bool b => exact iteF (k _ (Same.refl _))
    | int i => exact iteF (k _ (Same.refl _))
    | list ds => exact iteF (k _ (Same.refl _))
    | str x => exact iteF (k _ (Same.refl _))
    | dict kvs => exact iteF (k _ (Same.refl _))
end f_is_lines
namespace g_label
abbrev st : Stmt := top 20
theorem sc : FnScope ["thing"] ["thing"] (defScope st) := ⟨rfl, rfl, rfl, by decide +kernel, rfl, by decide +kernel, by decide +kernel⟩
theorem ok {f : Addr} {fd : FuncData} (F : Fun K "is_label" "is_label" st f fd) (T : Txt K mg t1 t2 t3 t4 aT aA b1 b2 b3 b4 b5 b6 b7 b8 b9) : FnOk P w K mg base CX0 1 f fd ["thing"] (spLabel K) := by
  refine F.ok sc (fun vs H Q E h => ?_) (fun cdv A outer s H vs Q E hr h => ?_)
  · obtain ⟨d, v, rfl, _⟩ := h
    rfl
  · obtain ⟨d, v, rfl, hd, sm, k⟩ := h
    refine ⟨_, (pss_cons (ps_if (pt_not (pt_truthK (K := K) (pe_callB (call_isinstD (K := K)) (by rfl) T.isinstance PyProof.Rows.boot_isinstance (pa_cons (pv 0) (pa_cons (pe_bltn (v := .ty "str") rfl T.str PyProof.Rows.boot_str rfl) pa_nil))) (fun _ => rfl)))
        (pss_one (ps_ret pe_bl))
        pss_nil)
      (pss_one (ps_ret (pe_and (pe_chain op_le op_le pe_int (pe_callB call_len_str (by rfl) T.len PySem.boot_len (pa_cons (pv 0) pa_nil)) (pe_glob (v := .int 8) rfl T.LONGEST_LABEL ⟨_, rfl⟩)) (pe_one (pe_callB (call_all rfl) (by rfl) T.all PyProof.Rows.boot_all (pa_cons (pe_comp (sc := defScope st) (N := ["thing"]) (N' := ["sign"]) (src := [none]) ⟨by decide +kernel, rfl, rfl, by decide +kernel, by decide +kernel, by decide +kernel, by decide +kernel⟩ rfl rfl rfl (pi_str (pv 0)) (fun _ _ _ _ => (pg_name (i := 0) (show (["sign"] : List Str).Nodup by decide +kernel) rfl (Or.inl rfl))) (fun _ _ _ _ => pf_nil) (fun _ _ _ _ => (pe_chain op_leS op_leS pe_str (pv 0) pe_str))) pa_nil))))))), ?_⟩
    refine ⟨_, rfl, _, _, d, _, rfl, hd, T.is (by simp [kinds]), _, rfl, ?_⟩
    cases d with
    | str x =>
      cases (show v = _ from hd)
      have xl : x.length ≤ 1000 := of_decide_eq_true sm
      refine iteF ?_
      refine ⟨_, rfl, x, rfl, le_line (by omega), _, _, rfl, rfl, _, rfl, ite2 (fun h0 => ?_) (fun h0 => ?_)⟩
      · refine ⟨_, _, rfl, rfl, _, rfl, ite2 (fun h1 => ?_) (fun h1 => ?_)⟩
        · have h0 : 1 ≤ x.length := by have := of_decide_eq_true h0; omega
          have h1 : x.length ≤ 8 := by have := of_decide_eq_true h1; omega
          refine ⟨_, rfl, _, rfl, comp_str0 (fun i ys σ H2 => ∃ o, σ = [o] ∧ H2 = H ∧ ys = (((cs x).take i).map lowB).map V.bl) ⟨none, rfl, rfl, rfl⟩ (le_line (by omega)) ?_ ?_ ?_⟩
          · rintro i ys σ H2 hi ⟨o, rfl, rfl, rfl⟩
            rw [List.length_map, List.length_map, List.length_take]; omega
          · rintro i c ys σ H2 hc ⟨o, rfl, rfl, rfl⟩
            rw [all_take_succ (cs_get hc), List.map_append]
            refine ⟨_, rfl, _, _, rfl, rfl, _, rfl, ?_⟩
            rw [le_one c 97 "a" (by decide +kernel)]
            refine ite2 (fun h3 => ?_) (fun h3 => ?_)
            · refine ⟨_, _, rfl, rfl, ?_⟩
              rw [one_le c 122 "z" (by decide +kernel)]
              have e : lowB c = decide (c ≤ 122) := by unfold lowB; rw [h3]; rfl
              rw [e]
              exact ⟨_, rfl, rfl, rfl⟩
            · have e : lowB c = false := by unfold lowB; rw [Bool.eq_false_iff.mpr h3]; rfl
              rw [e]
              exact ⟨_, rfl, rfl, rfl⟩
          · rintro ys σ H2 ⟨o, rfl, rfl, rfl⟩ p np
            refine ⟨p, _, rfl, SqL.of upd_same, ?_⟩
            rw [length_cs, List.take_length, all_map]
            have e : labelD (.str x) = (cs x).all lowB := by
              show (decide (1 ≤ x.length) && decide (x.length ≤ 8) && (cs x).all lowB) = _
              rw [decide_eq_true h0, decide_eq_true h1]; rfl
            rw [e] at k
            exact k _ (same_upd np)
        · have e : labelD (.str x) = false := by
            show (decide (1 ≤ x.length) && decide (x.length ≤ 8) && (cs x).all lowB) = _
            rw [decide_eq_false (p := x.length ≤ 8) (fun z => h1 (decide_eq_true (by omega))), Bool.and_false]; rfl
          rw [e] at k
          exact k _ (Same.refl _)
      · have e : labelD (.str x) = false := by
          show (decide (1 ≤ x.length) && decide (x.length ≤ 8) && (cs x).all lowB) = _
          rw [decide_eq_false (p := 1 ≤ x.length) (fun z => h0 (decide_eq_true (by omega)))]; rfl
        rw [e] at k
        exact ⟨_, rfl, k _ (Same.refl _)⟩
    | none => exact iteT (k _ (Same.refl _))
    | bool b => exact iteT (k _ (Same.refl _))
    | int i => exact iteT (k _ (Same.refl _))
    | list ds => exact iteT (k _ (Same.refl _))
    | tuple ds => exact iteT (k _ (Same.refl _))
    | dict kvs => exact iteT (k _ (Same.refl _))
end g_label
namespace g_row
abbrev st : Stmt := top 21
theorem sc : FnScope ["thing"] ["thing"] (defScope st) := ⟨rfl, rfl, rfl, by decide +kernel, rfl, by decide +kernel, by decide +kernel⟩
theorem ok {f : Addr} {fd : FuncData} (F : Fun K "is_row" "is_row" st f fd) (T : Txt K mg t1 t2 t3 t4 aT aA b1 b2 b3 b4 b5 b6 b7 b8 b9) (C_is_label : Cal P w K mg base 1 "is_label" ["thing"] (spLabel K)) : FnOk P w K mg base CX0 2 f fd ["thing"] (spRow K) := by
  refine F.ok sc (fun vs H Q E h => ?_) (fun cdv A outer s H vs Q E hr h => ?_)
  · obtain ⟨d, v, rfl, _⟩ := h
    rfl
  · obtain ⟨d, v, rfl, hd, sm, k⟩ := h
    refine ⟨_, (pss_one (ps_ret (pe_and (pe_callB (call_isinstD (K := K)) (by rfl) T.isinstance PyProof.Rows.boot_isinstance (pa_cons (pv 0) (pa_cons (pe_bltn (v := .ty "tuple") rfl T.tuple PyProof.Rows.boot_tuple rfl) pa_nil))) (pe_and (pe_cmpR op_eq (pe_callB call_len_seq (by rfl) T.len PySem.boot_len (pa_cons (pv 0) pa_nil)) pe_int (nomark _)) (pe_and (pe_callC C_is_label (hr.mono (by decide)) (pa_cons (pe_ix (ix_tup : IxR _ (rIxT K)) (pv 0) pe_int (fun _ _ => rfl)) pa_nil)) (pe_one (pe_callB (call_isinstD (K := K)) (by rfl) T.isinstance PyProof.Rows.boot_isinstance (pa_cons (pe_ix (ix_tup : IxR _ (rIxT K)) (pv 0) pe_int (fun _ _ => rfl)) (pa_cons (pe_bltn (v := .ty "str") rfl T.str PyProof.Rows.boot_str rfl) pa_nil))))))))), ?_⟩
    refine ⟨_, rfl, _, _, d, _, rfl, hd, T.is (by simp [kinds]), _, rfl, ?_⟩
    cases d with
    | tuple ds =>
      obtain ⟨a, xs, rfl, hs, ha⟩ := hd
      obtain ⟨sl, sa⟩ := small_tuple sm
      have hlen := ha.length
      refine iteT ⟨_, rfl, a, _, rfl, .inr hs, rfl, _, rfl, ite2 (fun h1 => ?_) (fun h1 => ?_)⟩
      · have h1 : xs.length = 2 := by have := of_decide_eq_true h1; injection this with z; omega
        match ds, ha, hlen, sa, k with
        | [l, n], ⟨x0, r0, e0, d0, x1, r1, e1, d1, e2⟩, _, sa, k =>
          have e2 : r1 = [] := e2
          subst e2 e1 e0
          refine ⟨_, rfl, a, _, _, _, rfl, rfl, hs, rfl, l, _, rfl, d0, smallAll_get (i := 0) sa rfl, fun H2 s2 => ⟨_, rfl, ite2 (fun h2 => ?_) (fun h2 => ?_)⟩⟩
          · refine ⟨_, rfl, a, _, _, _, rfl, rfl, s2.tupS hs, rfl, _, _, n, _, rfl, d1.same s2, T.is (by simp [kinds]), ?_⟩
            have e : rowD (.tuple [l, n]) = (nameD n == "str" || (nameD n == "bool" && "str" == "int")) := by
              show (labelD l && textD n) = _
              rw [h2]
              cases n <;> rfl
            rw [e] at k
            exact k _ s2
          · have e : rowD (.tuple [l, n]) = false := by
              show (labelD l && textD n) = _
              rw [Bool.eq_false_iff.mpr h2]; rfl
            rw [e] at k
            exact k _ s2
        | [], _, hl, _, _ => exact absurd (hl.symm.trans h1) (by simp)
        | [_], _, hl, _, _ => exact absurd (hl.symm.trans h1) (by simp)
        | _ :: _ :: _ :: _, _, hl, _, _ => exact absurd (hl.symm.trans h1) (by simp)
      · have e : rowD (.tuple ds) = false := by
          match ds, hlen with
          | [_, _], hl => exact absurd (decide_eq_true (by rw [hl]; rfl)) h1
          | [], _ => rfl
          | [_], _ => rfl
          | _ :: _ :: _ :: _, _ => rfl
        rw [e] at k
        exact k _ (Same.refl _)
    | none => exact iteF (k _ (Same.refl _))
    | bool b => exact iteF (k _ (Same.refl _))
    | int i => exact iteF (k _ (Same.refl _))
    | list ds => exact iteF (k _ (Same.refl _))
    | str x => exact iteF (k _ (Same.refl _))
    | dict kvs => exact iteF (k _ (Same.refl _))
end g_row
namespace g_parents
abbrev st : Stmt := top 23
theorem sc : FnScope ["thing"] ["thing"] (defScope st) := ⟨rfl, rfl, rfl, by decide +kernel, rfl, by decide +kernel, by decide +kernel⟩
theorem ok {f : Addr} {fd : FuncData} (F : Fun K "is_parents" "is_parents" st f fd) (T : Txt K mg t1 t2 t3 t4 aT aA b1 b2 b3 b4 b5 b6 b7 b8 b9) : FnOk P w K mg base CX0 1 f fd ["thing"] (spParents K) := by
  refine F.ok sc (fun vs H Q E h => ?_) (fun cdv A outer s H vs Q E hr h => ?_)
  · obtain ⟨d, v, rfl, _⟩ := h
    rfl
  · obtain ⟨d, v, rfl, hd, sm, k⟩ := h
    refine ⟨_, (pss_cons (ps_if (PW.pt (pw_or (pt_not (pt_truthK (K := K) (pe_callB (call_isinstD (K := K)) (by rfl) T.isinstance PyProof.Rows.boot_isinstance (pa_cons (pv 0) (pa_cons (pe_bltn (v := .ty "tuple") rfl T.tuple PyProof.Rows.boot_tuple rfl) pa_nil))) (fun _ => rfl))) (pw_or1 (pt_not (pt_truthK (K := K) (pe_callB (call_all rfl) (by rfl) T.all PyProof.Rows.boot_all (pa_cons (pe_comp (sc := defScope st) (N := ["thing"]) (N' := ["name"]) (src := [none]) ⟨by decide +kernel, rfl, rfl, by decide +kernel, by decide +kernel, by decide +kernel, by decide +kernel⟩ rfl rfl rfl (pi_tup (pv 0)) (fun _ _ _ _ => (pg_name (i := 0) (show (["name"] : List Str).Nodup by decide +kernel) rfl (Or.inl rfl))) (fun _ _ _ _ => pf_nil) (fun _ _ _ _ => (pe_callB (call_isinstD (K := K)) (by rfl) T.isinstance PyProof.Rows.boot_isinstance (pa_cons (pv 0) (pa_cons (pe_bltn (v := .ty "str") rfl T.str PyProof.Rows.boot_str rfl) pa_nil))))) pa_nil)) (fun _ => rfl))))))
        (pss_one (ps_ret pe_bl))
        pss_nil)
      (pss_one (ps_ret (pe_and (pe_cmpR op_le (pe_callB call_len_seq (by rfl) T.len PySem.boot_len (pa_cons (pv 0) pa_nil)) (pe_glob (v := .int 2) rfl T.MOST_PARENTS ⟨_, rfl⟩) (nomark _)) (pe_one (pe_cmpR op_eq (pe_callB call_lenS (by rfl) T.len PySem.boot_len (pa_cons (pe_callTy (call_set (K := K) rfl) (by rfl) T.set PyProof.Rows.boot_set (pa_cons (pv 0) pa_nil)) pa_nil)) (pe_callB call_len_seq (by rfl) T.len PySem.boot_len (pa_cons (pv 0) pa_nil)) (nomark _))))))), ?_⟩
    refine ⟨_, rfl, _, _, d, _, rfl, hd, T.is (by simp [kinds]), _, rfl, ?_⟩
    cases d with
    | tuple ds =>
      obtain ⟨a, xs, rfl, hs, ha⟩ := hd
      obtain ⟨sl, sa⟩ := small_tuple sm
      have hlen := ha.length
      refine iteF ⟨_, rfl, a, rfl, ⟨_, hs⟩, comp_tup0 (K := K) (a := a) (xs := xs) (fun i ys σ H2 => ∃ o, σ = [o] ∧ H2 = H ∧ ys = ((ds.take i).map textD).map V.bl) ⟨none, rfl, rfl, rfl⟩ (le_line (by omega)) ?_ ?_ ?_⟩
      · rintro i ys σ H2 hi ⟨o, rfl, rfl, rfl⟩
        refine ⟨hs, ?_⟩
        rw [List.length_map, List.length_map, List.length_take]; omega
      · rintro i x ys σ H2 hx ⟨o, rfl, rfl, rfl⟩
        obtain ⟨d, hd, dx⟩ := ha.get hx
        refine ⟨_, rfl, _, _, d, _, rfl, dx, T.is (by simp [kinds]), _, rfl, rfl, ?_⟩
        rw [textD_name, all_take_succ hd, List.map_append]; rfl
      · rintro ys σ H2 ⟨o, rfl, rfl, rfl⟩ p np
        refine ⟨p, _, rfl, SqL.of upd_same, ?_⟩
        rw [hlen, List.take_length, all_map]
        have u := same_upd (o := .lst ((ds.map textD).map V.bl)) np
        cases q : ds.all textD with
        | false =>
          have e : parentsD (.tuple ds) = false := by show (ds.all textD && _) = false; rw [q]; rfl
          rw [e] at k
          exact ⟨_, rfl, iteT (k _ u)⟩
        | true =>
          have ex := texts_at ha q
          rw [ex] at hs
          refine ⟨_, rfl, iteF ?_⟩
          refine ⟨_, rfl, a, _, rfl, .inr (u.tupS hs), _, _, rfl, rfl, _, rfl, ite2 (fun h1 => ?_) (fun h1 => ?_)⟩
          · refine ⟨_, rfl, a, ds.map txtD, rfl, .inr (u.tupS hs), by rw [List.length_map]; exact sl, fun p2 n2 => ?_⟩
            have u2 := same_upd (o := TxHO P w p2 (AxS.uniq (ds.map txtD))) n2
            refine ⟨p2, _, rfl, upd_same, _, rfl, a, _, rfl, .inr ((u.trans u2).tupS hs), rfl, ?_⟩
            have l2 : ds.length ≤ 2 := by have := of_decide_eq_true h1; rw [List.length_map, List.length_map] at this; omega
            have e : parentsD (.tuple ds) = decide (V.int (((AxS.uniq (ds.map txtD)).length : Nat) : Int) = V.int (((((ds.map txtD).map V.str).length : Nat)) : Int)) := by
              show (ds.all textD && (decide (ds.length ≤ 2) && decide _)) = _
              rw [q, decide_eq_true l2, Bool.true_and, Bool.true_and, Bool.eq_iff_iff, decide_eq_true_iff, decide_eq_true_iff, List.length_map, List.length_map]
              constructor
              · intro z; rw [z]
              · intro z
                injection z with z
                omega
            rw [e] at k
            exact k _ (u.trans u2)
          · have e : parentsD (.tuple ds) = false := by
              show (ds.all textD && (decide (ds.length ≤ 2) && _)) = false
              rw [decide_eq_false (p := ds.length ≤ 2) (fun z => h1 (decide_eq_true (by rw [List.length_map, List.length_map]; omega))), Bool.false_and, Bool.and_false]
            rw [e] at k
            exact k _ u
    | none => exact iteT (k _ (Same.refl _))
    | bool b => exact iteT (k _ (Same.refl _))
    | int i => exact iteT (k _ (Same.refl _))
    | list ds => exact iteT (k _ (Same.refl _))
    | str x => exact iteT (k _ (Same.refl _))
    | dict kvs => exact iteT (k _ (Same.refl _))
end g_parents
namespace g_rows
abbrev st : Stmt := top 22
theorem sc : FnScope ["thing", "labels"] ["thing"] (defScope st) := ⟨rfl, rfl, rfl, by decide +kernel, rfl, by decide +kernel, by decide +kernel⟩
theorem ok {f : Addr} {fd : FuncData} (F : Fun K "is_rows" "is_rows" st f fd) (T : Txt K mg t1 t2 t3 t4 aT aA b1 b2 b3 b4 b5 b6 b7 b8 b9) (C_is_row : Cal P w K mg base 2 "is_row" ["thing"] (spRow K)) : FnOk P w K mg base CX0 3 f fd ["thing"] (spRows K) := by
  refine F.ok sc (fun vs H Q E h => ?_) (fun cdv A outer s H vs Q E hr h => ?_)
  · obtain ⟨d, v, rfl, _⟩ := h
    rfl
  · obtain ⟨d, v, rfl, hd, sm, d60, k⟩ := h
    refine ⟨_, (pss_cons (ps_if (PW.pt (pw_or (pt_not (pt_truthK (K := K) (pe_callB (call_isinstD (K := K)) (by rfl) T.isinstance PyProof.Rows.boot_isinstance (pa_cons (pv 0) (pa_cons (pe_bltn (v := .ty "tuple") rfl T.tuple PyProof.Rows.boot_tuple rfl) pa_nil))) (fun _ => rfl))) (pw_or1 (pt_not (pt_truthK (K := K) (pe_callB (call_all rfl) (by rfl) T.all PyProof.Rows.boot_all (pa_cons (pe_comp (sc := defScope st) (N := ["thing", "labels"]) (N' := ["row"]) (src := [none]) ⟨by decide +kernel, rfl, rfl, by decide +kernel, by decide +kernel, by decide +kernel, by decide +kernel⟩ rfl rfl rfl (pi_tup (pv 0)) (fun _ _ _ _ => (pg_name (i := 0) (show (["row"] : List Str).Nodup by decide +kernel) rfl (Or.inl rfl))) (fun _ _ _ _ => pf_nil) (fun _ _ _ _ => (pe_callC C_is_row (hr.mono (by decide)) (pa_cons (pv 0) pa_nil)))) pa_nil)) (fun _ => rfl))))))
        (pss_one (ps_ret pe_bl))
        pss_nil)
      (pss_cons (ps_setc (sc := defScope st) (N := ["thing", "labels"]) (N' := ["row"]) (src := [none]) ⟨by decide +kernel, rfl, rfl, by decide +kernel, by decide +kernel, by decide +kernel, by decide +kernel⟩ rfl rfl rfl (pi_tup (pv 0)) (fun _ _ _ _ => (pg_name (i := 0) (show (["row"] : List Str).Nodup by decide +kernel) rfl (Or.inl rfl))) (fun _ _ _ _ => pf_nil) (fun _ _ _ _ => (pe_ix (ix_tup : IxR _ (rIxT K)) (pv 0) pe_int (fun _ _ => rfl))) sc.nd rfl (Or.inl rfl) (k := 1))
      (pss_one (ps_ret (pe_cmpR (op_eqD hr.units) (pv 1) (pe_callB (call_sortedS rfl) (by rfl) T.sorted PyProof.Rows.boot_sorted (pa_cons (pe_callTy (call_set (K := K) rfl) (by rfl) T.set PyProof.Rows.boot_set (pa_cons (pv 1) pa_nil)) pa_nil)) (nomark _)))))), ?_⟩
    refine ⟨_, rfl, _, _, d, _, rfl, hd, T.is (by simp [kinds]), _, rfl, ?_⟩
    cases d with
    | tuple ds =>
      have d60 := d60 ds rfl
      obtain ⟨a, xs, rfl, hs, ha⟩ := hd
      obtain ⟨sl, sa⟩ := small_tuple sm
      have hlen := ha.length
      refine iteF ⟨_, rfl, a, rfl, ⟨_, hs⟩, comp_tup0 (K := K) (a := a) (xs := xs) (fun i ys σ H2 => ∃ o, σ = [o] ∧ Same H H2 ∧ ys = ((ds.take i).map rowD).map V.bl) ⟨none, rfl, Same.refl _, rfl⟩ (le_line (by omega)) ?_ ?_ ?_⟩
      · rintro i ys σ H2 hi ⟨o, rfl, e2, rfl⟩
        refine ⟨e2.tupS hs, ?_⟩
        rw [List.length_map, List.length_map, List.length_take]; omega
      · rintro i x ys σ H2 hx ⟨o, rfl, e2, rfl⟩
        obtain ⟨d, hd, dx⟩ := ha.get hx
        refine ⟨_, rfl, d, x, rfl, dx.same e2, smallAll_get sa hd, fun H3 e3 => ⟨_, rfl, e2.trans e3, ?_⟩⟩
        rw [all_take_succ hd, List.map_append]; rfl
      · rintro ys σ H2 ⟨o, rfl, e2, rfl⟩ p np
        refine ⟨p, _, rfl, SqL.of upd_same, ?_⟩
        rw [hlen, List.take_length, all_map]
        have u := e2.trans (same_upd (o := .lst ((ds.map rowD).map V.bl)) np)
        cases q : ds.all rowD with
        | false =>
          have e : rowsD (.tuple ds) = false := by show (ds.all rowD && _) = false; rw [q]; rfl
          rw [e] at k
          exact ⟨_, rfl, iteT (k _ u)⟩
        | true =>
          refine ⟨_, rfl, iteF ?_⟩
          show tSeq _ _ _ _ (upd H2 p (.lst ((ds.map rowD).map V.bl)))
          generalize upd H2 p (.lst ((ds.map rowD).map V.bl)) = G at u
          have haG := DwAll.same u _ _ ha
          refine ⟨_, rfl, a, rfl, ⟨_, u.tupS hs⟩, comp_tup0 (K := K) (a := a) (xs := xs) (fun i ys σ H2 => ∃ o, σ = [o] ∧ H2 = G ∧ ys = ((ds.take i).map labD).map V.str) ⟨none, rfl, rfl, rfl⟩ (le_line (by omega)) ?_ ?_ ?_⟩
          · rintro i ys σ H2 hi ⟨o, rfl, rfl, rfl⟩
            refine ⟨u.tupS hs, ?_⟩
            rw [List.length_map, List.length_map, List.length_take]; omega
          · rintro i x ys σ H2 hx ⟨o, rfl, rfl, rfl⟩
            obtain ⟨d, hd, dx⟩ := haG.get hx
            obtain ⟨t, y, rfl, ht, _⟩ := row_at dx (List.all_eq_true.mp q d (List.mem_of_getElem? hd))
            refine ⟨_, rfl, t, _, _, _, rfl, rfl, ht, rfl, _, rfl, rfl, ?_⟩
            have e1 : ds.take (i + 1) = ds.take i ++ [d] := by rw [List.take_add_one, hd]; rfl
            rw [e1, List.map_append, List.map_append]; rfl
          · rintro ys σ H2 ⟨o, rfl, rfl, rfl⟩ l nl
            rw [hlen, List.take_length]
            have v1 := same_upd (o := .lst ((ds.map labD).map V.str)) nl
            have ul := AxS.uniq_len _ (ds.map labD) rfl
            rw [List.length_map] at ul
            refine ⟨_, rfl, _, rfl, l, ds.map labD, rfl, .inl (SqL.of upd_same), by rw [List.length_map]; omega, fun p2 n2 => ?_⟩
            have v2 := v1.trans (same_upd (o := TxHO P w p2 (AxS.uniq (ds.map labD))) n2)
            refine ⟨p2, _, rfl, upd_same, by omega, fun l3 ss n3 hp hso => ?_⟩
            have v3 := v2.trans (same_upd (o := .lst (ss.map V.str)) n3)
            have okL : ∀ x ∈ ds.map labD, PyData.strOk x = true := fun x hx => by
              obtain ⟨d, hd, rfl⟩ := List.mem_map.mp hx
              obtain ⟨j, hj⟩ := List.getElem?_of_mem hd
              obtain ⟨z, hz, dz⟩ := haG.at hj
              obtain ⟨_, _, _, _, hl⟩ := row_at dz (List.all_eq_true.mp q d hd)
              exact labelB_ok hl
            have okS : ∀ x ∈ ss, PyData.strOk x = true := fun x hx => okL x (uniq_mem (hp.mem_iff.mp hx))
            have hlb := (v2.trans (same_upd (o := .lst (ss.map V.str)) n3))
            have hl3 := (((same_upd (o := TxHO P w p2 (AxS.uniq (ds.map labD))) n2).trans (same_upd (o := .lst (ss.map V.str)) n3))) _ _ (upd_same (H := H2) (a := l) (o := .lst ((ds.map labD).map V.str)))
            refine ⟨.list ((ds.map labD).map .str), .list (ss.map .str), ⟨l, _, rfl, SqL.of hl3, DtAll.strs _⟩, ⟨l3, _, rfl, SqL.of upd_same, DtAll.strs _⟩, (shaped_strs okL).1, (shaped_strs okS).1, ?_⟩
            have ev : PyData.eqv (.list ((ds.map labD).map .str)) (.list (ss.map .str)) = decide (ds.map labD = ss) := eqv_strs _ _
            rw [ev, sorted_set hp hso]
            have e : rowsD (.tuple ds) = riseB (ds.map labD) := by show (ds.all rowD && _) = _; rw [q]; rfl
            rw [e] at k
            exact k _ (u.trans v3)
    | none => exact iteT (k _ (Same.refl _))
    | bool b => exact iteT (k _ (Same.refl _))
    | int i => exact iteT (k _ (Same.refl _))
    | list ds => exact iteT (k _ (Same.refl _))
    | str x => exact iteT (k _ (Same.refl _))
    | dict kvs => exact iteT (k _ (Same.refl _))
end g_rows
namespace g_leaf
abbrev st : Stmt := top 24
theorem sc : FnScope ["word", "parts"] ["word", "parts"] (defScope st) := ⟨rfl, rfl, rfl, by decide +kernel, rfl, by decide +kernel, by decide +kernel⟩
theorem ok {f : Addr} {fd : FuncData} (F : Fun K "is_leaf" "is_leaf" st f fd) (T : Txt K mg t1 t2 t3 t4 aT aA b1 b2 b3 b4 b5 b6 b7 b8 b9) (C_is_lines : Cal P w K mg base 3 "is_lines" ["thing"] (spLines K)) : FnOk P w K mg base CX0 4 f fd ["word", "parts"] (spForm K leafB) := by
  refine F.ok sc (fun vs H Q E h => ?_) (fun cdv A outer s H vs Q E hr h => ?_)
  · obtain ⟨word, a, ds, xs, rfl, _⟩ := h
    rfl
  · obtain ⟨word, a, ds, xs, rfl, hs, ha, sa, d60, e60, k⟩ := h
    refine ⟨_, (pss_one (ps_ret (pe_and (pe_cmpR op_eq (pv 0) pe_str (nomark _)) (pe_and (pe_cmpR op_eq (pe_callB call_len_seq (by rfl) T.len PySem.boot_len (pa_cons (pv 1) pa_nil)) pe_int (nomark _)) (pe_one (pe_callC C_is_lines (hr.mono (by decide)) (pa_cons (pe_ix (ix_tup : IxR _ (rIxT K)) (pv 1) pe_int (fun _ _ => rfl)) pa_nil))))))), ?_⟩
    have hlen := ha.length
    refine ⟨_, rfl, rfl, _, rfl, ite2 (fun h1 => ?_) (fun h1 => ?_)⟩
    · have h1 : V.str word = V.str "leaf" := of_decide_eq_true h1
      have h1 : word = "leaf" := by injection h1
      refine ⟨_, rfl, a, _, rfl, .inr hs, rfl, _, rfl, ite2 (fun h2 => ?_) (fun h2 => ?_)⟩
      · have h2 : xs.length = 1 := by have := of_decide_eq_true h2; injection this with z; omega
        have hd0 : ds[0]? = some (atD ds 0) := by
          have : ds[0]? = some (ds[0]'(by omega)) := List.getElem?_eq_getElem _
          unfold atD; rw [this]; rfl
        obtain ⟨x, hx, dx⟩ := ha.at hd0
        refine ⟨_, rfl, a, _, _, _, rfl, rfl, hs, atI_nat (j := 0) hx, atD ds 0, _, rfl, dx, smallAll_get sa hd0, fun H2 s2 => ?_⟩
        have e : leafB word ds = linesD (atD ds 0) := by
          unfold leafB
          rw [decide_eq_true h1, decide_eq_true (show ds.length = 1 by omega)]; rfl
        rw [e] at k
        exact k _ s2
      · have e : leafB word ds = false := by
          unfold leafB
          rw [decide_eq_false (p := ds.length = 1) (fun z => h2 (decide_eq_true (by rw [hlen, z]; rfl))), Bool.false_and, Bool.and_false]
        rw [e] at k
        exact k _ (Same.refl _)
    · have e : leafB word ds = false := by
        unfold leafB
        rw [decide_eq_false (p := word = "leaf") (fun z => h1 (decide_eq_true (by rw [z]))), Bool.false_and]
      rw [e] at k
      exact k _ (Same.refl _)
end g_leaf
namespace g_tree
abbrev st : Stmt := top 25
theorem sc : FnScope ["word", "parts"] ["word", "parts"] (defScope st) := ⟨rfl, rfl, rfl, by decide +kernel, rfl, by decide +kernel, by decide +kernel⟩
theorem ok {f : Addr} {fd : FuncData} (F : Fun K "is_tree" "is_tree" st f fd) (T : Txt K mg t1 t2 t3 t4 aT aA b1 b2 b3 b4 b5 b6 b7 b8 b9) (C_is_rows : Cal P w K mg base 3 "is_rows" ["thing"] (spRows K)) : FnOk P w K mg base CX0 4 f fd ["word", "parts"] (spForm K treeB) := by
  refine F.ok sc (fun vs H Q E h => ?_) (fun cdv A outer s H vs Q E hr h => ?_)
  · obtain ⟨word, a, ds, xs, rfl, _⟩ := h
    rfl
  · obtain ⟨word, a, ds, xs, rfl, hs, ha, sa, d60, e60, k⟩ := h
    refine ⟨_, (pss_one (ps_ret (pe_and (pe_cmpR op_eq (pv 0) pe_str (nomark _)) (pe_and (pe_cmpR op_eq (pe_callB call_len_seq (by rfl) T.len PySem.boot_len (pa_cons (pv 1) pa_nil)) pe_int (nomark _)) (pe_one (pe_callC C_is_rows (hr.mono (by decide)) (pa_cons (pe_ix (ix_tup : IxR _ (rIxT K)) (pv 1) pe_int (fun _ _ => rfl)) pa_nil))))))), ?_⟩
    have hlen := ha.length
    refine ⟨_, rfl, rfl, _, rfl, ite2 (fun h1 => ?_) (fun h1 => ?_)⟩
    · have h1 : V.str word = V.str "tree" := of_decide_eq_true h1
      have h1 : word = "tree" := by injection h1
      refine ⟨_, rfl, a, _, rfl, .inr hs, rfl, _, rfl, ite2 (fun h2 => ?_) (fun h2 => ?_)⟩
      · have h2 : xs.length = 1 := by have := of_decide_eq_true h2; injection this with z; omega
        have hd0 : ds[0]? = some (atD ds 0) := by
          have : ds[0]? = some (ds[0]'(by omega)) := List.getElem?_eq_getElem _
          unfold atD; rw [this]; rfl
        obtain ⟨x, hx, dx⟩ := ha.at hd0
        refine ⟨_, rfl, a, _, _, _, rfl, rfl, hs, atI_nat (j := 0) hx, atD ds 0, _, rfl, dx, smallAll_get sa hd0, fun es he => e60 _ (List.mem_of_getElem? hd0) es he, fun H2 s2 => ?_⟩
        have e : treeB word ds = rowsD (atD ds 0) := by
          unfold treeB
          rw [decide_eq_true h1, decide_eq_true (show ds.length = 1 by omega)]; rfl
        rw [e] at k
        exact k _ s2
      · have e : treeB word ds = false := by
          unfold treeB
          rw [decide_eq_false (p := ds.length = 1) (fun z => h2 (decide_eq_true (by rw [hlen, z]; rfl))), Bool.false_and, Bool.and_false]
        rw [e] at k
        exact k _ (Same.refl _)
    · have e : treeB word ds = false := by
        unfold treeB
        rw [decide_eq_false (p := word = "tree") (fun z => h1 (decide_eq_true (by rw [z]))), Bool.false_and]
      rw [e] at k
      exact k _ (Same.refl _)
end g_tree
namespace g_note
abbrev st : Stmt := top 26
theorem sc : FnScope ["word", "parts"] ["word", "parts"] (defScope st) := ⟨rfl, rfl, rfl, by decide +kernel, rfl, by decide +kernel, by decide +kernel⟩
theorem ok {f : Addr} {fd : FuncData} (F : Fun K "is_note" "is_note" st f fd) (T : Txt K mg t1 t2 t3 t4 aT aA b1 b2 b3 b4 b5 b6 b7 b8 b9) (C_is_parents : Cal P w K mg base 1 "is_parents" ["thing"] (spParents K)) (C_is_line : Cal P w K mg base 2 "is_line" ["thing"] (spLine K)) : FnOk P w K mg base CX0 3 f fd ["word", "parts"] (spForm K noteB) := by
  refine F.ok sc (fun vs H Q E h => ?_) (fun cdv A outer s H vs Q E hr h => ?_)
  · obtain ⟨word, a, ds, xs, rfl, _⟩ := h
    rfl
  · obtain ⟨word, a, ds, xs, rfl, hs, ha, sa, d60, e60, k⟩ := h
    refine ⟨_, (pss_cons (ps_if (PW.pt (pw_or (pt_cmpR op_ne (pv 0) pe_str (nomark _)) (pw_or1 (pt_cmpR op_ne (pe_callB call_len_seq (by rfl) T.len PySem.boot_len (pa_cons (pv 1) pa_nil)) pe_int (nomark _)))))
        (pss_one (ps_ret pe_bl))
        pss_nil)
      (pss_one (ps_ret (pe_and (pe_callB (call_isinstD (K := K)) (by rfl) T.isinstance PyProof.Rows.boot_isinstance (pa_cons (pe_ix (ix_tup : IxR _ (rIxT K)) (pv 1) pe_int (fun _ _ => rfl)) (pa_cons (pe_bltn (v := .ty "str") rfl T.str PyProof.Rows.boot_str rfl) pa_nil))) (pe_and (pe_callC C_is_parents (hr.mono (by decide)) (pa_cons (pe_ix (ix_tup : IxR _ (rIxT K)) (pv 1) pe_int (fun _ _ => rfl)) pa_nil)) (pe_one (pe_callC C_is_line (hr.mono (by decide)) (pa_cons (pe_ix (ix_tup : IxR _ (rIxT K)) (pv 1) pe_int (fun _ _ => rfl)) pa_nil)))))))), ?_⟩
    have hlen := ha.length
    by_cases h1 : word = "note"
    · refine ⟨_, rfl, rfl, _, rfl, iteNS (by rw [h1]) ?_⟩
      by_cases h2 : ds.length = 3
      · refine ⟨_, rfl, a, _, rfl, .inr hs, rfl, _, rfl, iteNS (by rw [hlen, h2]; rfl) ?_⟩
        have get : ∀ i, i < 3 → ds[i]? = some (atD ds i) := fun i hi => by
          have : ds[i]? = some (ds[i]'(by omega)) := List.getElem?_eq_getElem _
          unfold atD; rw [this]; rfl
        obtain ⟨x0, hx0, dx0⟩ := ha.at (get 0 (by decide))
        obtain ⟨x1, hx1, dx1⟩ := ha.at (get 1 (by decide))
        obtain ⟨x2, hx2, dx2⟩ := ha.at (get 2 (by decide))
        have e : noteB word ds = (textD (atD ds 0) && (parentsD (atD ds 1) && lineD (atD ds 2))) := by
          unfold noteB
          rw [decide_eq_true h1, decide_eq_true h2]; rfl
        rw [e] at k
        refine ⟨_, rfl, a, _, _, _, rfl, rfl, hs, atI_nat (j := 0) hx0, _, _, atD ds 0, _, rfl, dx0, T.is (by simp [kinds]), _, rfl, ?_⟩
        rw [textD_name]
        cases q0 : textD (atD ds 0) with
        | false =>
          rw [q0] at k
          exact iteF (k _ (Same.refl _))
        | true =>
          rw [q0] at k
          refine iteT ⟨_, rfl, a, _, _, _, rfl, rfl, hs, atI_nat (j := 1) hx1, atD ds 1, _, rfl, dx1, smallAll_get sa (get 1 (by decide)), fun H2 s2 => ⟨_, rfl, ?_⟩⟩
          cases q1 : parentsD (atD ds 1) with
          | false =>
            rw [q1] at k
            exact iteF (k _ s2)
          | true =>
            rw [q1] at k
            exact iteT ⟨_, rfl, a, _, _, _, rfl, rfl, s2.tupS hs, atI_nat (j := 2) hx2, atD ds 2, _, rfl, dx2.same s2, smallAll_get sa (get 2 (by decide)), fun H3 s3 => k _ (s2.trans s3)⟩
      · have e : noteB word ds = false := by
          unfold noteB
          rw [decide_eq_false h2, Bool.false_and, Bool.and_false]
        rw [e] at k
        refine ⟨_, rfl, a, _, rfl, .inr hs, rfl, _, rfl, ?_⟩
        rw [decide_eq_false (p := V.int ((xs.length : Nat) : Int) = V.int 3) (fun z => h2 (by injection z with z; omega))]
        exact iteT (k _ (Same.refl _))
    · have e : noteB word ds = false := by
        unfold noteB
        rw [decide_eq_false h1, Bool.false_and]
      rw [e] at k
      refine ⟨_, rfl, rfl, _, rfl, ?_⟩
      rw [decide_eq_false (p := V.str word = V.str "note") (fun z => h1 (by injection z))]
      exact iteT (iteT (k _ (Same.refl _)))
end g_note
namespace g_thing
abbrev st : Stmt := top 27
theorem sc : FnScope ["thing", "word", "parts"] ["thing"] (defScope st) := ⟨rfl, rfl, rfl, by decide +kernel, rfl, by decide +kernel, by decide +kernel⟩
theorem ok {f : Addr} {fd : FuncData} (F : Fun K "is_thing" "is_thing" st f fd) (T : Txt K mg t1 t2 t3 t4 aT aA b1 b2 b3 b4 b5 b6 b7 b8 b9) (C_is_leaf : Cal P w K mg base 4 "is_leaf" ["word", "parts"] (spForm K leafB)) (C_is_tree : Cal P w K mg base 4 "is_tree" ["word", "parts"] (spForm K treeB)) (C_is_note : Cal P w K mg base 3 "is_note" ["word", "parts"] (spForm K noteB)) :
    FnOk P w K mg base CX0 5 f fd ["thing"] (spThing K) := by
  refine F.ok sc (fun vs H Q E h => ?_) (fun cdv A outer s H vs Q E hr h => ?_)
  · obtain ⟨d, v, rfl, _⟩ := h
    rfl
  · obtain ⟨d, v, rfl, hd, sm, nar, k⟩ := h
    refine ⟨_, (pss_cons (ps_if (PW.pt (pw_or (pt_not (pt_truthK (K := K) (pe_callB (call_isinstD (K := K)) (by rfl) T.isinstance PyProof.Rows.boot_isinstance (pa_cons (pv 0) (pa_cons (pe_bltn (v := .ty "tuple") rfl T.tuple PyProof.Rows.boot_tuple rfl) pa_nil))) (fun _ => rfl))) (pw_or (pt_cmpR op_eq (pe_callB call_len_seq (by rfl) T.len PySem.boot_len (pa_cons (pv 0) pa_nil)) pe_int (nomark _)) (pw_or1 (pt_not (pt_truthK (K := K) (pe_callB (call_isinstD (K := K)) (by rfl) T.isinstance PyProof.Rows.boot_isinstance (pa_cons (pe_ix (ix_tup : IxR _ (rIxT K)) (pv 0) pe_int (fun _ _ => rfl)) (pa_cons (pe_bltn (v := .ty "str") rfl T.str PyProof.Rows.boot_str rfl) pa_nil))) (fun _ => rfl)))))))
        (pss_one (ps_ret pe_bl))
        pss_nil)
      (pss_cons (ps_set (i := 1) sc.nd rfl (Or.inl rfl) (pe_ix (ix_tup : IxR _ (rIxT K)) (pv 0) pe_int (fun _ _ => rfl)))
      (pss_cons (ps_set (i := 2) sc.nd rfl (Or.inl rfl) (pe_slice (sl_tup2 : SlR _ (rSlT2 K)) (pv 0) (po_some pe_int) po_none))
      (pss_one (ps_ret (pe_or (pe_callC C_is_leaf (hr.mono (by decide)) (pa_cons (pv 1) (pa_cons (pv 2) pa_nil))) (pe_or (pe_callC C_is_tree (hr.mono (by decide)) (pa_cons (pv 1) (pa_cons (pv 2) pa_nil))) (pe_one (pe_callC C_is_note (hr.mono (by decide)) (pa_cons (pv 1) (pa_cons (pv 2) pa_nil))))))))))), ?_⟩
    refine ⟨_, rfl, _, _, d, _, rfl, hd, T.is (by simp [kinds]), _, rfl, ?_⟩
    cases d with
    | tuple ds =>
      obtain ⟨n1, n2⟩ := nar ds rfl
      obtain ⟨a, xs, rfl, hs, ha⟩ := hd
      obtain ⟨sl, sa⟩ := small_tuple sm
      have hlen := ha.length
      refine iteF ?_
      match ds, ha, hlen, sa, n1, n2, k with
      | [], ha, hlen, sa, n1, n2, k =>
        refine ⟨_, rfl, a, _, rfl, .inr hs, rfl, _, rfl, ?_⟩
        rw [decide_eq_true (show V.int ((xs.length : Nat) : Int) = V.int 0 by rw [hlen]; rfl)]
        exact iteT (iteT (k _ (Same.refl _)))
      | d0 :: ds, ⟨x0, r, ex, hd0, hr'⟩, hlen, sa, n1, n2, k =>
        subst ex
        refine ⟨_, rfl, a, _, rfl, .inr hs, rfl, _, rfl, iteN (fun z => by injection z with z; simp at z; omega) ?_⟩
        refine ⟨_, rfl, a, _, _, _, rfl, rfl, hs, atI_nat (j := 0) rfl, _, _, d0, _, rfl, hd0, T.is (by simp [kinds]), _, rfl, ?_⟩
        rw [textD_name]
        cases d0 with
        | str word =>
          cases (show x0 = _ from hd0)
          refine iteF ?_
          refine ⟨_, rfl, a, _, _, _, rfl, rfl, hs, atI_nat (j := 0) rfl, ?_⟩
          refine ⟨_, rfl, _, rfl, a, _, rfl, hs, fun v H1 hv => ?_⟩
          obtain ⟨q, rfl, s1, hq⟩ := cut_any hs hv
          rw [cut_from (by decide)] at hq
          have hq : SqT K H1 q r := hq
          have sa' : smallAll ds = true := by
            have sa : (small (.str word) && smallAll ds) = true := sa
            rw [Bool.and_eq_true] at sa
            exact sa.2
          have n1' : ds.length ≤ 60 := by have := n1; simp at this; omega
          have n2' : ∀ e ∈ ds, ∀ es, e = .tuple es → es.length ≤ 60 := fun e he => n2 e (List.mem_cons_of_mem _ he)
          refine ⟨_, rfl, _, rfl, word, q, ds, r, rfl, hq, DwAll.same s1 _ _ hr', sa', n1', n2', fun H2 s2 => ⟨_, rfl, ?_⟩⟩
          have k : ∀ H', Same H H' → Q (.bl (leafB word ds || (treeB word ds || noteB word ds))) H' := k
          cases q0 : leafB word ds with
          | true =>
            rw [q0] at k
            exact iteT (k _ (s1.trans s2))
          | false =>
            rw [q0, Bool.false_or] at k
            have s12 := s1.trans s2
            refine iteF ⟨_, rfl, _, rfl, word, q, ds, r, rfl, s2.tupS hq, DwAll.same s12 _ _ hr', sa', n1', n2', fun H3 s3 => ⟨_, rfl, ?_⟩⟩
            cases q1 : treeB word ds with
            | true =>
              rw [q1] at k
              exact iteT (k _ (s12.trans s3))
            | false =>
              rw [q1, Bool.false_or] at k
              exact iteF ⟨_, rfl, _, rfl, word, q, ds, r, rfl, (s2.trans s3).tupS hq, DwAll.same (s12.trans s3) _ _ hr', sa', n1', n2', fun H4 s4 => k _ ((s12.trans s3).trans s4)⟩
        | none => exact iteT (k _ (Same.refl _))
        | bool _ => exact iteT (k _ (Same.refl _))
        | int _ => exact iteT (k _ (Same.refl _))
        | list _ => exact iteT (k _ (Same.refl _))
        | tuple _ => exact iteT (k _ (Same.refl _))
        | dict _ => exact iteT (k _ (Same.refl _))
    | none => exact iteT (iteT (k _ (Same.refl _)))
    | bool b => exact iteT (iteT (k _ (Same.refl _)))
    | int i => exact iteT (iteT (k _ (Same.refl _)))
    | list ds => exact iteT (iteT (k _ (Same.refl _)))
    | str x => exact iteT (iteT (k _ (Same.refl _)))
    | dict kvs => exact iteT (iteT (k _ (Same.refl _)))
end g_thing
namespace g_need
abbrev st : Stmt := top 28
theorem sc : FnScope ["thing"] ["thing"] (defScope st) := ⟨rfl, rfl, rfl, by decide +kernel, rfl, by decide +kernel, by decide +kernel⟩
theorem ok {f : Addr} {fd : FuncData} (F : Fun K "need_thing" "need_thing" st f fd) (T : Txt K mg t1 t2 t3 t4 aT aA b1 b2 b3 b4 b5 b6 b7 b8 b9) (C_is_thing : Cal P w K mg base 5 "is_thing" ["thing"] (spThing K)) : FnOk P w K mg base (CXF P w) 6 f fd ["thing"] (spNeed K aT) := by
  refine F.okX sc (fun vs H Q E h => ?_) (fun cdv A outer s H vs Q E hr h => ?_)
  · obtain ⟨d, v, rfl, _⟩ := h
    rfl
  · obtain ⟨d, v, rfl, hd, sm, nar, k1, k2⟩ := h
    refine ⟨_, (pss_cons (ps_if (pt_not (pt_truthK (K := K) (pe_callC C_is_thing (hr.mono (by decide)) (pa_cons (pv 0) pa_nil)) (fun _ => rfl)))
        (pss_one (ps_raise rfl throws_fn rfl T.NoThing T.xNoThing (pa_cons pe_str pa_nil)))
        pss_nil)
      (pss_one (ps_ret (pv 0)))), ?_⟩
    refine ⟨_, rfl, d, v, rfl, hd, sm, nar, fun H2 s2 => ⟨_, rfl, ?_⟩⟩
    cases q : thingB d with
    | true => exact iteF ⟨_, rfl, k1 q _ s2⟩
    | false => exact iteT ⟨lineN 1, k2 q _ s2⟩
end g_need
end
end An02

set_option Elab.async false
set_option linter.all false
set_option maxRecDepth 100000
set_option maxHeartbeats 4000000
namespace An02
open PySem L2 An
seal L2.PS L2.PSs L2.PE L2.PT L2.PW L2.PA L2.PG L2.PGs L2.PI L2.PFi L2.PC
/-! ### signs, lines, labels by cells -/
def signT (c : Nat) : Bool := signB c || decide (c = 10) || decide (c = 9)
theorem signT_of {c : Nat} (h : signB c = true) : signT c = true := by unfold signT; rw [h]; rfl
theorem lineB_T {y : Str} (h : (cs y).all signT = true) : lineB y = (decide (y.length ≤ 20) && (!decide (10 ∈ cs y) && !decide (9 ∈ cs y))) := by
  unfold lineB
  congr 1
  have key : (cs y).all signB = true ↔ (10 ∉ cs y ∧ 9 ∉ cs y) := by
    rw [List.all_eq_true]
    constructor
    · intro k
      exact ⟨fun z => absurd (k 10 z) (by decide), fun z => absurd (k 9 z) (by decide)⟩
    · rintro ⟨k1, k2⟩ c hc
      have := List.all_eq_true.mp h c hc
      unfold signT at this
      simp only [Bool.or_eq_true, decide_eq_true_eq] at this
      rcases this with (q | q) | q
      · exact q
      · rw [q] at hc; exact absurd hc k1
      · rw [q] at hc; exact absurd hc k2
  by_cases k : (cs y).all signB = true
  · have := key.mp k
    rw [k, decide_eq_false this.1, decide_eq_false this.2]; rfl
  · have k' : ¬ (10 ∉ cs y ∧ 9 ∉ cs y) := fun z => k (key.mpr z)
    rw [Bool.eq_false_iff.mpr k]
    by_cases z : 10 ∈ cs y
    · rw [decide_eq_true z]; rfl
    · have z2 : 9 ∈ cs y := Classical.byContradiction fun w => k' ⟨z, w⟩
      rw [decide_eq_true z2, decide_eq_false z]; rfl
/-- a menu of n signs of a kind -/
def MenuP (p : Nat → Bool) (n : Nat) (x : Str) : Prop := (cs x).length = n ∧ (cs x).all p = true
theorem MenuP.at {p : Nat → Bool} {n : Nat} {x : Str} (h : MenuP p n x) {i : Int} (h0 : 0 ≤ i) (h1 : i < n) : ∃ c, atI x.cps.toList i = some c ∧ p c = true := by
  obtain ⟨j, rfl⟩ := Int.eq_ofNat_of_zero_le h0
  have hj : j < (cs x).length := by rw [h.1]; omega
  exact ⟨(cs x)[j], atI_nat (List.getElem?_eq_getElem hj), List.all_eq_true.mp h.2 _ (List.getElem_mem hj)⟩
theorem MenuP.len {p : Nat → Bool} {n : Nat} {x : Str} (h : MenuP p n x) (hn : n ≤ 1000) : x.length ≤ sizeLine := le_line (by rw [length_cs, h.1]; omega)
def spCellA (K : PySem.W.Frag) : Sp := fun vs H Q _ => ∃ (a : Addr) (ns : List Int) (k : Int), vs = [.ref a, .int k] ∧ SqL K H a (ns.map V.int) ∧ 0 ≤ k ∧ ∀ i, Q (.int i) H
def spLineBy : Sp := fun vs H Q _ => ∃ c, vs = [.int c] ∧ ∀ x H', lineB x = true → Same H H' → Q (.str x) H'
def spLabelBy : Sp := fun vs H Q _ => ∃ c, vs = [.int c] ∧ ∀ x H', labelB x = true → Same H H' → Q (.str x) H'
def spTrue : Sp := fun vs H Q _ => ∃ a b, vs = [.bl a, .bl b] ∧ Q (.bl (a == b)) H
def spSignBy : Sp := fun vs H Q _ => ∃ c, vs = [.int c] ∧ ∀ d, signT d = true → Q (.str ⟨#[d]⟩) H
def spBent : Sp := fun vs H Q _ => ∃ (x : Str) (c : Int), vs = [.str x, .int c] ∧ (cs x).all signT = true ∧ x.length ≤ 100 ∧ ∀ y, (cs y).all signT = true → y.length ≤ 300 → Q (.str y) H
def spLawLine : Sp := fun vs H Q _ => ∃ y : Str, vs = [.str y] ∧ (cs y).all signT = true ∧ y.length ≤ 1000 ∧ Q (.bl (lineB y)) H
def spLawLabel : Sp := fun vs H Q _ => ∃ y : Str, vs = [.str y] ∧ y.length ≤ 1000 ∧ Q (.bl (labelB y)) H
def spPut (K : PySem.W.Frag) : Sp := fun vs H Q _ => ∃ (a : Addr) (xs : List V) (k : Nat) (v : V), vs = [.ref a, .int k, v] ∧ SqL K H a xs ∧ k ≤ xs.length ∧ xs.length ≤ 1000 ∧ ∀ p H', Same H H' → SqT K H' p (xs.take k ++ [v] ++ xs.drop k) → Q (.ref p) H'
theorem line_parts {x : Str} : lineB x = true ↔ x.length ≤ 20 ∧ (cs x).all signB = true := by
  unfold lineB
  rw [Bool.and_eq_true, decide_eq_true_eq]
theorem lineB_T' {x : Str} (h : lineB x = true) : (cs x).all signT = true := by
  rw [List.all_eq_true]
  intro c hc
  exact signT_of (List.all_eq_true.mp (line_parts.mp h).2 c hc)
theorem low_sign {c : Nat} (h : lowB c = true) : signB c = true := by
  unfold lowB at h
  unfold signB
  simp only [Bool.and_eq_true, decide_eq_true_eq] at h ⊢
  omega
theorem label_parts {x : Str} : labelB x = true ↔ 1 ≤ x.length ∧ x.length ≤ 8 ∧ (cs x).all lowB = true := by
  unfold labelB
  rw [Bool.and_eq_true, Bool.and_eq_true, decide_eq_true_eq, decide_eq_true_eq, and_assoc]
theorem labelB_T {x : Str} (h : labelB x = true) : (cs x).all signT = true := by
  rw [List.all_eq_true]
  intro c hc
  exact signT_of (low_sign (List.all_eq_true.mp (label_parts.mp h).2.2 c hc))
theorem cut_all {p : Nat → Bool} {x : Str} (h : (cs x).all p = true) (lo hi : Option Int) : (cs (Txt.slice x lo hi)).all p = true := by
  rw [List.all_eq_true] at h ⊢
  intro c hc
  exact h c (mem_slice hc)
section
variable {P : Program} {w : World} {K : PySem.W.Frag} {mg : Str → Option Value} {base : Heap} {t1 t2 t3 t4 : Tok} {aT aA b1 b2 b3 b4 b5 b6 b7 b8 b9 : Addr}
namespace h_cell
abbrev st : Stmt := top 30
theorem sc : FnScope ["_law_script", "_law_k"] ["_law_script", "_law_k"] (defScope st) := ⟨rfl, rfl, rfl, by decide +kernel, rfl, by decide +kernel, by decide +kernel⟩
theorem ok {f : Addr} {fd : FuncData} (F : Fun K "_law_cell_at" "_law_cell_at" st f fd) (T : Txt K mg t1 t2 t3 t4 aT aA b1 b2 b3 b4 b5 b6 b7 b8 b9) : FnOk P w K mg base CX0 1 f fd ["_law_script", "_law_k"] (spCellA K) := by
  refine F.ok sc (fun vs H Q E h => ?_) (fun cdv A outer s H vs Q E hr h => ?_)
  · obtain ⟨a, ns, k, rfl, _⟩ := h
    rfl
  · obtain ⟨a, ns, k, rfl, hs, h0, q⟩ := h
    refine ⟨_, (pss_cons (ps_if (pt_cmpR op_lt (pv 1) (pe_callB call_len_seq (by rfl) T.len PySem.boot_len (pa_cons (pv 0) pa_nil)) (nomark _))
        (pss_one (ps_ret (pe_ix (ix_list : IxR _ (rIxL K)) (pv 0) (pv 1) (fun _ _ => rfl))))
        pss_nil)
      (pss_one (ps_ret pe_int))), ?_⟩
    refine ⟨_, rfl, _, rfl, a, _, rfl, .inl hs, _, _, rfl, rfl, _, rfl, ite2 (fun h => ?_) (fun h => ?_)⟩
    · have h1 : k < ns.length := by simpa using h
      obtain ⟨n, _, hn⟩ := at_map (f := V.int) h0 h1
      exact ⟨_, rfl, _, rfl, a, _, _, _, rfl, rfl, hs, hn, q n⟩
    · exact q 0
end h_cell
namespace h_line
abbrev st : Stmt := top 31
theorem sc : FnScope ["_law_cell", "_law_some", "_law_size"] ["_law_cell"] (defScope st) := ⟨rfl, rfl, rfl, by decide +kernel, rfl, by decide +kernel, by decide +kernel⟩
theorem ok {f : Addr} {fd : FuncData} (F : Fun K "_law_line_by" "_law_line_by" st f fd) (T : Txt K mg t1 t2 t3 t4 aT aA b1 b2 b3 b4 b5 b6 b7 b8 b9) : FnOk P w K mg base CX0 1 f fd ["_law_cell"] spLineBy := by
  refine F.ok sc (fun vs H Q E h => ?_) (fun cdv A outer s H vs Q E hr h => ?_)
  · obtain ⟨c, rfl, _⟩ := h
    rfl
  · obtain ⟨c, rfl, k⟩ := h
    refine ⟨_, (pss_cons (ps_set (i := 1) sc.nd rfl (Or.inr rfl) pe_str)
      (pss_cons (ps_set (i := 1) sc.nd rfl (Or.inr rfl) (pe_op op_add_str (pv 1) pe_str))
      (pss_cons (ps_set (i := 2) sc.nd rfl (Or.inl rfl) (pe_op op_mod (pv 0) pe_int))
      (pss_cut (ps_if (pt_cmpR op_eq (pe_op op_mod (pe_op op_fdiv (pv 0) pe_int) pe_int) pe_int (nomark _))
        (pss_one (ps_set (i := 2) sc.nd rfl (Or.inl rfl) (pe_op op_add pe_int (pe_op op_mod (pe_op op_fdiv (pv 0) pe_int) pe_int))))
        pss_nil)
      (pss_one (ps_ret (pe_bm PySem.F.plainAttrs_str PySem.F.slot_str_join PySem.F.type_str_join mt_join pe_str (pa_cons (pe_comp (sc := defScope st) (N := ["_law_cell", "_law_some", "_law_size"]) (N' := ["_law_k", "_law_some", "_law_cell"]) (src := [none, some 1, some 0]) ⟨by decide +kernel, rfl, rfl, by decide +kernel, by decide +kernel, by decide +kernel, by decide +kernel⟩ rfl rfl rfl (pi_range1 rfl T.range (pa_cons (pv 2) pa_nil)) (fun _ _ _ _ => (pg_name (i := 0) (show (["_law_k", "_law_some", "_law_cell"] : List Str).Nodup by decide +kernel) rfl (Or.inl rfl))) (fun _ _ _ _ => pf_nil) (fun _ _ _ _ => (pe_ix ix_str (pv 1) (pe_op op_mod (pe_op op_add (pe_op op_add (pe_op op_mul (pe_op op_fdiv (pv 2) pe_int) (pe_op op_add (pv 0) pe_int)) (pe_op op_fdiv (pv 2) pe_int)) (pe_op op_mul pe_int (pv 0))) pe_int) (fun _ _ => rfl)))) pa_nil)))))))), ?_⟩
    refine ⟨_, rfl, _, _, rfl, rfl, le_line (by decide +kernel), _, rfl, _, _, rfl, rfl, (by show (0 : Int) < 4; decide), fun σ' H' => ∃ n S, σ' = [some (.int c), some (.str S), some (.int n)] ∧ H' = H ∧ 0 ≤ n ∧ n ≤ 20 ∧ MenuP signB 94 S, ?_, ?_⟩
    · refine ⟨_, rfl, _, _, rfl, rfl, ⟨by decide, by decide⟩, _, _, rfl, rfl, (by show (0 : Int) < 9; decide), rfl, _, rfl, ite2 (fun _ => ?_) (fun _ => ?_)⟩
      · exact ⟨_, rfl, _, _, rfl, rfl, ⟨by decide, by decide⟩, _, _, rfl, rfl, (by show (0 : Int) < 4; decide), _, _, rfl, rfl, _, _, rfl, rfl, by omega, by omega, by decide +kernel, by decide +kernel⟩
      · exact ⟨_, _, rfl, rfl, by omega, by omega, by decide +kernel, by decide +kernel⟩
    · rintro σ' H' ⟨n, S, rfl, rfl, h0, h20, hS⟩
      refine ⟨rfl, _, rfl, n, rfl, by omega, by omega, comp_range0 (fun i ys σ H2 => ∃ x l, σ = [x, some (.str S), some (.int c)] ∧ H2 = H' ∧ ys = (l.map one).map V.str ∧ l.length = i ∧ ∀ c ∈ l, signB c = true) ⟨none, [], rfl, rfl, rfl, rfl, fun c hc => nomatch hc⟩ (le_line (by omega))
        (fun i ys σ H2 hi ⟨x, l, _, _, ey, el, _⟩ => by rw [ey, List.length_map, List.length_map, el]; exact Nat.le_refl _) ?_ ?_⟩
      · rintro i ys σ H2 hi ⟨x, l, rfl, rfl, rfl, rfl, al⟩
        refine ⟨_, rfl, _, rfl, _, _, rfl, rfl, ⟨by decide, by decide⟩, _, rfl, _, _, rfl, rfl, _, _, rfl, rfl, .inr ⟨by omega, by omega⟩, _, rfl, _, _, rfl, rfl, ⟨by decide, by decide⟩, _, _, rfl, rfl, _, rfl, _, _, rfl, rfl, .inl ⟨by decide, by decide⟩, _, _, rfl, rfl, _, _, rfl, rfl, (by show (0 : Int) < 94; decide), ?_⟩
        obtain ⟨d, hd1, hd2⟩ := hS.at (i := (c / 4 * (0 + ((l.length : Nat) : Int) + 1) + c / 7 + 5 * (0 + ((l.length : Nat) : Int))) % 94) (by omega) (by omega)
        refine ⟨S, _, d, rfl, rfl, hS.len (by decide), hd1, _, l ++ [d], rfl, rfl, ?_, by simp, mem_snoc al hd2⟩
        rw [List.map_append, List.map_append]
        rfl
      · rintro ys σ H2 ⟨x, l, rfl, rfl, rfl, el, al⟩ p np
        have c0 : ("" : Str).length = 0 := by decide +kernel
        refine ⟨_, p, l.map one, rfl, rfl, .inl (SqL.of upd_same), by rw [sum_ones, c0]; omega, k _ _ (line_parts.mpr ⟨?_, ?_⟩) (same_upd np)⟩
        · rw [length_cs, cs_joinOnes]; omega
        · rw [cs_joinOnes, List.all_eq_true]; exact al
end h_line
theorem rep_ones : ∀ n : Nat, (List.replicate n [V.str "a"]).flatten = ((List.replicate n 97).map one).map V.str
  | 0 => rfl
  | n + 1 => by
    rw [List.replicate_succ, List.flatten_cons, rep_ones n, List.replicate_succ, List.map_cons, List.map_cons]
    have e : (one 97) = ("a" : Str) := by decide +kernel
    rw [e]
    rfl
namespace h_label
abbrev st : Stmt := top 32
theorem sc : FnScope ["_law_cell", "_law_letters", "_law_size", "_law_word"] ["_law_cell"] (defScope st) := ⟨rfl, rfl, rfl, by decide +kernel, rfl, by decide +kernel, by decide +kernel⟩
theorem ok {f : Addr} {fd : FuncData} (F : Fun K "_law_label_by" "_law_label_by" st f fd) (T : Txt K mg t1 t2 t3 t4 aT aA b1 b2 b3 b4 b5 b6 b7 b8 b9) : FnOk P w K mg base CX0 1 f fd ["_law_cell"] spLabelBy := by
  refine F.ok sc (fun vs H Q E h => ?_) (fun cdv A outer s H vs Q E hr h => ?_)
  · obtain ⟨c, rfl, _⟩ := h
    rfl
  · obtain ⟨c, rfl, k⟩ := h
    refine ⟨_, (pss_cons (ps_set (i := 1) sc.nd rfl (Or.inr rfl) pe_str)
      (pss_cons (ps_set (i := 2) sc.nd rfl (Or.inl rfl) (pe_op op_add pe_int (pe_op op_mod (pv 0) pe_int)))
      (pss_cons (ps_setc (sc := defScope st) (N := ["_law_cell", "_law_letters", "_law_size", "_law_word"]) (N' := ["_law_k", "_law_letters", "_law_cell"]) (src := [none, some 1, some 0]) ⟨by decide +kernel, rfl, rfl, by decide +kernel, by decide +kernel, by decide +kernel, by decide +kernel⟩ rfl rfl rfl (pi_range1 rfl T.range (pa_cons (pv 2) pa_nil)) (fun _ _ _ _ => (pg_name (i := 0) (show (["_law_k", "_law_letters", "_law_cell"] : List Str).Nodup by decide +kernel) rfl (Or.inl rfl))) (fun _ _ _ _ => pf_nil) (fun _ _ _ _ => (pe_ix ix_str (pv 1) (pe_op op_mod (pe_op op_add (pe_op op_fdiv (pv 2) pe_int) (pe_op op_mul (pe_op op_mod (pe_op op_fdiv (pv 2) pe_int) pe_int) (pv 0))) pe_int) (fun _ _ => rfl))) sc.nd rfl (Or.inl rfl) (k := 3))
      (pss_cut (ps_if (pt_cmpR op_eq (pe_op op_mod (pe_op op_fdiv (pv 0) pe_int) pe_int) pe_int (nomark _))
        (pss_cons (ps_set (i := 3) sc.nd rfl (Or.inl rfl) (pe_op op_rep (pe_lst (pa_cons pe_str pa_nil)) (pv 2)))
        (pss_one (ps_asg (pe_ix ix_str (pv 1) (pe_op op_mod (pe_op op_fdiv (pv 0) pe_int) pe_int) (fun _ _ => rfl)) (pg_sub (pv 3) (pe_op op_mod (pe_op op_fdiv (pv 0) pe_int) (pv 2)) set_list))))
        pss_nil)
      (pss_one (ps_ret (pe_bm PySem.F.plainAttrs_str PySem.F.slot_str_join PySem.F.type_str_join mt_join pe_str (pa_cons (pv 3) pa_nil)))))))), ?_⟩
    obtain ⟨S, hS0, hS⟩ : ∃ S : Str, S = "abcdefghijklmnopqrstuvwxyz" ∧ MenuP lowB 26 S := ⟨_, rfl, by decide +kernel, by decide +kernel⟩
    rw [← hS0]
    have b1 : 0 ≤ c % 8 ∧ c % 8 < 8 := by omega
    refine ⟨_, rfl, _, _, rfl, rfl, (by show (0 : Int) < 8; decide), _, _, rfl, rfl, ?_⟩
    refine ⟨_, rfl, _, rfl, by omega, by omega, comp_range0 (fun i ys σ H2 => ∃ x l, σ = [x, some (.str S), some (.int c)] ∧ H2 = H ∧ ys = (l.map one).map V.str ∧ l.length = i ∧ ∀ c ∈ l, lowB c = true) ⟨none, [], rfl, rfl, rfl, rfl, fun c hc => nomatch hc⟩ (le_line (by omega))
      (fun i ys σ H2 hi ⟨x, l, _, _, ey, el, _⟩ => by rw [ey, List.length_map, List.length_map, el]; exact Nat.le_refl _) ?_ ?_⟩
    · rintro i ys σ H2 hi ⟨x, l, rfl, rfl, rfl, rfl, al⟩
      refine ⟨_, rfl, _, rfl, _, _, rfl, rfl, ⟨by decide, by decide⟩, _, rfl, _, _, rfl, rfl, ⟨by decide, by decide⟩, _, _, rfl, rfl, (by show (0 : Int) < 2; decide), _, rfl, _, _, rfl, rfl, .inr ⟨by omega, by omega⟩, _, _, rfl, rfl, _, _, rfl, rfl, (by show (0 : Int) < 26; decide), ?_⟩
      obtain ⟨d, hd1, hd2⟩ := hS.at (i := (c / 16 + c / 400 % 2 * (0 + ((l.length : Nat) : Int))) % 26) (by omega) (by omega)
      refine ⟨S, _, d, rfl, rfl, hS.len (by decide), hd1, _, l ++ [d], rfl, rfl, ?_, by simp, mem_snoc al hd2⟩
      rw [List.map_append, List.map_append]
      rfl
    · rintro ys σ H2 ⟨x, l, rfl, rfl, rfl, el, al⟩ p np
      refine ⟨fun σ' H' => ∃ (q : Addr) (l : List Nat), σ' = [some (.int c), some (.str S), some (.int (1 + c % 8)), some (.ref q)] ∧ Same H2 H' ∧ H' q = some (.lst ((l.map one).map V.str)) ∧ 1 ≤ l.length ∧ l.length ≤ 8 ∧ ∀ c ∈ l, lowB c = true, ?_, ?_⟩
      · refine ⟨_, rfl, _, _, rfl, rfl, ⟨by decide, by decide⟩, _, _, rfl, rfl, (by show (0 : Int) < 2; decide), rfl, _, rfl, ite2 (fun _ => ?_) (fun _ => ?_)⟩
        · refine ⟨lineN 1, fun l1 n1 => ⟨_, rfl, l1, _, _, rfl, rfl, upd_same, by omega, by omega, ?_, fun l2 n2 => ?_⟩⟩
          · show 1 * (1 + c % 8).toNat ≤ _
            exact le_line (by omega)
          rw [rep_ones]
          refine ⟨_, rfl, _, rfl, _, _, rfl, rfl, ⟨by decide, by decide⟩, _, _, rfl, rfl, (by show (0 : Int) < 26; decide), ?_⟩
          obtain ⟨d, hd1, hd2⟩ := hS.at (i := c / 128 % 26) (by omega) (by omega)
          refine ⟨S, _, d, rfl, rfl, hS.len (by decide), hd1, _, rfl, _, rfl, _, _, rfl, rfl, ⟨by decide, by decide⟩, _, rfl, _, _, rfl, rfl, (by show (0 : Int) < 1 + c % 8; omega), ?_⟩
          have hix : ixN (((List.replicate (1 + c % 8).toNat 97).map one).map V.str).length (c / 16 % (1 + c % 8)) = some (c / 16 % (1 + c % 8)).toNat := by
            have z1 : 0 ≤ c / 16 % (1 + c % 8) := Int.emod_nonneg _ (by omega)
            have z2 : c / 16 % (1 + c % 8) < 1 + c % 8 := Int.emod_lt_of_pos _ (by omega)
            unfold ixN
            rw [if_pos z1, List.length_map, List.length_map, List.length_replicate, if_pos (by omega)]
          refine ⟨l2, _, _, _, rfl, rfl, upd_same, hix, l2, (List.replicate (1 + c % 8).toNat 97).set (c / 16 % (1 + c % 8)).toNat d, rfl, ?_, ?_, ?_, ?_, ?_⟩
          · rw [upd_upd]
            exact ((same_upd np).trans (same_upd n1)).trans (same_upd n2)
          · rw [upd_same, List.map_set, List.map_set]
            rfl
          · rw [List.length_set, List.length_replicate]
            omega
          · rw [List.length_set, List.length_replicate]
            omega
          · intro e he
            rcases List.mem_or_eq_of_mem_set he with z | z
            · rw [(List.mem_replicate.mp z).2]; decide
            · rw [z]; exact hd2
        · exact ⟨p, l, rfl, same_upd np, upd_same, by omega, by omega, al⟩
      · rintro σ' H' ⟨q, l', rfl, s1, hq, hl1, hl', al'⟩
        have c0 : ("" : Str).length = 0 := by decide +kernel
        refine ⟨rfl, _, rfl, _, q, l'.map one, rfl, rfl, .inl (SqL.of hq), by rw [sum_ones, c0]; omega, k _ _ (label_parts.mpr ⟨?_, ?_, ?_⟩) s1⟩
        · rw [length_cs, cs_joinOnes]; omega
        · rw [length_cs, cs_joinOnes]; omega
        · rw [cs_joinOnes, List.all_eq_true]; exact al'
end h_label
namespace h_true
abbrev st : Stmt := top 33
theorem sc : FnScope ["_law_found", "_law_due"] ["_law_found", "_law_due"] (defScope st) := ⟨rfl, rfl, rfl, by decide +kernel, rfl, by decide +kernel, by decide +kernel⟩
theorem ok {f : Addr} {fd : FuncData} (F : Fun K "_law_true" "_law_true" st f fd) (T : Txt K mg t1 t2 t3 t4 aT aA b1 b2 b3 b4 b5 b6 b7 b8 b9) : FnOk P w K mg base CX0 1 f fd ["_law_found", "_law_due"] spTrue := by
  refine F.ok sc (fun vs H Q E h => ?_) (fun cdv A outer s H vs Q E hr h => ?_)
  · obtain ⟨a, b, rfl, _⟩ := h
    rfl
  · obtain ⟨a, b, rfl, k⟩ := h
    refine ⟨_, (pss_one (ps_ret (pe_and (pe_callB (call_isinstK (K := K)) (by rfl) T.isinstance PyProof.Rows.boot_isinstance (pa_cons (pv 0) (pa_cons (pe_bltn (v := .ty "bool") rfl T.bool PyProof.Rows.boot_bool rfl) pa_nil))) (pe_one (pe_cmpR op_eq (pv 0) (pv 1) (nomark _)))))), ?_⟩
    refine ⟨_, rfl, _, _, _, true, rfl, .bl a, rfl, true, rfl, iteT ?_⟩
    refine ⟨_, rfl, _, rfl, rfl, ?_⟩
    have e : decide (V.bl a = V.bl b) = (a == b) := by cases a <;> cases b <;> rfl
    rw [e]
    exact k
end h_true
namespace h_sign
abbrev st : Stmt := top 34
theorem sc : FnScope ["_law_cell", "_law_some"] ["_law_cell"] (defScope st) := ⟨rfl, rfl, rfl, by decide +kernel, rfl, by decide +kernel, by decide +kernel⟩
theorem ok {f : Addr} {fd : FuncData} (F : Fun K "_law_sign_by" "_law_sign_by" st f fd) (T : Txt K mg t1 t2 t3 t4 aT aA b1 b2 b3 b4 b5 b6 b7 b8 b9) : FnOk P w K mg base CX0 1 f fd ["_law_cell"] spSignBy := by
  refine F.ok sc (fun vs H Q E h => ?_) (fun cdv A outer s H vs Q E hr h => ?_)
  · obtain ⟨c, rfl, _⟩ := h
    rfl
  · obtain ⟨c, rfl, k⟩ := h
    refine ⟨_, (pss_cons (ps_set (i := 1) sc.nd rfl (Or.inl rfl) pe_str)
      (pss_one (ps_ret (pe_ix ix_str (pe_op op_add_str (pv 1) pe_str) (pe_op op_mod (pv 0) pe_int) (fun _ _ => rfl))))), ?_⟩
    refine ⟨_, rfl, _, _, rfl, rfl, le_line (by decide +kernel), ?_⟩
    obtain ⟨S, hS0, hS⟩ : ∃ S : Str, S = (" !#$&'()*+,-./0123456789:;<=>?@ABCDEFGHIJKLMNOPQRSTUVWXYZ[]^_`abcdefghijklmnopqrstuvwxyz{|}~" : Str) ++ ("\n\t" : Str) ∧ MenuP signT 94 S := ⟨_, rfl, by decide +kernel, by decide +kernel⟩
    rw [← hS0]
    refine ⟨_, rfl, _, _, rfl, rfl, (by show (0 : Int) < 94; decide), ?_⟩
    obtain ⟨d, hd1, hd2⟩ := hS.at (i := c % 94) (by omega) (by omega)
    exact ⟨S, _, d, rfl, rfl, hS.len (by decide), hd1, k d hd2⟩
end h_sign
theorem all_append {p : Nat → Bool} {x y : Str} (h1 : (cs x).all p = true) (h2 : (cs y).all p = true) : (cs (x ++ y)).all p = true := by
  rw [cs_append, List.all_append, h1, h2]; rfl
namespace h_bent
abbrev st : Stmt := top 35
theorem sc : FnScope ["_law_text", "_law_cell", "_law_at"] ["_law_text", "_law_cell"] (defScope st) := ⟨rfl, rfl, rfl, by decide +kernel, rfl, by decide +kernel, by decide +kernel⟩
theorem ok {f : Addr} {fd : FuncData} (F : Fun K "_law_bent" "_law_bent" st f fd) (T : Txt K mg t1 t2 t3 t4 aT aA b1 b2 b3 b4 b5 b6 b7 b8 b9) (C__law_sign_by : Cal P w K mg base 1 "_law_sign_by" ["_law_cell"] spSignBy) : FnOk P w K mg base CX0 2 f fd ["_law_text", "_law_cell"] spBent := by
  refine F.ok sc (fun vs H Q E h => ?_) (fun cdv A outer s H vs Q E hr h => ?_)
  · obtain ⟨x, c, rfl, _⟩ := h
    rfl
  · obtain ⟨x, c, rfl, hx, xl, k⟩ := h
    refine ⟨_, (pss_cons (ps_set (i := 2) sc.nd rfl (Or.inl rfl) (pe_op op_mod (pv 1) (pe_op op_add (pe_callB call_len_str (by rfl) T.len PySem.boot_len (pa_cons (pv 0) pa_nil)) pe_int)))
      (pss_cons (ps_if (pt_cmpR op_eq (pe_op op_mod (pe_op op_fdiv (pv 1) pe_int) pe_int) pe_int (nomark _))
        (pss_one (ps_ret (pv 0)))
        pss_nil)
      (pss_one (ps_ret (pe_op op_add_str (pe_op op_add_str (pe_slice sl_str (pv 0) po_none (po_some (pv 2))) (pe_callC C__law_sign_by (hr.mono (by decide)) (pa_cons (pe_op op_fdiv (pv 1) pe_int) pa_nil))) (pe_slice sl_str (pv 0) (po_some (pv 2)) po_none)))))), ?_⟩
    refine ⟨_, rfl, _, rfl, x, rfl, le_line (by omega), _, _, rfl, rfl, _, _, rfl, rfl, (by show (0 : Int) < (x.length : Int) + 1; omega), ?_⟩
    refine ⟨_, rfl, _, _, rfl, rfl, ⟨by decide, by decide⟩, _, _, rfl, rfl, (by show (0 : Int) < 3; decide), rfl, _, rfl, ite2 (fun _ => ⟨_, rfl, k x hx (by omega)⟩) (fun _ => ?_)⟩
    have sl1 := Txt.slice_le x none (some (c % ((x.length : Int) + 1)))
    have sl2 := Txt.slice_le x (some (c % ((x.length : Int) + 1))) none
    refine ⟨_, rfl, _, rfl, _, rfl, x, rfl, le_line (by omega), _, rfl, _, _, rfl, rfl, ⟨by decide, by decide⟩, _, rfl, fun d hd => ?_⟩
    have o1 : ∀ d, (⟨#[d]⟩ : Str).length = 1 := fun d => rfl
    refine ⟨_, _, rfl, rfl, le_line (by rw [o1]; omega), _, rfl, _, rfl, _, rfl, x, rfl, le_line (by omega), _, _, rfl, rfl, le_line ?_, k _ (all_append (all_append (cut_all hx _ _) ?_) (cut_all hx _ _)) ?_⟩
    · have := Str.length_append (Txt.slice x none (some (c % ((x.length : Int) + 1)))) ⟨#[d]⟩
      rw [this, o1]; omega
    · show (signT d && true) = true
      rw [hd]; rfl
    · have l1 := Str.length_append (Txt.slice x none (some (c % ((x.length : Int) + 1))) ++ ⟨#[d]⟩) (Txt.slice x (some (c % ((x.length : Int) + 1))) none)
      have l2 := Str.length_append (Txt.slice x none (some (c % ((x.length : Int) + 1)))) ⟨#[d]⟩
      rw [l1, l2, o1]; omega
end h_bent
namespace h_lline
abbrev st : Stmt := top 36
theorem sc : FnScope ["_law_text"] ["_law_text"] (defScope st) := ⟨rfl, rfl, rfl, by decide +kernel, rfl, by decide +kernel, by decide +kernel⟩
theorem ok {f : Addr} {fd : FuncData} (F : Fun K "_law_line" "_law_line" st f fd) (T : Txt K mg t1 t2 t3 t4 aT aA b1 b2 b3 b4 b5 b6 b7 b8 b9) : FnOk P w K mg base CX0 1 f fd ["_law_text"] spLawLine := by
  refine F.ok sc (fun vs H Q E h => ?_) (fun cdv A outer s H vs Q E hr h => ?_)
  · obtain ⟨y, rfl, _⟩ := h
    rfl
  · obtain ⟨y, rfl, hy, yl, k⟩ := h
    refine ⟨_, (pss_one (ps_ret (pe_and (pe_cmpR op_le (pe_callB call_len_str (by rfl) T.len PySem.boot_len (pa_cons (pv 0) pa_nil)) pe_int (nomark _)) (pe_and (pe_cmpR op_notin_str pe_str (pv 0) (by with_unfolding_all rfl)) (pe_one (pe_cmpR op_notin_str pe_str (pv 0) (by with_unfolding_all rfl))))))), ?_⟩
    rw [lineB_T hy] at k
    have n1 : (!(!(Builtin.Str.occurrences y "\n" 0 y.length 1).isEmpty)) = !decide (10 ∈ cs y) := by
      have e : ("\n" : Str) = ⟨#[10]⟩ := by decide +kernel
      rw [e, StrLaws.found_one]
    have n2 : (!(!(Builtin.Str.occurrences y "\t" 0 y.length 1).isEmpty)) = !decide (9 ∈ cs y) := by
      have e : ("\t" : Str) = ⟨#[9]⟩ := by decide +kernel
      rw [e, StrLaws.found_one]
    refine ⟨_, rfl, y, rfl, le_line (by omega), _, _, rfl, rfl, _, rfl, ite2 (fun h1 => ?_) (fun h1 => ?_)⟩
    · have h1 : y.length ≤ 20 := by have := of_decide_eq_true h1; omega
      rw [decide_eq_true h1] at k
      refine ⟨_, rfl, _, _, rfl, rfl, _, rfl, ?_⟩
      rw [n1]
      refine ite2 (fun h2 => ?_) (fun h2 => ?_)
      · rw [h2] at k
        refine ⟨_, rfl, _, _, rfl, rfl, ?_⟩
        rw [n2]
        exact k
      · rw [Bool.eq_false_iff.mpr h2] at k
        exact k
    · rw [decide_eq_false (fun z => h1 (decide_eq_true (by omega)))] at k
      exact k
end h_lline
namespace h_llabel
abbrev st : Stmt := top 37
theorem sc : FnScope ["_law_text", "_law_sign"] ["_law_text"] (defScope st) := ⟨rfl, rfl, rfl, by decide +kernel, rfl, by decide +kernel, by decide +kernel⟩
theorem ok {f : Addr} {fd : FuncData} (F : Fun K "_law_label" "_law_label" st f fd) (T : Txt K mg t1 t2 t3 t4 aT aA b1 b2 b3 b4 b5 b6 b7 b8 b9) : FnOk P w K mg base CX0 1 f fd ["_law_text"] spLawLabel := by
  refine F.ok sc (fun vs H Q E h => ?_) (fun cdv A outer s H vs Q E hr h => ?_)
  · obtain ⟨y, rfl, _⟩ := h
    rfl
  · obtain ⟨y, rfl, yl, k⟩ := h
    refine ⟨_, (pss_cons (ps_for PassesOwn.never rfl (pi_str (pv 0)) (pg_name (i := 1) sc.nd rfl (Or.inl rfl))
        (pss_one (ps_if (pt_cmpR op_notin_str (pv 1) pe_str (by with_unfolding_all rfl))
          (pss_one (ps_ret pe_bl))
          pss_nil)))
      (pss_one (ps_ret (pe_chain op_le op_le pe_int (pe_callB call_len_str (by rfl) T.len PySem.boot_len (pa_cons (pv 0) pa_nil)) pe_int)))), ?_⟩
    have low : ∀ c : Nat, (!(!(Builtin.Str.occurrences ("abcdefghijklmnopqrstuvwxyz" : Str) ⟨#[c]⟩ 0 ("abcdefghijklmnopqrstuvwxyz" : Str).length 1).isEmpty)) = !lowB c := fun c => by
      rw [StrLaws.found_one]
      congr 1
      have e : ("abcdefghijklmnopqrstuvwxyz" : Str).cps.toList = (List.range 26).map (· + 97) := by decide +kernel
      rw [e]
      unfold lowB
      rw [← Bool.decide_and]
      refine decide_eq_decide.mpr ?_
      rw [List.mem_map]
      constructor
      · rintro ⟨a, ha, rfl⟩
        have := List.mem_range.mp ha
        omega
      · rintro ⟨h1, h2⟩
        exact ⟨c - 97, List.mem_range.mpr (by omega), by omega⟩
    refine ⟨_, rfl, _, rfl, for_str (fun i σ H2 => ∃ o, σ = [some (.str y), o] ∧ H2 = H ∧ ((cs y).take i).all lowB = true) ⟨none, rfl, rfl, rfl⟩ ?_ ?_⟩
    · rintro i c σ H2 hc ⟨o, rfl, rfl, al⟩
      refine ⟨_, rfl, _, _, rfl, rfl, _, rfl, ?_⟩
      rw [low]
      have hc' : (cs y)[i]? = some c := cs_get hc
      cases q : lowB c with
      | true =>
        refine iteF ⟨some (.str ⟨#[c]⟩), rfl, rfl, ?_⟩
        rw [List.take_add_one, hc', List.all_append, al]
        show (true && (lowB c && true)) = true
        rw [q]; rfl
      | false =>
        refine iteT ?_
        have e : labelB y = false := by
          refine Bool.eq_false_iff.mpr fun z => ?_
          have := List.all_eq_true.mp (label_parts.mp z).2.2 c (List.mem_of_getElem? hc')
          rw [q] at this; cases this
        rw [e] at k
        exact k
    · rintro σ H2 ⟨o, rfl, rfl, al⟩
      rw [length_cs, List.take_length] at al
      refine ⟨_, rfl, y, rfl, le_line (by omega), _, _, rfl, rfl, _, rfl, ite2 (fun h1 => ?_) (fun h1 => ?_)⟩
      · have h1 : (1 : Int) ≤ y.length := of_decide_eq_true h1
        refine ⟨_, _, rfl, rfl, ?_⟩
        have e : labelB y = decide ((y.length : Int) ≤ 8) := by
          unfold labelB
          rw [al, decide_eq_true (show 1 ≤ y.length by omega), Bool.and_true, Bool.true_and]
          exact decide_eq_decide.mpr (by omega)
        rw [e] at k
        exact k
      · have e : labelB y = false := by
          refine Bool.eq_false_iff.mpr fun z => h1 (decide_eq_true ?_)
          have := (label_parts.mp z).1
          omega
        rw [e] at k
        exact k
end h_llabel
namespace h_put
abbrev st : Stmt := top 38
theorem sc : FnScope ["_law_row", "_law_at", "_law_part"] ["_law_row", "_law_at", "_law_part"] (defScope st) := ⟨rfl, rfl, rfl, by decide +kernel, rfl, by decide +kernel, by decide +kernel⟩
theorem ok {f : Addr} {fd : FuncData} (F : Fun K "_law_put" "_law_put" st f fd) (T : Txt K mg t1 t2 t3 t4 aT aA b1 b2 b3 b4 b5 b6 b7 b8 b9) : FnOk P w K mg base CX0 1 f fd ["_law_row", "_law_at", "_law_part"] (spPut K) := by
  refine F.ok sc (fun vs H Q E h => ?_) (fun cdv A outer s H vs Q E hr h => ?_)
  · obtain ⟨a, xs, k, v, rfl, _⟩ := h
    rfl
  · obtain ⟨a, xs, k, v, rfl, ha, kl, xl, q⟩ := h
    refine ⟨_, (pss_one (ps_ret (pe_callTy call_tuple_of (by rfl) T.tuple PyProof.Rows.boot_tuple (pa_cons (pe_op op_cat (pe_op op_cat (pe_slice (sl_list : SlR _ (rSlL K)) (pv 0) po_none (po_some (pv 1))) (pe_lst (pa_cons (pv 2) pa_nil))) (pe_slice (sl_list : SlR _ (rSlL K)) (pv 0) (po_some (pv 1)) po_none)) pa_nil)))), ?_⟩
    refine ⟨_, rfl, _, rfl, _, rfl, a, _, rfl, ha, fun l1 n1 => ?_⟩
    have u1 := same_upd (o := .lst (cutV xs none (some (k : Int)))) n1
    refine ⟨_, rfl, lineN 1, fun l2 n2 => ?_⟩
    have u2 := same_upd (o := .lst [v]) n2
    have d12 : l1 ≠ l2 := ne_of_none upd_same n2
    have e1 : cutV xs none (some (k : Int)) = xs.take k := by rw [cut_to (by omega), Int.toNat_natCast]
    have e2 : cutV xs (some (k : Int)) none = xs.drop k := by rw [cut_from (by omega), Int.toNat_natCast]
    refine ⟨l1, l2, _, _, rfl, rfl, u2 _ _ upd_same, upd_same, le_line (by rw [e1, List.length_take]; simp only [List.length_cons, List.length_nil]; omega), fun l3 n3 => ?_⟩
    have u3 := same_upd (o := .lst (cutV xs none (some (k : Int)) ++ [v])) n3
    have s3 := (u1.trans u2).trans u3
    refine ⟨_, rfl, _, rfl, _, rfl, a, _, rfl, s3.seq ha, fun l4 n4 => ?_⟩
    have u4 := same_upd (o := .lst (cutV xs (some (k : Int)) none)) n4
    have d34 : l3 ≠ l4 := ne_of_none upd_same n4
    refine ⟨l3, l4, _, _, rfl, rfl, u4 _ _ upd_same, upd_same, le_line ?_, fun l5 n5 => ?_⟩
    · rw [e1, e2, List.length_append, List.length_take, List.length_drop]; simp only [List.length_cons, List.length_nil]; omega
    have s5 := (s3.trans u4).trans (same_upd (o := .lst (cutV xs none (some (k : Int)) ++ [v] ++ cutV xs (some (k : Int)) none)) n5)
    refine ⟨l5, _, rfl, .inl ⟨SqL.of upd_same, fun p np => q p _ (s5.trans (same_upd np)) (SqT.of ?_)⟩⟩
    rw [upd_same, e1, e2]
end h_put
def spRefused (K : PySem.W.Frag) : Sp := fun vs H Q _ => ∃ (d : PyData) (v : V), vs = [v] ∧ Dw K H d v ∧ small d = true ∧ narrow d ∧ thingB d = false ∧ ∀ H', Q (.bl true) H'
namespace h_refused
abbrev st : Stmt := top 40
theorem sc : FnScope ["_law_thing", "error"] ["_law_thing"] (defScope st) := ⟨rfl, rfl, rfl, by decide +kernel, rfl, by decide +kernel, by decide +kernel⟩
theorem ok {f : Addr} {fd : FuncData} (F : Fun K "_law_refused" "_law_refused" st f fd) (T : Txt K mg t1 t2 t3 t4 aT aA b1 b2 b3 b4 b5 b6 b7 b8 b9) (C_need_thing : CalX P w K mg base 6 "need_thing" ["thing"] (spNeed K aT)) : FnOk P w K mg base CX0 7 f fd ["_law_thing"] (spRefused K) := by
  refine F.ok sc (fun vs H Q E h => ?_) (fun cdv A outer s H vs Q E hr h => ?_)
  · obtain ⟨d, v, rfl, _⟩ := h
    rfl
  · obtain ⟨d, v, rfl, hd, sm, nar, nt, k⟩ := h
    refine ⟨_, (pss_cons (ps_try rfl rfl rfl (fun _ _ => (pss_one (ps_expr (pe_callX C_need_thing (hr.mono (by decide)) (raises_tryc rfl) (pa_cons (pv 0) pa_nil))))) rfl T.AnnalsError sc.nd (i := 1) rfl rfl (fun _ => (pss_cons (ps_if (PW.pt (pw_or (pt_truthK (K := K) (pe_callB (call_isinstE (K := K) (C := b1)) (by rfl) T.isinstance PyProof.Rows.boot_isinstance (pa_cons (pv 1) (pa_cons (pe_glob (v := .ref b1) rfl T.NoName rfl) pa_nil))) (fun _ => rfl)) (pw_or (pt_truthK (K := K) (pe_callB (call_isinstE (K := K) (C := b2)) (by rfl) T.isinstance PyProof.Rows.boot_isinstance (pa_cons (pv 1) (pa_cons (pe_glob (v := .ref b2) rfl T.BadPath rfl) pa_nil))) (fun _ => rfl)) (pw_or1 (pt_truthK (K := K) (pe_callB (call_isinstE (K := K) (C := b3)) (by rfl) T.isinstance PyProof.Rows.boot_isinstance (pa_cons (pv 1) (pa_cons (pe_glob (v := .ref b3) rfl T.BadLine rfl) pa_nil))) (fun _ => rfl))))))
          (pss_one (ps_ret pe_bl))
          pss_nil)
        (pss_cons (ps_if (PW.pt (pw_or (pt_truthK (K := K) (pe_callB (call_isinstE (K := K) (C := b4)) (by rfl) T.isinstance PyProof.Rows.boot_isinstance (pa_cons (pv 1) (pa_cons (pe_glob (v := .ref b4) rfl T.BadFiles rfl) pa_nil))) (fun _ => rfl)) (pw_or (pt_truthK (K := K) (pe_callB (call_isinstE (K := K) (C := b5)) (by rfl) T.isinstance PyProof.Rows.boot_isinstance (pa_cons (pv 1) (pa_cons (pe_glob (v := .ref b5) rfl T.NoFit rfl) pa_nil))) (fun _ => rfl)) (pw_or1 (pt_truthK (K := K) (pe_callB (call_isinstE (K := K) (C := b6)) (by rfl) T.isinstance PyProof.Rows.boot_isinstance (pa_cons (pv 1) (pa_cons (pe_glob (v := .ref b6) rfl T.Clash rfl) pa_nil))) (fun _ => rfl))))))
          (pss_one (ps_ret pe_bl))
          pss_nil)
        (pss_cons (ps_if (PW.pt (pw_or (pt_truthK (K := K) (pe_callB (call_isinstE (K := K) (C := b7)) (by rfl) T.isinstance PyProof.Rows.boot_isinstance (pa_cons (pv 1) (pa_cons (pe_glob (v := .ref b7) rfl T.NoBranch rfl) pa_nil))) (fun _ => rfl)) (pw_or (pt_truthK (K := K) (pe_callB (call_isinstE (K := K) (C := b8)) (by rfl) T.isinstance PyProof.Rows.boot_isinstance (pa_cons (pv 1) (pa_cons (pe_glob (v := .ref b8) rfl T.BadBranch rfl) pa_nil))) (fun _ => rfl)) (pw_or1 (pt_truthK (K := K) (pe_callB (call_isinstE (K := K) (C := b9)) (by rfl) T.isinstance PyProof.Rows.boot_isinstance (pa_cons (pv 1) (pa_cons (pe_glob (v := .ref b9) rfl T.NoVersion rfl) pa_nil))) (fun _ => rfl))))))
          (pss_one (ps_ret pe_bl))
          pss_nil)
        (pss_one (ps_ret (pe_and (pe_callB (call_isinstE (K := K) (C := aT)) (by rfl) T.isinstance PyProof.Rows.boot_isinstance (pa_cons (pv 1) (pa_cons (pe_glob (v := .ref aT) rfl T.NoThing rfl) pa_nil))) (pe_one (pe_callB (call_isinstET (K := K) (T := "ValueError")) (by rfl) T.isinstance PyProof.Rows.boot_isinstance (pa_cons (pv 1) (pa_cons (pe_bltn (v := .ty "ValueError") rfl T.ValueError (by decide +kernel) rfl) pa_nil))))))))))))
      (pss_one (ps_ret pe_bl))), ?_⟩
    refine ⟨fun σ' H' cls => Same H H' ∧ cls = .ref aT ∧ σ' = [some v, none], ?_, ?_⟩
    · refine ⟨_, rfl, d, v, rfl, hd, sm, nar, fun z => ?_, fun _ H' s' => ⟨s', rfl, rfl⟩⟩
      rw [nt] at z; cases z
    · rintro σ' H' cls e ⟨s', rfl, rfl⟩ ne
      refine ⟨T.exm, ?_⟩
      have he : upd H' e (IsExc e (.ref aT)) e = some (IsExc e (.ref aT)) := upd_same
      refine ⟨_, rfl, e, aT, false, rfl, he, T.ek, T.k1, _, rfl, iteF ⟨_, rfl, e, aT, false, rfl, he, T.ek, T.k2, _, rfl, iteF ⟨_, rfl, e, aT, false, rfl, he, T.ek, T.k3, _, rfl, iteF ?_⟩⟩⟩
      refine ⟨_, rfl, e, aT, false, rfl, he, T.ek, T.k4, _, rfl, iteF ⟨_, rfl, e, aT, false, rfl, he, T.ek, T.k5, _, rfl, iteF ⟨_, rfl, e, aT, false, rfl, he, T.ek, T.k6, _, rfl, iteF ?_⟩⟩⟩
      refine ⟨_, rfl, e, aT, false, rfl, he, T.ek, T.k7, _, rfl, iteF ⟨_, rfl, e, aT, false, rfl, he, T.ek, T.k8, _, rfl, iteF ⟨_, rfl, e, aT, false, rfl, he, T.ek, T.k9, _, rfl, iteF ?_⟩⟩⟩
      exact ⟨_, rfl, e, aT, true, rfl, he, T.ek, T.kT, _, rfl, iteT ⟨_, rfl, e, aT, true, rfl, he, T.ek, T.kV, k _⟩⟩
end h_refused
end
end An02

set_option Elab.async false
set_option linter.all false
set_option maxRecDepth 100000
set_option maxHeartbeats 4000000
/-! things that are none -/
namespace An02
open PySem L2 An
theorem mulx21 : Txt.mul "x" 21 = ("xxxxxxxxxxxxxxxxxxxxx" : Str) := by decide +kernel
theorem mulx_ok : MulOk "x" 21 := ⟨by decide, fun _ _ => by decide +kernel, fun _ _ => by decide +kernel⟩
def nE : PyData → Bool
  | .tuple es => decide (es.length ≤ 60)
  | _ => true
def narrowB : PyData → Bool
  | .tuple ds => decide (ds.length ≤ 60) && ds.all nE
  | _ => true
theorem narrow_of {d : PyData} (h : narrowB d = true) : narrow d := by
  rintro ds rfl
  have h : (decide (ds.length ≤ 60) && ds.all nE) = true := h
  rw [Bool.and_eq_true] at h
  refine ⟨of_decide_eq_true h.1, fun e he es ee => ?_⟩
  have := List.all_eq_true.mp h.2 e he
  rw [ee] at this
  exact of_decide_eq_true this
theorem no_leaf {w : Str} {ds : List PyData} (h : ¬ w = "leaf") : leafB w ds = false := by unfold leafB; rw [decide_eq_false h]; rfl
theorem no_tree {w : Str} {ds : List PyData} (h : ¬ w = "tree") : treeB w ds = false := by unfold treeB; rw [decide_eq_false h]; rfl
theorem no_note {w : Str} {ds : List PyData} (h : ¬ w = "note") : noteB w ds = false := by unfold noteB; rw [decide_eq_false h]; rfl
def Bad (d : PyData) : Prop := small d = true ∧ narrowB d = true ∧ thingB d = false
instance (d : PyData) : Decidable (Bad d) := inferInstanceAs (Decidable (_ ∧ _ ∧ _))
theorem lt60 {n : Nat} (h : n ≤ 60) : decide (n ≤ 60) = true := decide_eq_true h
theorem two_small {w : Str} {ds : List PyData} (hw : w.length ≤ 8) (s : smallAll ds = true) (l : ds.length ≤ 60) : small (.tuple [.str w, .tuple ds]) = true ∧ narrowB (.tuple [.str w, .tuple ds]) = true := by
  refine ⟨?_, ?_⟩
  · show (decide (2 ≤ 1000) && (decide (w.length ≤ 1000) && ((decide (ds.length ≤ 1000) && smallAll ds) && true))) = true
    rw [s, decide_eq_true (show w.length ≤ 1000 by omega), decide_eq_true (show ds.length ≤ 1000 by omega)]; rfl
  · show (decide (2 ≤ 60) && (true && (decide (ds.length ≤ 60) && true))) = true
    rw [lt60 l]; rfl
theorem thing_is {w : Str} {ds : List PyData} : thingB (.tuple (.str w :: ds)) = (leafB w ds || (treeB w ds || noteB w ds)) := rfl
theorem bad_leaf {ds : List PyData} (s : smallAll ds = true) (l : ds.length ≤ 60) (h : ds.all lineD = false) : Bad (.tuple [.str "leaf", .tuple ds]) := by
  obtain ⟨h1, h2⟩ := two_small (w := "leaf") (by decide +kernel) s l
  refine ⟨h1, h2, ?_⟩
  rw [thing_is, no_tree (by decide +kernel), no_note (by decide +kernel)]
  show ((decide (("leaf" : Str) = "leaf") && (decide (1 = 1) && ds.all lineD)) || (false || false)) = false
  rw [h]
  cases decide (("leaf" : Str) = "leaf") <;> rfl
theorem bad_tree {ds : List PyData} (s : smallAll ds = true) (l : ds.length ≤ 60) (h : rowsD (.tuple ds) = false) : Bad (.tuple [.str "tree", .tuple ds]) := by
  obtain ⟨h1, h2⟩ := two_small (w := "tree") (by decide +kernel) s l
  refine ⟨h1, h2, ?_⟩
  rw [thing_is, no_leaf (by decide +kernel), no_note (by decide +kernel)]
  show (false || ((decide (("tree" : Str) = "tree") && (decide (1 = 1) && rowsD (.tuple ds))) || false)) = false
  rw [h]
  cases decide (("tree" : Str) = "tree") <;> rfl
theorem bad_word {w : Str} {ds : List PyData} (hw : w.length ≤ 8) (s : smallAll ds = true) (l : ds.length ≤ 60) (h1 : ¬ w = "leaf") (h2 : ¬ w = "tree") (h3 : ¬ w = "note") : Bad (.tuple [.str w, .tuple ds]) := by
  obtain ⟨k1, k2⟩ := two_small hw s l
  refine ⟨k1, k2, ?_⟩
  rw [thing_is, no_leaf h1, no_tree h2, no_note h3]; rfl
theorem bad_list {w : Str} {ds : List PyData} (hw : w.length ≤ 8) (s : smallAll ds = true) (l : ds.length ≤ 60) (h3 : ¬ w = "note") : Bad (.tuple [.str w, .list ds]) := by
  refine ⟨?_, rfl, ?_⟩
  · show (decide (2 ≤ 1000) && (decide (w.length ≤ 1000) && ((decide (ds.length ≤ 1000) && smallAll ds) && true))) = true
    rw [s, decide_eq_true (show w.length ≤ 1000 by omega), decide_eq_true (show ds.length ≤ 1000 by omega)]; rfl
  · rw [thing_is, no_note h3]
    show ((decide (w = "leaf") && (true && false)) || ((decide (w = "tree") && (true && false)) || false)) = false
    cases decide (w = "leaf") <;> cases decide (w = "tree") <;> rfl
theorem bad_in {ds : List PyData} (s : smallAll ds = true) (l : ds.length ≤ 60) : Bad (.list [.str "leaf", .tuple ds]) := by
  refine ⟨?_, rfl, rfl⟩
  show (decide (2 ≤ 1000) && (decide (("leaf" : Str).length ≤ 1000) && ((decide (ds.length ≤ 1000) && smallAll ds) && true))) = true
  rw [s, decide_eq_true (show ds.length ≤ 1000 by omega)]; decide +kernel
theorem bad_more {ds : List PyData} (s : smallAll ds = true) (l : ds.length ≤ 60) : Bad (.tuple [.str "leaf", .tuple ds, .int 1]) := by
  refine ⟨?_, ?_, ?_⟩
  · show (decide (3 ≤ 1000) && (decide (("leaf" : Str).length ≤ 1000) && ((decide (ds.length ≤ 1000) && smallAll ds) && (true && true)))) = true
    rw [s, decide_eq_true (show ds.length ≤ 1000 by omega)]; decide +kernel
  · show (decide (3 ≤ 60) && (true && (decide (ds.length ≤ 60) && (true && true)))) = true
    rw [lt60 l]; rfl
  · rw [thing_is, no_tree (by decide +kernel), no_note (by decide +kernel)]
    unfold leafB
    show ((_ && (decide (2 = 1) && _)) || (false || false)) = false
    rw [decide_eq_false (show ¬ 2 = 1 by decide), Bool.false_and, Bool.and_false]; rfl
theorem bad_first {d : PyData} {ds : List PyData} (hd : textD d = false) (sd : small d = true) (nd : nE d = true) (s : smallAll ds = true) (l : ds.length ≤ 60) : Bad (.tuple [d, .tuple ds]) := by
  refine ⟨?_, ?_, ?_⟩
  · show (decide (2 ≤ 1000) && (small d && ((decide (ds.length ≤ 1000) && smallAll ds) && true))) = true
    rw [s, sd, decide_eq_true (show ds.length ≤ 1000 by omega)]; rfl
  · show (decide (2 ≤ 60) && (nE d && (decide (ds.length ≤ 60) && true))) = true
    rw [lt60 l, nd]; rfl
  · cases d with
    | str _ => cases hd
    | _ => rfl
theorem smallAll_append : ∀ {ds es : List PyData}, smallAll ds = true → smallAll es = true → smallAll (ds ++ es) = true
  | [], _, _, h => h
  | d :: ds, es, h1, h2 => by
    have h1 : (small d && smallAll ds) = true := h1
    rw [Bool.and_eq_true] at h1
    show (small d && smallAll (ds ++ es)) = true
    rw [h1.1, smallAll_append h1.2 h2]; rfl
theorem smallAll_mem : ∀ {ds : List PyData}, (∀ d ∈ ds, small d = true) → smallAll ds = true
  | [], _ => rfl
  | d :: ds, h => by
    show (small d && smallAll ds) = true
    rw [h d List.mem_cons_self, smallAll_mem fun e he => h e (List.mem_cons_of_mem _ he)]; rfl
theorem smallAll_of {ds : List PyData} (h : smallAll ds = true) : ∀ d ∈ ds, small d = true := fun d hd => by
  obtain ⟨i, hi⟩ := List.getElem?_of_mem hd
  exact smallAll_get h hi
def rowP (r : Str × Str) : PyData := .tuple [.str r.1, .str r.2]
structure GoodRows (rs : List (Str × Str)) : Prop where
  len : rs.length ≤ 5
  lab : ∀ r ∈ rs, labelB r.1 = true
  nam : ∀ r ∈ rs, lineB r.2 = true
  rise : riseB (rs.map (·.1)) = true
theorem small_str {x : Str} (h : x.length ≤ 1000) : small (.str x) = true := decide_eq_true h
theorem small_lines {ls : List Str} (h : ∀ l ∈ ls, lineB l = true) : smallAll (ls.map .str) = true := smallAll_mem fun d hd => by
  obtain ⟨l, hl, rfl⟩ := List.mem_map.mp hd
  exact small_str (by have := (line_parts.mp (h l hl)).1; omega)
theorem small_rowP {r : Str × Str} (h1 : labelB r.1 = true) (h2 : lineB r.2 = true) : small (rowP r) = true := by
  show (decide (2 ≤ 1000) && (decide (r.1.length ≤ 1000) && (decide (r.2.length ≤ 1000) && true))) = true
  have := (label_parts.mp h1).2.1
  have := (line_parts.mp h2).1
  rw [decide_eq_true (show r.1.length ≤ 1000 by omega), decide_eq_true (show r.2.length ≤ 1000 by omega)]; rfl
theorem GoodRows.small {rs : List (Str × Str)} (g : GoodRows rs) : smallAll (rs.map rowP) = true := smallAll_mem fun d hd => by
  obtain ⟨r, hr, rfl⟩ := List.mem_map.mp hd
  exact small_rowP (g.lab r hr) (g.nam r hr)
theorem labD_rows (rs : List (Str × Str)) : (rs.map rowP).map labD = rs.map (·.1) := by
  rw [List.map_map]; rfl
theorem not_rise {M : List Str} {x y : Str} (h1 : leS x y) (hne : x ≠ y) (hp : [y, x].Sublist M) : riseB M = false := by
  refine Bool.eq_false_iff.mpr fun z => ?_
  have := (rise_iff.mp z).1.sublist hp
  have := (List.pairwise_cons.mp this).1 x List.mem_cons_self
  exact hne (leS_anti h1 this)
theorem first_two {rs : List (Str × Str)} (g : GoodRows rs) (h : 1 < rs.length) : ∃ x y rest, rs = x :: y :: rest ∧ leS x.1 y.1 ∧ x.1 ≠ y.1 := by
  match rs, h with
  | x :: y :: rest, _ =>
    obtain ⟨h1, h2⟩ := rise_iff.mp g.rise
    refine ⟨x, y, rest, rfl, (List.pairwise_cons.mp h1).1 _ List.mem_cons_self, fun z => ?_⟩
    refine (List.nodup_cons.mp h2).1 ?_
    show x.1 ∈ y.1 :: _
    rw [z]
    exact List.mem_cons_self
  | [_], h => simp at h
  | [], h => simp at h
theorem rows_false {ds : List PyData} (h : riseB (ds.map labD) = false) : rowsD (.tuple ds) = false := by
  show (ds.all rowD && riseB (ds.map labD)) = false
  rw [h, Bool.and_false]
theorem rows_false' {ds : List PyData} (h : ds.all rowD = false) : rowsD (.tuple ds) = false := by
  show (ds.all rowD && riseB (ds.map labD)) = false
  rw [h]; rfl
theorem all_put {p : PyData → Bool} {ds : List PyData} {e : PyData} {k : Nat} (h : p e = false) : (ds.take k ++ [e] ++ ds.drop k).all p = false := by
  rw [List.all_append, List.all_append]
  show ((_ && (p e && true)) && _) = false
  rw [h]
  cases (ds.take k).all p <;> rfl
/-- rows that fall -/
def Fall (fd : List PyData) : Prop := smallAll fd = true ∧ fd.length ≤ 60 ∧ rowsD (.tuple fd) = false
theorem fall_turned {rs : List (Str × Str)} (g : GoodRows rs) (h : 1 < rs.length) : Fall (rs.map rowP).reverse := by
  obtain ⟨x, y, rest, e, h1, h2⟩ := first_two g h
  refine ⟨smallAll_mem fun d hd => smallAll_of g.small d (List.mem_reverse.mp hd), by rw [List.length_reverse, List.length_map]; have := g.len; omega, rows_false (not_rise h1 h2 ?_)⟩
  rw [List.map_reverse, labD_rows, e, List.map_cons, List.map_cons, List.reverse_cons, List.reverse_cons, List.append_assoc]
  exact List.sublist_append_right _ _
theorem fall_moved {rs : List (Str × Str)} (g : GoodRows rs) (h : 1 < rs.length) {k : Nat} (hk : 2 ≤ k) (hk2 : k ≤ rs.length) : Fall (((rs.map rowP).drop 1).take (k - 1) ++ (rs.map rowP).take 1 ++ (rs.map rowP).drop k) := by
  obtain ⟨x, y, rest, e, h1, h2⟩ := first_two g h
  have sm := smallAll_of g.small
  have hl := g.len
  refine ⟨smallAll_mem fun d hd => ?_, ?_, rows_false (not_rise h1 h2 ?_)⟩
  · rcases List.mem_append.mp hd with hd | hd
    · rcases List.mem_append.mp hd with hd | hd
      · exact sm d (List.mem_of_mem_drop (List.mem_of_mem_take hd))
      · exact sm d (List.mem_of_mem_take hd)
    · exact sm d (List.mem_of_mem_drop hd)
  · simp only [List.length_append, List.length_take, List.length_drop, List.length_map]; omega
  · obtain ⟨j, rfl⟩ : ∃ j, k = j + 2 := ⟨k - 2, by omega⟩
    subst e
    show List.Sublist [y.1, x.1] (((((y :: rest).map rowP).take (j + 1)) ++ [rowP x] ++ _).map labD)
    rw [List.map_append, List.map_append, List.append_assoc]
    rw [show [y.1, x.1] = [y.1] ++ [x.1] from rfl]
    refine List.Sublist.append ?_ ?_
    · rw [List.map_cons, List.take_succ_cons, List.map_cons]
      exact List.Sublist.cons_cons _ (List.nil_sublist _)
    · show List.Sublist [x.1] ([x.1] ++ _)
      exact List.sublist_append_left _ _
theorem DwAll.take {K : PySem.W.Frag} {H : Hp} : ∀ (n : Nat) {ds : List PyData} {xs : List V}, DwAll K H ds xs → DwAll K H (ds.take n) (xs.take n)
  | 0, _, _, _ => by rw [List.take_zero, List.take_zero]; exact rfl
  | n + 1, [], _, h => by rw [show _ = [] from h]; exact rfl
  | n + 1, d :: ds, _, ⟨x, r, h1, h2, h3⟩ => by rw [h1]; exact ⟨x, r.take n, rfl, h2, DwAll.take n h3⟩
theorem DwAll.reverse {K : PySem.W.Frag} {H : Hp} : ∀ {ds : List PyData} {xs : List V}, DwAll K H ds xs → DwAll K H ds.reverse xs.reverse
  | [], _, h => by rw [show _ = [] from h]; exact rfl
  | d :: ds, _, ⟨x, r, h1, h2, h3⟩ => by
    rw [h1, List.reverse_cons, List.reverse_cons]
    exact L2.DwAll.append (DwAll.reverse h3) ⟨x, [], rfl, h2, rfl⟩
/-- what is known of the things so far -/
def BadL (ds : List PyData) (n : Nat) : Prop := ds.length = n ∧ ∀ d ∈ ds, Bad d
theorem BadL.cat {ds es : List PyData} {n m : Nat} (h1 : BadL ds n) (h2 : BadL es m) : BadL (ds ++ es) (n + m) := ⟨by rw [List.length_append, h1.1, h2.1], fun d hd => (List.mem_append.mp hd).elim (h1.2 d) (h2.2 d)⟩
theorem th_cat {K : PySem.W.Frag} {H cur H1 : Hp} {a1 a2 : Addr} {ds es : List PyData} {vs vs1 : List V} (t : Same H cur) (D : DwAll K cur ds vs) (s1 : Same cur H1) (d1 : DwAll K H1 es vs1) (n1 : H1 a1 = none) (n2 : upd H1 a1 (.lst vs1) a2 = none) :
    Same H (upd (upd H1 a1 (.lst vs1)) a2 (.lst (vs ++ vs1))) ∧ DwAll K (upd (upd H1 a1 (.lst vs1)) a2 (.lst (vs ++ vs1))) (ds ++ es) (vs ++ vs1) := by
  have u := (same_upd (o := .lst vs1) n1).trans (same_upd (o := .lst (vs ++ vs1)) n2)
  exact ⟨(t.trans s1).trans u, L2.DwAll.append (DwAll.same (s1.trans u) _ _ D) (DwAll.same u _ _ d1)⟩
theorem cutV_mid {xs : List V} {f k : Nat} (hf : f ≤ xs.length) (hk : k ≤ xs.length) : cutV xs (some (f : Int)) (some (k : Int)) = (xs.drop f).take (k - f) := by
  unfold cutV
  rw [HT.sIx_nat, HT.sIx_nat, Nat.min_eq_left hf, Nat.min_eq_left hk]
theorem Dw.lines {K : PySem.W.Frag} {H : Hp} {a : Addr} {ls : List Str} (h : SqT K H a (ls.map V.str)) : Dw K H (.tuple (ls.map .str)) (.ref a) := ⟨a, _, rfl, h, (DtAll.strs ls).dw⟩
end An02

set_option Elab.async false
set_option linter.all false
set_option maxRecDepth 100000
set_option maxHeartbeats 4000000
namespace An02
open PySem L2 An
seal L2.PS L2.PSs L2.PE L2.PT L2.PW L2.PA L2.PG L2.PGs L2.PI L2.PFi L2.PC
def spWrong (K : PySem.W.Frag) : Sp := fun vs H Q _ => ∃ (c : Int) (al ar : Addr) (ls : List Str) (rs : List (Str × Str)), vs = [.int c, .ref al, .ref ar] ∧ SqT K H al (ls.map V.str) ∧ ls.length ≤ 4 ∧ (∀ l ∈ ls, lineB l = true) ∧ Dw K H (.tuple (rs.map rowP)) (.ref ar) ∧ GoodRows rs ∧
  ∀ d v H', Same H H' → Dw K H' d v → Bad d → Q v H'
def envW (dl dr df dt : PyData) : DEnv
  | 1 => dl
  | 2 => dr
  | 8 => df
  | 9 => dt
  | _ => .none
def badD : List PyData := [.str "xxxxxxxxxxxxxxxxxxxxx", .int 5, .none, .bool true, .list [.str "a"], .tuple [.str "a"], .str "a\nb", .str "\t"]
def oddD : List PyData := [.tuple [.str "Ab", .str "T1.0"], .tuple [.str "", .str "T1.0"], .tuple [.str "abcdefghi", .str "T1.0"], .tuple [.str "zz", .int 5], .tuple [.str "zz", .none], .list [.str "zz", .str "T1.0"], .str "zz", .tuple [.str "zz"], .tuple [.str "zz", .str "T1.0", .str "T1.0"], .tuple [.int 5, .str "T1.0"]]
theorem badD_ok : ∀ e ∈ badD, lineD e = false ∧ small e = true := by
  intro e he
  simp only [badD, List.mem_cons, List.not_mem_nil, or_false] at he
  rcases he with rfl | rfl | rfl | rfl | rfl | rfl | rfl | rfl <;> exact ⟨by decide +kernel, by decide +kernel⟩
theorem oddD_ok : ∀ e ∈ oddD, rowD e = false ∧ small e = true := by
  intro e he
  simp only [oddD, List.mem_cons, List.not_mem_nil, or_false] at he
  rcases he with rfl | rfl | rfl | rfl | rfl | rfl | rfl | rfl | rfl | rfl <;> exact ⟨by decide +kernel, by decide +kernel⟩
def putD (w : Str) (ds : List PyData) (k : Nat) (e : PyData) : PyData := .tuple [.str w, .tuple (ds.take k ++ [e] ++ ds.drop k)]
theorem small_put {ds : List PyData} {k : Nat} {e : PyData} (h : smallAll ds = true) (he : small e = true) : smallAll (ds.take k ++ [e] ++ ds.drop k) = true := by
  have hm := smallAll_of h
  refine smallAll_append (smallAll_append (smallAll_mem fun d hd => hm d (List.mem_of_mem_take hd)) ?_) (smallAll_mem fun d hd => hm d (List.mem_of_mem_drop hd))
  show (small e && true) = true
  rw [he]; rfl
theorem len_put {α : Type} {ds : List α} {k : Nat} {e : α} (hk : k ≤ ds.length) : (ds.take k ++ [e] ++ ds.drop k).length = ds.length + 1 := by
  simp only [List.length_append, List.length_take, List.length_drop, List.length_cons, List.length_nil]; omega
theorem badl_leaf {ds : List PyData} {k : Nat} (h : smallAll ds = true) (hl : ds.length ≤ 50) (hk : k ≤ ds.length) : BadL (badD.map (putD "leaf" ds k)) 8 := ⟨rfl, fun d hd => by
  obtain ⟨e, he, rfl⟩ := List.mem_map.mp hd
  obtain ⟨h1, h2⟩ := badD_ok e he
  exact bad_leaf (small_put h h2) (by rw [len_put hk]; omega) (all_put h1)⟩
theorem badl_tree {ds : List PyData} {k : Nat} (h : smallAll ds = true) (hl : ds.length ≤ 50) (hk : k ≤ ds.length) : BadL (oddD.map (putD "tree" ds k)) 10 := ⟨rfl, fun d hd => by
  obtain ⟨e, he, rfl⟩ := List.mem_map.mp hd
  obtain ⟨h1, h2⟩ := oddD_ok e he
  exact bad_tree (small_put h h2) (by rw [len_put hk]; omega) (rows_false' (all_put h1))⟩
theorem DwAll.put {K : PySem.W.Frag} {H : Hp} {ds : List PyData} {xs : List V} {k : Nat} {e : PyData} {v : V} (h : DwAll K H ds xs) (he : Dw K H e v) : DwAll K H (ds.take k ++ [e] ++ ds.drop k) (xs.take k ++ [v] ++ xs.drop k) :=
  L2.DwAll.append (L2.DwAll.append (DwAll.take k h) ⟨v, [], rfl, he, rfl⟩) (L2.DwAll.drop k h)
theorem th_step {K : PySem.W.Frag} {H cur H1 : Hp} {a1 a2 : Addr} {ds es : List PyData} {vs vs1 : List V} {n m : Nat} (t : Same H cur) (D : DwAll K cur ds vs) (B : BadL ds n) (s1 : Same cur H1) (d1 : DwAll K H1 es vs1) (Be : BadL es m) (n1 : H1 a1 = none) (n2 : upd H1 a1 (.lst vs1) a2 = none) :
    ∃ ds', Same H (upd (upd H1 a1 (.lst vs1)) a2 (.lst (vs ++ vs1))) ∧ DwAll K (upd (upd H1 a1 (.lst vs1)) a2 (.lst (vs ++ vs1))) ds' (vs ++ vs1) ∧ BadL ds' (n + m) := by
  obtain ⟨h1, h2⟩ := th_cat t D s1 d1 n1 n2
  exact ⟨ds ++ es, h1, h2, B.cat Be⟩
theorem atI_of {xs : List V} {n : Nat} {i : Int} {v : V} (e : i = (n : Int)) (h : xs[n]? = some v) : atI xs i = some v := by
  subst e
  exact atI_nat h
theorem th_step2 {K : PySem.W.Frag} {H cur H1 : Hp} {a1 a2 : Addr} {ds es : List PyData} {vs vs1 : List V} {n m : Nat} (t : Same H cur) (D : DwAll K cur ds vs) (B : BadL ds n) (s1 : Same cur H1) (d1 : DwAll K H1 es vs1) (Be : BadL es m) (n1 : H1 a1 = none) (n2 : upd H1 a1 (.lst vs1) a2 = none) :
    ∃ ds', Same H (upd (upd H1 a1 (.lst vs1)) a2 (.lst (vs ++ vs1))) ∧ DwAll K H1 ds' (vs ++ vs1) ∧ BadL ds' (n + m) := by
  obtain ⟨h1, h2⟩ := th_cat t D s1 d1 n1 n2
  exact ⟨ds ++ es, h1, L2.DwAll.append (DwAll.same s1 _ _ D) d1, B.cat Be⟩
mutual
/-- tuples and single values alone -/
def tupOnly : PyData → Bool
  | .list _ => false
  | .dict _ => false
  | .tuple ds => tupOnlyAll ds
  | _ => true
def tupOnlyAll : List PyData → Bool
  | [] => true
  | d :: ds => tupOnly d && tupOnlyAll ds
end
mutual
theorem Dw.tsame {K : PySem.W.Frag} {H H' : Hp} (e : TSame H H') : ∀ (d : PyData) (v : V), tupOnly d = true → Dw K H d v → Dw K H' d v
  | .none, _, _, h => h
  | .bool _, _, _, h => h
  | .int _, _, _, h => h
  | .str _, _, _, h => h
  | .list _, _, t, _ => by cases t
  | .tuple ds, _, t, ⟨a, xs, h1, h2, h3⟩ => ⟨a, xs, h1, e.tup h2, DwAll.tsame e ds xs t h3⟩
  | .dict _, _, t, _ => by cases t
theorem DwAll.tsame {K : PySem.W.Frag} {H H' : Hp} (e : TSame H H') : ∀ (ds : List PyData) (xs : List V), tupOnlyAll ds = true → DwAll K H ds xs → DwAll K H' ds xs
  | [], _, _, h => h
  | d :: ds, _, t, ⟨x, r, h1, h2, h3⟩ => by
    have t : (tupOnly d && tupOnlyAll ds) = true := t
    rw [Bool.and_eq_true] at t
    exact ⟨x, r, h1, Dw.tsame e d x t.1 h2, DwAll.tsame e ds r t.2 h3⟩
end
theorem tupOnly_append : ∀ {ds es : List PyData}, tupOnlyAll ds = true → tupOnlyAll es = true → tupOnlyAll (ds ++ es) = true
  | [], _, _, h => h
  | d :: ds, es, h1, h2 => by
    have h1 : (tupOnly d && tupOnlyAll ds) = true := h1
    rw [Bool.and_eq_true] at h1
    show (tupOnly d && tupOnlyAll (ds ++ es)) = true
    rw [h1.1, tupOnly_append h1.2 h2]; rfl
theorem tupOnly_rows : ∀ rs : List (Str × Str), tupOnlyAll (rs.map rowP) = true
  | [] => rfl
  | r :: rs => by
    show (true && tupOnlyAll (rs.map rowP)) = true
    rw [tupOnly_rows rs]; rfl
theorem bad_within {rs : List (Str × Str)} (g : GoodRows rs) : Bad (.tuple [.str "leaf", .tuple (rs.map rowP ++ [.tuple []])]) := by
  have gl := g.len
  refine bad_leaf (smallAll_append g.small (by decide +kernel)) ?_ ?_
  · rw [List.length_append, List.length_map]
    show rs.length + 1 ≤ 60
    omega
  · rw [List.all_append]
    show (_ && (false && true)) = false
    rw [Bool.false_and, Bool.and_false]
theorem BadL.nil : BadL [] 0 := ⟨rfl, fun _ h => nomatch h⟩
theorem BadL.cons {d : PyData} {ds : List PyData} {n : Nat} (h : Bad d) (h2 : BadL ds n) : BadL (d :: ds) (n + 1) := ⟨by rw [List.length_cons, h2.1], fun e he => (List.mem_cons.mp he).elim (fun z => z ▸ h) (h2.2 e)⟩
theorem bad_twice {rs : List (Str × Str)} (g : GoodRows rs) : Bad (.tuple [.str "tree", .tuple ((List.replicate (2 : Int).toNat [PyData.tuple [.str "a", .str "x"]]).flatten ++ rs.map rowP)]) := by
  have gl := g.len
  refine bad_tree (smallAll_append (by decide +kernel) g.small) ?_ (rows_false ?_)
  · rw [List.length_append, List.length_map]
    show 2 + rs.length ≤ 60
    omega
  · show (((decide (("a" : Str).cps.toList < ("a" : Str).cps.toList) && _) && _)) = false
    rw [decide_eq_false (List.lt_irrefl _)]; rfl
section
variable {P : Program} {w : World} {K : PySem.W.Frag} {mg : Str → Option Value} {base : Heap} {t1 t2 t3 t4 : Tok} {aT aA b1 b2 b3 b4 b5 b6 b7 b8 b9 : Addr}
namespace h_wrong
abbrev st : Stmt := top 39
theorem sc : FnScope ["_law_cell", "_law_lines", "_law_rows", "_law_at", "_law_far", "_law_bad", "_law_things", "_law_odd", "_law_falling", "_law_three"] ["_law_cell", "_law_lines", "_law_rows"] (defScope st) := ⟨rfl, rfl, rfl, by decide +kernel, rfl, by decide +kernel, by decide +kernel⟩
theorem ok {f : Addr} {fd : FuncData} (F : Fun K "_law_wrong_by" "_law_wrong_by" st f fd) (T : Txt K mg t1 t2 t3 t4 aT aA b1 b2 b3 b4 b5 b6 b7 b8 b9) (C__law_put : Cal P w K mg base 1 "_law_put" ["_law_row", "_law_at", "_law_part"] (spPut K)) : FnOk P w K mg base CX0 2 f fd ["_law_cell", "_law_lines", "_law_rows"] (spWrong K) := by
  refine F.ok sc (fun vs H Q E h => ?_) (fun cdv A outer s H vs Q E hr h => ?_)
  · obtain ⟨c, al, ar, ls, rs, rfl, _⟩ := h
    rfl
  · obtain ⟨c, al, ar, ls, rs, rfl, hl, ll, lok, hrw, g, q⟩ := h
    refine ⟨_, (pss_cons (ps_set (i := 3) sc.nd rfl (Or.inr rfl) (pe_op op_mod (pe_op op_fdiv (pv 0) pe_int) (pe_op op_add (pe_callB call_len_seq (by rfl) T.len PySem.boot_len (pa_cons (pv 1) pa_nil)) pe_int)))
      (pss_cons (ps_set (i := 4) sc.nd rfl (Or.inr rfl) (pe_op op_mod (pe_op op_fdiv (pv 0) pe_int) (pe_op op_add (pe_callB call_len_seq (by rfl) T.len PySem.boot_len (pa_cons (pv 2) pa_nil)) pe_int)))
      (pss_cons (ps_set (i := 5) sc.nd rfl (Or.inl rfl) (pe_lst (pd_cons (pd_mulS mulx_ok mulx21) (pd_cons pd_int (pd_cons pd_non (pd_cons pd_bl (pd_cons (pd_lst (pd_cons pd_str pd_nil)) (pd_cons (pd_tup (pd_cons pd_str pd_nil)) (pd_cons pd_str (pd_cons pd_str pd_nil))))))))))
      (pss_cons (ps_setc (sc := defScope st) (N := ["_law_cell", "_law_lines", "_law_rows", "_law_at", "_law_far", "_law_bad", "_law_things", "_law_odd", "_law_falling", "_law_three"]) (N' := ["_law_part", "_law_at", "_law_lines"]) (src := [none, some 3, some 1]) ⟨by decide +kernel, rfl, rfl, by decide +kernel, by decide +kernel, by decide +kernel, by decide +kernel⟩ rfl rfl rfl (pi_list (pv 5)) (fun _ _ _ _ => (pg_name (i := 0) (show (["_law_part", "_law_at", "_law_lines"] : List Str).Nodup by decide +kernel) rfl (Or.inl rfl))) (fun _ _ _ _ => pf_nil) (fun _ _ _ _ => (pe_tup (pa_cons pe_str (pa_cons (pe_callC C__law_put (hr.mono (by decide)) (pa_cons (pe_callTy (call_listK (K := K)) (by rfl) T.list PyProof.Rows.boot_list (pa_cons (pv 2) pa_nil)) (pa_cons (pv 1) (pa_cons (pv 0) pa_nil)))) pa_nil)))) sc.nd rfl (Or.inl rfl) (k := 6))
      (pss_cons (ps_set (i := 7) sc.nd rfl (Or.inl rfl) (pe_lst (pd_cons (pd_tup (pd_cons pd_str (pd_cons pd_str pd_nil))) (pd_cons (pd_tup (pd_cons pd_str (pd_cons pd_str pd_nil))) (pd_cons (pd_tup (pd_cons pd_str (pd_cons pd_str pd_nil))) (pd_cons (pd_tup (pd_cons pd_str (pd_cons pd_int pd_nil))) (pd_cons (pd_tup (pd_cons pd_str (pd_cons pd_non pd_nil))) (pd_cons (pd_lst (pd_cons pd_str (pd_cons pd_str pd_nil))) (pd_cons pd_str (pd_cons (pd_tup (pd_cons pd_str pd_nil)) pd_nil))))))))))
      (pss_cons (ps_set (i := 7) sc.nd rfl (Or.inl rfl) (pe_op op_cat (pv 7) (pe_lst (pd_cons (pd_tup (pd_cons pd_str (pd_cons pd_str (pd_cons pd_str pd_nil)))) (pd_cons (pd_tup (pd_cons pd_int (pd_cons pd_str pd_nil))) pd_nil)))))
      (pss_cons (ps_set (i := 6) sc.nd rfl (Or.inl rfl) (pe_op op_cat (pv 6) (pe_comp (sc := defScope st) (N := ["_law_cell", "_law_lines", "_law_rows", "_law_at", "_law_far", "_law_bad", "_law_things", "_law_odd", "_law_falling", "_law_three"]) (N' := ["_law_part", "_law_far", "_law_rows"]) (src := [none, some 4, some 2]) ⟨by decide +kernel, rfl, rfl, by decide +kernel, by decide +kernel, by decide +kernel, by decide +kernel⟩ rfl rfl rfl (pi_list (pv 7)) (fun _ _ _ _ => (pg_name (i := 0) (show (["_law_part", "_law_far", "_law_rows"] : List Str).Nodup by decide +kernel) rfl (Or.inl rfl))) (fun _ _ _ _ => pf_nil) (fun _ _ _ _ => (pe_tup (pa_cons pe_str (pa_cons (pe_callC C__law_put (hr.mono (by decide)) (pa_cons (pe_callTy (call_listK (K := K)) (by rfl) T.list PyProof.Rows.boot_list (pa_cons (pv 2) pa_nil)) (pa_cons (pv 1) (pa_cons (pv 0) pa_nil)))) pa_nil)))))))
      (pss_cons (ps_set (i := 6) sc.nd rfl (Or.inl rfl) (pe_op op_cat (pv 6) (pe_lst (pd_cons (pd_tup (pd_cons pd_str (pd_cons (pd_listOf rfl rfl T.list (pd_varT 1 (pv 1))) pd_nil))) (pd_cons (pd_tup (pd_cons pd_str (pd_cons (pd_listOf rfl rfl T.list (pd_varT 2 (pv 2))) pd_nil))) (pd_cons (pd_tup (pd_cons pd_str (pd_cons (pd_catT (pd_repT (pd_tup (pd_cons (pd_tup (pd_cons pd_str (pd_cons pd_str pd_nil))) pd_nil)) (fun _ => ⟨by simp, by simp⟩) (by decide) (by decide)) (pd_varT 2 (pv 2)) (fun env h => by have h2 := h (2, true) (by simp) rfl; simp at h2 ⊢; omega)) pd_nil))) (pd_cons (pd_tup (pd_cons pd_str pd_nil)) (pd_cons (pd_tup pd_nil) pd_nil))))))))
      (pss_cons (ps_set (i := 6) sc.nd rfl (Or.inl rfl) (pe_op op_cat (pv 6) (pe_lst (pd_cons pd_non (pd_cons pd_str (pd_cons (pd_lst (pd_cons pd_str (pd_cons (pd_varT 1 (pv 1)) pd_nil))) (pd_cons (pd_tup (pd_cons pd_str (pd_cons (pd_varT 1 (pv 1)) (pd_cons pd_int pd_nil)))) (pd_cons (pd_tup (pd_cons pd_str (pd_cons pd_str (pd_cons (pd_tup pd_nil) (pd_cons (pd_mulS mulx_ok mulx21) pd_nil))))) pd_nil))))))))
      (pss_cons (ps_set (i := 6) sc.nd rfl (Or.inl rfl) (pe_op op_cat (pv 6) (pe_lst (pd_cons (pd_tup (pd_cons pd_str (pd_cons pd_int (pd_cons (pd_tup pd_nil) (pd_cons pd_str pd_nil))))) (pd_cons (pd_tup (pd_cons pd_str (pd_cons pd_str (pd_cons (pd_tup (pd_cons pd_str (pd_cons pd_str pd_nil))) (pd_cons pd_str pd_nil))))) pd_nil)))))
      (pss_cons (ps_set (i := 8) sc.nd rfl (Or.inl rfl) (pd_tup (pd_cons (pd_tup (pd_cons pd_str (pd_cons pd_str pd_nil))) (pd_cons (pd_tup (pd_cons pd_str (pd_cons pd_str pd_nil))) pd_nil))))
      (pss_cut (ps_if (pt_cmpR op_gt (pe_callB call_len_seq (by rfl) T.len PySem.boot_len (pa_cons (pv 2) pa_nil)) pe_int (nomark _))
        (pss_cons (ps_set (i := 8) sc.nd rfl (Or.inl rfl) (pe_op (op_catT2 : OpR _ _ (rCatT2 K)) (pe_op (op_catT2 : OpR _ _ (rCatT2 K)) (pe_slice (sl_tup2 : SlR _ (rSlT2 K)) (pv 2) (po_some pe_int) (po_some (pv 4))) (pe_slice (sl_tup2 : SlR _ (rSlT2 K)) (pv 2) po_none (po_some pe_int))) (pe_slice (sl_tup2 : SlR _ (rSlT2 K)) (pv 2) (po_some (pv 4)) po_none)))
        (pss_one (ps_if (pt_cmpR op_lt (pv 4) pe_int (nomark _))
          (pss_one (ps_set (i := 8) sc.nd rfl (Or.inl rfl) (pe_tupRev rfl rfl T.tuple rfl T.reversed (pa_cons (pv 2) pa_nil))))
          pss_nil)))
        pss_nil)
      (pss_cons (ps_set (i := 9) sc.nd rfl (Or.inl rfl) (pd_tup (pd_cons pd_str (pd_cons pd_str (pd_cons pd_str pd_nil)))))
      (pss_cons (ps_set (i := 6) sc.nd rfl (Or.inl rfl) (pe_op op_cat (pv 6) (pe_lst (pd_cons (pd_tup (pd_cons pd_str (pd_cons (pd_varT 8 (pv 8)) pd_nil))) (pd_cons (pd_tup (pd_cons pd_str (pd_cons (pd_tup (pd_cons (pd_tup (pd_cons pd_str (pd_cons pd_str pd_nil))) (pd_cons (pd_tup (pd_cons pd_str (pd_cons pd_str pd_nil))) pd_nil))) pd_nil))) (pd_cons (pd_tup (pd_cons pd_str (pd_cons pd_str (pd_cons (pd_varT 9 (pv 9)) (pd_cons pd_str pd_nil))))) pd_nil))))))
      (pss_cons (ps_set (i := 6) sc.nd rfl (Or.inl rfl) (pe_op op_cat (pv 6) (pe_lst (pd_cons (pd_tup (pd_cons pd_str (pd_cons pd_str (pd_cons (pd_lst (pd_cons pd_str pd_nil)) (pd_cons pd_str pd_nil))))) (pd_cons (pd_tup (pd_cons pd_str (pd_cons pd_str (pd_cons (pd_tup (pd_cons pd_str (pd_cons pd_int pd_nil))) (pd_cons pd_str pd_nil))))) (pd_cons (pd_tup (pd_cons pd_str (pd_cons pd_str (pd_cons (pd_tup pd_nil) pd_nil)))) pd_nil))))))
      (pss_cons (ps_set (i := 6) sc.nd rfl (Or.inl rfl) (pe_op op_cat (pv 6) (pe_lst (pd_cons (pd_tup (pd_cons pd_str (pd_cons pd_str (pd_cons (pd_tup pd_nil) (pd_cons pd_str (pd_cons pd_str pd_nil)))))) (pd_cons (pd_tup (pd_cons pd_str (pd_cons (pd_varT 2 (pv 2)) pd_nil))) (pd_cons (pd_tup (pd_cons pd_str (pd_cons (pd_varT 1 (pv 1)) pd_nil))) (pd_cons (pd_tup (pd_cons pd_str (pd_cons (pd_varT 2 (pv 2)) pd_nil))) pd_nil)))))))
      (pss_cons (ps_expr (pe_bm PySem.F.plainAttrs_list PySem.F.slot_list_append PySem.F.type_list_append mt_append (pv 6) (pa_cons (pd_tup (pd_cons pd_str (pd_cons (pd_catT (pd_varT 2 (pv 2)) (pd_tup (pd_cons (pd_tup pd_nil) pd_nil)) (fun env h => by have h2 := h (2, true) (by simp) rfl; simp at h2 ⊢; omega)) pd_nil))) pa_nil)))
      (pss_cons (ps_set (i := 6) sc.nd rfl (Or.inl rfl) (pe_op op_cat (pv 6) (pe_lst (pd_cons (pd_tup (pd_cons pd_str (pd_cons pd_str (pd_cons (pd_tup pd_nil) (pd_cons pd_str pd_nil))))) (pd_cons (pd_tup (pd_cons pd_str (pd_cons pd_str (pd_cons (pd_tup pd_nil) (pd_cons pd_str pd_nil))))) (pd_cons (pd_tup (pd_cons pd_str (pd_cons pd_str (pd_cons (pd_tup pd_nil) (pd_cons pd_non pd_nil))))) pd_nil))))))
      (pss_cons (ps_set (i := 6) sc.nd rfl (Or.inl rfl) (pe_op op_cat (pv 6) (pe_lst (pd_cons (pd_tup (pd_cons (pd_lst (pd_cons pd_str pd_nil)) (pd_cons (pd_varT 1 (pv 1)) pd_nil))) (pd_cons (pd_tup (pd_cons pd_dict0 (pd_cons (pd_tup pd_nil) pd_nil))) (pd_cons (pd_tup (pd_cons pd_int (pd_cons (pd_varT 2 (pv 2)) pd_nil))) pd_nil))))))
      (pss_one (ps_ret (pe_ix (ix_list : IxR _ (rIxL K)) (pv 6) (pe_op op_mod (pv 0) pe_int) (fun _ _ => rfl))))))))))))))))))))))), ?_⟩
    obtain ⟨ar', xr, er, hrt, hrd⟩ := id hrw
    have er : ar = ar' := by injection er
    subst er
    have rl := hrd.length
    rw [List.length_map] at rl
    have gl := g.len
    have dl : Dw K H (.tuple (ls.map .str)) (.ref al) := Dw.lines hl
    have sml : smallAll (ls.map PyData.str) = true := small_lines lok
    have hld : DwAll K H (ls.map PyData.str) (ls.map V.str) := (DtAll.strs ls).dw
    refine ⟨_, rfl, _, _, rfl, rfl, ⟨by decide, by decide⟩, _, rfl, al, _, rfl, .inr hl, _, _, rfl, rfl, _, _, rfl, rfl, (by show (0 : Int) < ((ls.map V.str).length : Int) + 1; omega), ?_⟩
    obtain ⟨k, hk, kl⟩ : ∃ k : Nat, c / 47 % (((ls.map V.str).length : Int) + 1) = k ∧ k ≤ ls.length := by
      have z1 : 0 ≤ c / 47 % (((ls.map V.str).length : Int) + 1) := Int.emod_nonneg _ (by omega)
      have z2 : c / 47 % (((ls.map V.str).length : Int) + 1) < ((ls.map V.str).length : Int) + 1 := Int.emod_lt_of_pos _ (by omega)
      rw [List.length_map] at z1 z2 ⊢
      exact ⟨_, (Int.toNat_of_nonneg z1).symm, by omega⟩
    show gName 3 (V.int (c / 47 % (((ls.map V.str).length : Int) + 1))) _ H _
    rw [hk]
    refine ⟨_, rfl, _, _, rfl, rfl, ⟨by decide, by decide⟩, _, rfl, ar, _, rfl, .inr hrt, _, _, rfl, rfl, _, _, rfl, rfl, (by show (0 : Int) < (xr.length : Int) + 1; omega), ?_⟩
    obtain ⟨m, hm, ml⟩ : ∃ m : Nat, c / 47 % ((xr.length : Int) + 1) = m ∧ m ≤ rs.length := by
      have z1 : 0 ≤ c / 47 % ((xr.length : Int) + 1) := Int.emod_nonneg _ (by omega)
      have z2 : c / 47 % ((xr.length : Int) + 1) < (xr.length : Int) + 1 := Int.emod_lt_of_pos _ (by omega)
      exact ⟨_, (Int.toNat_of_nonneg z1).symm, by omega⟩
    show gName 4 (V.int (c / 47 % ((xr.length : Int) + 1))) _ H _
    rw [hm]
    have mkE : ∀ {df dt : PyData} {σ : St} {cur : Hp}, Same H cur → σ[1]? = some (some (.ref al)) → σ[2]? = some (some (.ref ar)) → EnvD K [(1, true), (2, true)] (envW (.tuple (ls.map .str)) (.tuple (rs.map rowP)) df dt) σ cur := fun s e1 e2 =>
      EnvD.consT e1 (Dw.same s _ _ dl) rfl (by rw [List.length_map]; omega) (EnvD.consT e2 (Dw.same s _ _ hrw) rfl (by rw [List.length_map]; omega) EnvD.nil)
    -- bad
    refine ⟨envW .none .none .none .none, EnvD.sub EnvD.nil, fun vB H1 s1 dB => ⟨le_line (by rw [dB.length]; decide), fun lB nB => ?_⟩⟩
    have dB : DwAll K H1 badD vB := dB
    have bl := dB.length
    have t2 := s1.trans (same_upd (o := .lst vB) nB)
    have dB2 := DwAll.same (same_upd (o := .lst vB) nB) _ _ dB
    refine ⟨_, rfl, lB, rfl, ⟨_, SqL.of upd_same⟩, comp_list0 (K := K) (a := lB) (xs := vB) (fun i ys σ' H2 => ∃ o, σ' = [o, some (.int k), some (.ref al)] ∧ Same (upd H1 lB (.lst vB)) H2 ∧ DwAll K H2 ((badD.take i).map (putD "leaf" (ls.map .str) k)) ys) ⟨none, rfl, Same.refl _, rfl⟩ (le_line (by rw [bl]; decide)) ?_ ?_ ?_⟩
    · rintro i ys σ' H2 hi ⟨o, rfl, e2, hys⟩
      refine ⟨e2.seq (SqL.of upd_same), ?_⟩
      rw [hys.length, List.length_map, List.length_take]; omega
    · rintro i x ys σ' H2 hi ⟨o, rfl, e2, hys⟩
      obtain ⟨e, he, hv⟩ := dB2.get hi
      have t3 := t2.trans e2
      refine ⟨_, rfl, al, _, rfl, .inr (t3.tupS hl), fun l3 n3 => ⟨_, rfl, _, rfl, l3, _, k, x, rfl, SqL.of upd_same, by rw [List.length_map]; exact kl, by rw [List.length_map]; omega, fun p H4 s4 hp => ⟨lineN 2, fun t nt => ?_⟩⟩⟩
      have u3 := same_upd (o := .lst (ls.map V.str)) n3
      have s5 := (u3.trans s4).trans (same_upd (o := .tup [V.str "leaf", V.ref p]) nt)
      refine ⟨_, rfl, e2.trans s5, ?_⟩
      rw [List.take_add_one, he, List.map_append]
      refine L2.DwAll.append (DwAll.same s5 _ _ hys) ⟨_, [], rfl, ⟨t, _, rfl, SqT.of upd_same, _, _, rfl, rfl, _, _, rfl, ⟨p, _, rfl, (same_upd nt).tupS hp, ?_⟩, rfl⟩, rfl⟩
      exact DwAll.put (DwAll.same (t3.trans s5) _ _ hld) (Dw.same (e2.trans s5) _ _ hv)
    rintro ys σ' H3 ⟨o, rfl, e3, hys⟩ lt nt
    rw [bl, List.take_length] at hys
    have t4 := t2.trans (e3.trans (same_upd (o := .lst ys) nt))
    have B4 := badl_leaf (k := k) sml (by rw [List.length_map]; omega) (by rw [List.length_map]; exact kl)
    have D4 := DwAll.same (same_upd (o := .lst ys) nt) _ _ hys
    have h4 : upd H3 lt (.lst ys) lt = some (.lst ys) := upd_same
    generalize badD.map (putD "leaf" (ls.map PyData.str) k) = ds4 at B4 D4
    -- odd
    refine ⟨envW .none .none .none .none, EnvD.sub EnvD.nil, fun vO H5 s5 dO => ⟨le_line (by rw [dO.length]; decide), fun lO nO => ?_⟩⟩
    have uO := same_upd (o := .lst vO) nO
    refine ⟨_, rfl, envW .none .none .none .none, EnvD.sub EnvD.nil, fun vP H6 s6 dP => ⟨le_line (by rw [dP.length]; decide), fun lP nP => ⟨lO, lP, _, _, rfl, rfl, (same_upd nP) _ _ (s6 _ _ upd_same), upd_same, le_line (by rw [dO.length, dP.length]; decide), fun lQ nQ => ?_⟩⟩⟩
    obtain ⟨t7, D7⟩ := th_cat (t4.trans (s5.trans uO)) (DwAll.same uO _ _ dO) s6 dP nP nQ
    have D7 : DwAll K (upd (upd H6 lP (.lst vP)) lQ (.lst (vO ++ vP))) oddD (vO ++ vP) := D7
    have c7 := (s5.trans uO).trans (s6.trans ((same_upd (o := .lst vP) nP).trans (same_upd (o := .lst (vO ++ vP)) nQ)))
    have h7 := c7 _ _ h4
    have ol := D7.length
    refine ⟨_, rfl, _, rfl, lQ, rfl, ⟨_, SqL.of upd_same⟩, comp_list0 (K := K) (a := lQ) (xs := vO ++ vP) (fun i ys σ' H2 => ∃ o, σ' = [o, some (.int m), some (.ref ar)] ∧ Same (upd (upd H6 lP (.lst vP)) lQ (.lst (vO ++ vP))) H2 ∧ DwAll K H2 ((oddD.take i).map (putD "tree" (rs.map rowP) m)) ys) ⟨none, rfl, Same.refl _, rfl⟩ (le_line (by rw [ol]; decide)) ?_ ?_ ?_⟩
    · rintro i ys σ' H2 hi ⟨o, rfl, e2, hys⟩
      refine ⟨e2.seq (SqL.of upd_same), ?_⟩
      rw [hys.length, List.length_map, List.length_take]; omega
    · rintro i x ys σ' H2 hi ⟨o, rfl, e2, hys⟩
      obtain ⟨e, he, hv⟩ := D7.get hi
      have t3 := t7.trans e2
      refine ⟨_, rfl, ar, _, rfl, .inr (t3.tupS hrt), fun l3 n3 => ⟨_, rfl, _, rfl, l3, _, m, x, rfl, SqL.of upd_same, by omega, by omega, fun p H4 s4 hp => ⟨lineN 2, fun t nt => ?_⟩⟩⟩
      have u3 := same_upd (o := .lst xr) n3
      have s5 := (u3.trans s4).trans (same_upd (o := .tup [V.str "tree", V.ref p]) nt)
      refine ⟨_, rfl, e2.trans s5, ?_⟩
      rw [List.take_add_one, he, List.map_append]
      refine L2.DwAll.append (DwAll.same s5 _ _ hys) ⟨_, [], rfl, ⟨t, _, rfl, SqT.of upd_same, _, _, rfl, rfl, _, _, rfl, ⟨p, _, rfl, (same_upd nt).tupS hp, ?_⟩, rfl⟩, rfl⟩
      exact DwAll.put (DwAll.same (t3.trans s5) _ _ hrd) (Dw.same (e2.trans s5) _ _ hv)
    rintro zs σ' H8 ⟨o, rfl, e8, hzs⟩ a8 n8
    rw [ol, List.take_length] at hzs
    have B7 := badl_tree (k := m) g.small (by rw [List.length_map]; omega) (by rw [List.length_map]; exact ml)
    generalize oddD.map (putD "tree" (rs.map rowP) m) = es8 at B7 hzs
    refine ⟨lt, a8, _, _, rfl, rfl, (same_upd n8) _ _ (e8 _ _ h7), upd_same, le_line (by rw [D4.length, B4.1, hzs.length, B7.1]; decide), fun l8 m8 => ?_⟩
    obtain ⟨t8, D8⟩ := th_cat t4 D4 (c7.trans e8) hzs n8 m8
    have B8 := B4.cat B7
    have h8 : upd (upd H8 a8 (.lst zs)) l8 (.lst (ys ++ zs)) l8 = some (.lst (ys ++ zs)) := upd_same
    generalize ds4 ++ es8 = ds8 at B8 D8
    have lr : (rs.map rowP).length ≤ 60 := by rw [List.length_map]; omega
    have ll2 : (ls.map PyData.str).length ≤ 60 := by rw [List.length_map]; omega
    -- 5 more
    refine ⟨_, rfl, envW (.tuple (ls.map .str)) (.tuple (rs.map rowP)) .none .none, EnvD.sub (mkE t8 rfl rfl), fun v9 H9 s9 d9 => ⟨le_line (by rw [d9.length]; show 5 ≤ 16777216; decide), fun a9 n9 => ⟨l8, a9, _, _, rfl, rfl, (same_upd n9) _ _ (s9 _ _ h8), upd_same, le_line (by rw [D8.length, B8.1, d9.length]; show 18 + 5 ≤ 16777216; decide), fun l9 m9 => ?_⟩⟩⟩
    obtain ⟨ds9, t9, D9, B9⟩ := th_step t8 D8 B8 s9 d9 (BadL.cons (bad_list (w := "leaf") (by decide +kernel) sml ll2 (by decide +kernel)) (BadL.cons (bad_list (w := "tree") (by decide +kernel) g.small lr (by decide +kernel)) (BadL.cons (bad_twice g) (BadL.cons (show Bad (.tuple [.str "leaf"]) by decide +kernel) (BadL.cons (show Bad (.tuple []) by decide +kernel) BadL.nil))))) n9 m9
    have h9 : upd (upd H9 a9 (.lst v9)) l9 (.lst (ys ++ zs ++ v9)) l9 = some (.lst (ys ++ zs ++ v9)) := upd_same
    refine ⟨_, rfl, envW (.tuple (ls.map .str)) (.tuple (rs.map rowP)) .none .none, EnvD.sub (mkE t9 rfl rfl), fun v10 H10 s10 d10 => ⟨le_line (by rw [d10.length]; show 5 ≤ 16777216; decide), fun a10 n10 => ⟨l9, a10, _, _, rfl, rfl, (same_upd n10) _ _ (s10 _ _ h9), upd_same, le_line (by rw [D9.length, B9.1, d10.length]; show 18 + 5 + 5 ≤ 16777216; decide), fun l10 m10 => ?_⟩⟩⟩
    obtain ⟨ds10, t10, D10, B10⟩ := th_step t9 D9 B9 s10 d10 (BadL.cons (show Bad (.none) by decide +kernel) (BadL.cons (show Bad (.str "leaf") by decide +kernel) (BadL.cons (bad_in sml ll2) (BadL.cons (bad_more sml ll2) (BadL.cons (show Bad (.tuple [.str "note", .str "T1.0", .tuple [], .str "xxxxxxxxxxxxxxxxxxxxx"]) by decide +kernel) BadL.nil))))) n10 m10
    have h10 : upd (upd H10 a10 (.lst v10)) l10 (.lst (ys ++ zs ++ v9 ++ v10)) l10 = some (.lst (ys ++ zs ++ v9 ++ v10)) := upd_same
    refine ⟨_, rfl, envW (.tuple (ls.map .str)) (.tuple (rs.map rowP)) .none .none, EnvD.sub (mkE t10 rfl rfl), fun v11 H11 s11 d11 => ⟨le_line (by rw [d11.length]; show 2 ≤ 16777216; decide), fun a11 n11 => ⟨l10, a11, _, _, rfl, rfl, (same_upd n11) _ _ (s11 _ _ h10), upd_same, le_line (by rw [D10.length, B10.1, d11.length]; show 18 + 5 + 5 + 2 ≤ 16777216; decide), fun l11 m11 => ?_⟩⟩⟩
    obtain ⟨ds11, t11, D11, B11⟩ := th_step t10 D10 B10 s11 d11 (BadL.cons (show Bad (.tuple [.str "note", .int 5, .tuple [], .str "x"]) by decide +kernel) (BadL.cons (show Bad (.tuple [.str "note", .str "T1.0", .tuple [.str "N1.0", .str "N1.0"], .str "x"]) by decide +kernel) BadL.nil)) n11 m11
    have h11 : upd (upd H11 a11 (.lst v11)) l11 (.lst (ys ++ zs ++ v9 ++ v10 ++ v11)) l11 = some (.lst (ys ++ zs ++ v9 ++ v10 ++ v11)) := upd_same
    -- falling
    refine ⟨envW .none .none .none .none, EnvD.sub EnvD.nil, fun vF HF sF dF => ?_⟩
    obtain ⟨aF, xF, rfl, hF, hFd⟩ := dF
    have tF := t11.trans sF
    refine ⟨fun σ' H' => ∃ (fd : List PyData) (af : Addr), σ' = [some (.int c), some (.ref al), some (.ref ar), some (.int k), some (.int m), some (.ref lB), some (.ref l11), some (.ref lQ), some (.ref af), none] ∧ Same HF H' ∧ Dw K H' (.tuple fd) (.ref af) ∧ Fall fd, ?_, ?_⟩
    · refine ⟨_, rfl, ar, _, rfl, .inr (tF.tupS hrt), _, _, rfl, rfl, _, rfl, ite2 (fun h1 => ?_) (fun h1 => ?_)⟩
      · have h1 : 1 < rs.length := by have := of_decide_eq_true h1; omega
        have hrF := tF.tupS hrt
        have hdF := DwAll.same tF _ _ hrd
        refine ⟨_, rfl, _, rfl, _, rfl, _, rfl, ar, _, rfl, hrF, fun x1 G1 hv1 => ?_⟩
        obtain ⟨p1, rfl, q1, hp1⟩ := cut_any hrF hv1
        refine ⟨_, rfl, _, rfl, ar, _, rfl, q1.tupS hrF, fun x2 G2 hv2 => ?_⟩
        obtain ⟨p2, rfl, q2, hp2⟩ := cut_any (q1.tupS hrF) hv2
        refine ⟨p1, p2, _, _, rfl, rfl, q2.tupS hp1, hp2, le_line ?_, fun p3 G3 q3 hp3 => ?_⟩
        · have z1 := cutV_length xr (some 1) (some (m : Int))
          have z2 := cutV_length xr none (some 1)
          omega
        have q123 := (q1.trans q2).trans q3
        refine ⟨_, rfl, _, rfl, _, rfl, ar, _, rfl, q123.tupS hrF, fun x4 G4 hv4 => ?_⟩
        obtain ⟨p4, rfl, q4, hp4⟩ := cut_any (q123.tupS hrF) hv4
        refine ⟨p3, p4, _, _, rfl, rfl, q4.tupS hp3, hp4, le_line ?_, fun p5 G5 q5 hp5 => ?_⟩
        · have z1 := cutV_length xr (some 1) (some (m : Int))
          have z2 := cutV_length xr none (some 1)
          have z3 := cutV_length xr (some (m : Int)) none
          rw [List.length_append]
          omega
        have q15 := q123.trans (q4.trans q5)
        refine ⟨_, rfl, _, _, rfl, rfl, _, rfl, ite2 (fun h2 => ?_) (fun h2 => ?_)⟩
        · refine ⟨_, rfl, ar, xr, rfl, q15.tupS hrF, fun z => ?_, fun p6 n6 => ?_⟩
          · rw [z] at rl; simp at rl; omega
          have u6 := same_upd (o := .tup xr.reverse) n6
          exact ⟨_, p6, rfl, q15.trans u6, ⟨p6, _, rfl, SqT.of upd_same, DwAll.reverse (DwAll.same (q15.trans u6) _ _ hdF)⟩, fall_turned g h1⟩
        · have h2 : 2 ≤ m := by
            have : ¬ (m : Int) < 2 := fun z => h2 (decide_eq_true z)
            omega
          refine ⟨_, p5, rfl, q15, ⟨p5, _, rfl, hp5, ?_⟩, fall_moved g h1 h2 ml⟩
          have c1 : cutV xr (some 1) (some (m : Int)) = (xr.drop 1).take (m - 1) := cutV_mid (f := 1) (by omega) (by omega)
          have c2 : cutV xr none (some 1) = xr.take 1 := cut_to (by decide)
          have c3 : cutV xr (some (m : Int)) none = xr.drop m := by rw [cut_from (by omega), Int.toNat_natCast]
          rw [c1, c2, c3]
          have dd := DwAll.same q15 _ _ hdF
          exact L2.DwAll.append (L2.DwAll.append (DwAll.take _ (L2.DwAll.drop 1 dd)) (DwAll.take 1 dd)) (L2.DwAll.drop m dd)
      · exact ⟨_, aF, rfl, Same.refl _, ⟨aF, xF, rfl, hF, hFd⟩, by decide +kernel, by decide, by decide +kernel⟩
    rintro σ' G ⟨fd, af, rfl, sG, dG, fG⟩
    -- three
    refine ⟨envW .none .none .none .none, EnvD.sub EnvD.nil, fun vT HT sT dT => ?_⟩
    have tT := (tF.trans sG).trans sT
    have cT := (sF.trans sG).trans sT
    have hT11 := cT _ _ h11
    have DT11 := DwAll.same cT _ _ D11
    have mkE4 : ∀ {σ : St} {cur : Hp}, Same HT cur → σ[1]? = some (some (.ref al)) → σ[2]? = some (some (.ref ar)) → σ[8]? = some (some (.ref af)) → σ[9]? = some (some vT) → EnvD K [(1, true), (2, true), (8, true), (9, true)] (envW (.tuple (ls.map .str)) (.tuple (rs.map rowP)) (.tuple fd) (.tuple [.str "N1.0", .str "N1.1", .str "N1.2"])) σ cur := fun s e1 e2 e3 e4 =>
      EnvD.consT e1 (Dw.same (tT.trans s) _ _ dl) rfl ll2 (EnvD.consT e2 (Dw.same (tT.trans s) _ _ hrw) rfl lr (EnvD.consT e3 (Dw.same (sT.trans s) _ _ dG) rfl fG.2.1 (EnvD.consT e4 (Dw.same s _ _ dT) rfl (by decide) EnvD.nil)))
    have t12 := tT
    have D12 := DT11
    have h12 := hT11
    have B12 := B11
    refine ⟨_, rfl, envW (.tuple (ls.map .str)) (.tuple (rs.map rowP)) (.tuple fd) (.tuple [.str "N1.0", .str "N1.1", .str "N1.2"]), EnvD.sub (mkE4 (Same.refl _) rfl rfl rfl rfl), fun v13 H13 s13 d13 => ⟨le_line (by rw [d13.length]; show 3 ≤ 16777216; decide), fun a13 n13 => ⟨l11, a13, _, _, rfl, rfl, (same_upd n13) _ _ (s13 _ _ h12), upd_same, le_line (by rw [D12.length, B12.1, d13.length]; show 18 + 5 + 5 + 2 + 3 ≤ 16777216; decide), fun l13 m13 => ?_⟩⟩⟩
    obtain ⟨ds13, t13, D13, B13⟩ := th_step t12 D12 B12 s13 d13 (BadL.cons (bad_tree fG.1 fG.2.1 fG.2.2) (BadL.cons (show Bad (.tuple [.str "tree", .tuple [.tuple [.str "b", .str "x"], .tuple [.str "a", .str "y"]]]) by decide +kernel) (BadL.cons (show Bad (.tuple [.str "note", .str "T1.0", .tuple [.str "N1.0", .str "N1.1", .str "N1.2"], .str "x"]) by decide +kernel) BadL.nil))) n13 m13
    have h13 : upd (upd H13 a13 (.lst v13)) l13 (.lst (ys ++ zs ++ v9 ++ v10 ++ v11 ++ v13)) l13 = some (.lst (ys ++ zs ++ v9 ++ v10 ++ v11 ++ v13)) := upd_same
    have c13 := s13.trans ((same_upd (o := .lst v13) n13).trans (same_upd (o := .lst (ys ++ zs ++ v9 ++ v10 ++ v11 ++ v13)) m13))
    refine ⟨_, rfl, envW (.tuple (ls.map .str)) (.tuple (rs.map rowP)) (.tuple fd) (.tuple [.str "N1.0", .str "N1.1", .str "N1.2"]), EnvD.sub (mkE4 c13 rfl rfl rfl rfl), fun v14 H14 s14 d14 => ⟨le_line (by rw [d14.length]; show 3 ≤ 16777216; decide), fun a14 n14 => ⟨l13, a14, _, _, rfl, rfl, (same_upd n14) _ _ (s14 _ _ h13), upd_same, le_line (by rw [D13.length, B13.1, d14.length]; show 18 + 5 + 5 + 2 + 3 + 3 ≤ 16777216; decide), fun l14 m14 => ?_⟩⟩⟩
    obtain ⟨ds14, t14, D14, B14⟩ := th_step t13 D13 B13 s14 d14 (BadL.cons (show Bad (.tuple [.str "note", .str "T1.0", .list [.str "N1.0"], .str "x"]) by decide +kernel) (BadL.cons (show Bad (.tuple [.str "note", .str "T1.0", .tuple [.str "N1.0", .int 5], .str "x"]) by decide +kernel) (BadL.cons (show Bad (.tuple [.str "note", .str "T1.0", .tuple []]) by decide +kernel) BadL.nil))) n14 m14
    have h14 : upd (upd H14 a14 (.lst v14)) l14 (.lst (ys ++ zs ++ v9 ++ v10 ++ v11 ++ v13 ++ v14)) l14 = some (.lst (ys ++ zs ++ v9 ++ v10 ++ v11 ++ v13 ++ v14)) := upd_same
    have c14 := c13.trans (s14.trans ((same_upd (o := .lst v14) n14).trans (same_upd (o := .lst (ys ++ zs ++ v9 ++ v10 ++ v11 ++ v13 ++ v14)) m14)))
    refine ⟨_, rfl, envW (.tuple (ls.map .str)) (.tuple (rs.map rowP)) (.tuple fd) (.tuple [.str "N1.0", .str "N1.1", .str "N1.2"]), EnvD.sub (mkE4 c14 rfl rfl rfl rfl), fun v15 H15 s15 d15 => ⟨le_line (by rw [d15.length]; show 4 ≤ 16777216; decide), fun a15 n15 => ⟨l14, a15, _, _, rfl, rfl, (same_upd n15) _ _ (s15 _ _ h14), upd_same, le_line (by rw [D14.length, B14.1, d15.length]; show 18 + 5 + 5 + 2 + 3 + 3 + 4 ≤ 16777216; decide), fun l15 m15 => ?_⟩⟩⟩
    obtain ⟨ds15, t15, D15p, B15⟩ := th_step2 t14 D14 B14 s15 d15 (BadL.cons (show Bad (.tuple [.str "note", .str "T1.0", .tuple [], .str "x", .str ""]) by decide +kernel) (BadL.cons (bad_word (w := "twig") (by decide +kernel) g.small lr (by decide +kernel) (by decide +kernel) (by decide +kernel)) (BadL.cons (bad_word (w := "Leaf") (by decide +kernel) sml ll2 (by decide +kernel) (by decide +kernel) (by decide +kernel)) (BadL.cons (bad_word (w := "Tree") (by decide +kernel) g.small lr (by decide +kernel) (by decide +kernel) (by decide +kernel)) BadL.nil)))) n15 m15
    have h15 : upd (upd H15 a15 (.lst v15)) l15 (.lst (ys ++ zs ++ v9 ++ v10 ++ v11 ++ v13 ++ v14 ++ v15)) l15 = some (.lst (ys ++ zs ++ v9 ++ v10 ++ v11 ++ v13 ++ v14 ++ v15)) := upd_same
    have c15 := c14.trans (s15.trans ((same_upd (o := .lst v15) n15).trans (same_upd (o := .lst (ys ++ zs ++ v9 ++ v10 ++ v11 ++ v13 ++ v14 ++ v15)) m15)))
    -- append
    have f15 : H15 l15 = none := (same_upd n15).free m15
    have fH : H l15 = none := (t14.trans s15).free f15
    have fT : HT l15 = none := (c14.trans s15).free f15
    have u15 := (same_upd (o := .lst v15) n15).trans (same_upd (o := .lst (ys ++ zs ++ v9 ++ v10 ++ v11 ++ v13 ++ v14 ++ v15)) m15)
    refine ⟨_, rfl, .inl ⟨rfl, _, SqL.of h15⟩, envW (.tuple (ls.map .str)) (.tuple (rs.map rowP)) (.tuple fd) (.tuple [.str "N1.0", .str "N1.1", .str "N1.2"]), EnvD.sub (mkE4 c15 rfl rfl rfl rfl), fun v16 H16 s16 d16 => ?_⟩
    have h15' := s16 _ _ h15
    refine ⟨l15, _, _, rfl, rfl, h15', lt_line (by rw [D15p.length, B15.1]; show 18 + 5 + 5 + 2 + 3 + 3 + 4 < 16777216; decide), ?_⟩
    have t16 : Same H (upd H16 l15 (.lst (ys ++ zs ++ v9 ++ v10 ++ v11 ++ v13 ++ v14 ++ v15 ++ [v16]))) := An.Same.updF (t15.trans s16) fH
    have c16 : Same HT (upd H16 l15 (.lst (ys ++ zs ++ v9 ++ v10 ++ v11 ++ v13 ++ v14 ++ v15 ++ [v16]))) := An.Same.updF (c15.trans s16) fT
    have p16 : Same H15 (upd H16 l15 (.lst (ys ++ zs ++ v9 ++ v10 ++ v11 ++ v13 ++ v14 ++ v15 ++ [v16]))) := An.Same.updF (u15.trans s16) f15
    have h16 : upd H16 l15 (.lst (ys ++ zs ++ v9 ++ v10 ++ v11 ++ v13 ++ v14 ++ v15 ++ [v16])) l15 = some (.lst (ys ++ zs ++ v9 ++ v10 ++ v11 ++ v13 ++ v14 ++ v15 ++ [v16])) := upd_same
    have w16 : Dw K (upd H16 l15 (.lst (ys ++ zs ++ v9 ++ v10 ++ v11 ++ v13 ++ v14 ++ v15 ++ [v16]))) (.tuple [.str "leaf", .tuple (rs.map rowP ++ [.tuple []])]) v16 := Dw.tsame (TSame.upd h15') _ _ (by
      show (true && (tupOnlyAll (rs.map rowP ++ [.tuple []]) && true)) = true
      rw [tupOnly_append (tupOnly_rows rs) rfl]; rfl) d16
    have D16 : DwAll K (upd H16 l15 (.lst (ys ++ zs ++ v9 ++ v10 ++ v11 ++ v13 ++ v14 ++ v15 ++ [v16]))) (ds15 ++ [.tuple [.str "leaf", .tuple (rs.map rowP ++ [.tuple []])]]) (ys ++ zs ++ v9 ++ v10 ++ v11 ++ v13 ++ v14 ++ v15 ++ [v16]) := L2.DwAll.append (DwAll.same p16 _ _ D15p) ⟨v16, [], rfl, w16, rfl⟩
    have B16 := B15.cat (BadL.cons (bad_within g) BadL.nil)
    generalize ds15 ++ [PyData.tuple [.str "leaf", .tuple (rs.map rowP ++ [.tuple []])]] = ds16 at D16 B16
    refine ⟨_, rfl, envW (.tuple (ls.map .str)) (.tuple (rs.map rowP)) (.tuple fd) (.tuple [.str "N1.0", .str "N1.1", .str "N1.2"]), EnvD.sub (mkE4 c16 rfl rfl rfl rfl), fun v17 H17 s17 d17 => ⟨le_line (by rw [d17.length]; show 3 ≤ 16777216; decide), fun a17 n17 => ⟨l15, a17, _, _, rfl, rfl, (same_upd n17) _ _ (s17 _ _ h16), upd_same, le_line (by rw [D16.length, B16.1, d17.length]; show 18 + 5 + 5 + 2 + 3 + 3 + 4 + 1 + 3 ≤ 16777216; decide), fun l17 m17 => ?_⟩⟩⟩
    obtain ⟨ds17, t17, D17, B17⟩ := th_step t16 D16 B16 s17 d17 (BadL.cons (show Bad (.tuple [.str "note", .str "T1.0", .tuple [], .str "a\nb"]) by decide +kernel) (BadL.cons (show Bad (.tuple [.str "note", .str "T1.0", .tuple [], .str "\tx"]) by decide +kernel) (BadL.cons (show Bad (.tuple [.str "note", .str "T1.0", .tuple [], .none]) by decide +kernel) BadL.nil))) n17 m17
    have h17 : upd (upd H17 a17 (.lst v17)) l17 (.lst (ys ++ zs ++ v9 ++ v10 ++ v11 ++ v13 ++ v14 ++ v15 ++ [v16] ++ v17)) l17 = some (.lst (ys ++ zs ++ v9 ++ v10 ++ v11 ++ v13 ++ v14 ++ v15 ++ [v16] ++ v17)) := upd_same
    have c17 := c16.trans (s17.trans ((same_upd (o := .lst v17) n17).trans (same_upd (o := .lst (ys ++ zs ++ v9 ++ v10 ++ v11 ++ v13 ++ v14 ++ v15 ++ [v16] ++ v17)) m17)))
    refine ⟨_, rfl, envW (.tuple (ls.map .str)) (.tuple (rs.map rowP)) (.tuple fd) (.tuple [.str "N1.0", .str "N1.1", .str "N1.2"]), EnvD.sub (mkE4 c17 rfl rfl rfl rfl), fun v18 H18 s18 d18 => ⟨le_line (by rw [d18.length]; show 3 ≤ 16777216; decide), fun a18 n18 => ⟨l17, a18, _, _, rfl, rfl, (same_upd n18) _ _ (s18 _ _ h17), upd_same, le_line (by rw [D17.length, B17.1, d18.length]; show 18 + 5 + 5 + 2 + 3 + 3 + 4 + 1 + 3 + 3 ≤ 16777216; decide), fun l18 m18 => ?_⟩⟩⟩
    obtain ⟨ds18, t18, D18, B18⟩ := th_step t17 D17 B17 s18 d18 (BadL.cons (bad_first (d := .list [.str "leaf"]) rfl (by decide +kernel) rfl sml ll2) (BadL.cons (bad_first (d := .dict []) (ds := []) rfl rfl rfl rfl (by decide)) (BadL.cons (bad_first (d := .int 5) rfl rfl rfl g.small lr) BadL.nil))) n18 m18
    have h18 : upd (upd H18 a18 (.lst v18)) l18 (.lst (ys ++ zs ++ v9 ++ v10 ++ v11 ++ v13 ++ v14 ++ v15 ++ [v16] ++ v17 ++ v18)) l18 = some (.lst (ys ++ zs ++ v9 ++ v10 ++ v11 ++ v13 ++ v14 ++ v15 ++ [v16] ++ v17 ++ v18)) := upd_same
    have e47 : (ys ++ zs ++ v9 ++ v10 ++ v11 ++ v13 ++ v14 ++ v15 ++ [v16] ++ v17 ++ v18).length = 47 := by rw [D18.length, B18.1]
    refine ⟨_, rfl, _, rfl, _, _, rfl, rfl, (by show (0 : Int) < 47; decide), ?_⟩
    obtain ⟨j, hj, jl⟩ : ∃ j : Nat, c % 47 = j ∧ j < 47 := ⟨(c % 47).toNat, by omega, by omega⟩
    have hx : (ys ++ zs ++ v9 ++ v10 ++ v11 ++ v13 ++ v14 ++ v15 ++ [v16] ++ v17 ++ v18)[j]? = some ((ys ++ zs ++ v9 ++ v10 ++ v11 ++ v13 ++ v14 ++ v15 ++ [v16] ++ v17 ++ v18)[j]'(by rw [e47]; exact jl)) := List.getElem?_eq_getElem _
    obtain ⟨d, hd, hdw⟩ := D18.get hx
    refine ⟨l18, _, _, _, rfl, rfl, SqL.of h18, atI_of hj hx, q d _ _ t18 hdw (B18.2 d (List.mem_of_getElem? hd))⟩
end h_wrong
end
end An02

set_option Elab.async false
set_option linter.all false
set_option maxRecDepth 100000
set_option maxHeartbeats 4000000
namespace An02
open PySem L2 An
seal L2.PS L2.PSs L2.PE L2.PT L2.PW L2.PA L2.PG L2.PGs L2.PI L2.PFi L2.PC
def spLaw (K : PySem.W.Frag) : Sp := fun vs H Q _ => ∃ (a : Addr) (ns : List Int), vs = [.ref a] ∧ SqL K H a (ns.map V.int) ∧ ∀ H', Q (.bl true) H'
theorem raises_none {X : Cx} : Raises X (fun _ _ _ => False) := by
  intro pins σ H s e s' I hx
  obtain ⟨_, _, _, _, _, _, _, _, _, _, _, _, _, _, q⟩ := hx
  exact q.elim
theorem cut_ints {ns : List Int} {f k : Nat} (h : f ≤ k) : ∃ ms : List Int, cutV (ns.map V.int) (some (f : Int)) (some (k : Int)) = ms.map V.int ∧ ms.length ≤ k - f := by
  refine ⟨(ns.drop (min f ns.length)).take (min k ns.length - min f ns.length), ?_, ?_⟩
  · unfold cutV
    rw [HT.sIx_nat, HT.sIx_nat, List.length_map, List.map_take, List.map_drop]
  · rw [List.length_take]
    omega
theorem all_in {p : PyData → Bool} {ds : List PyData} {e : PyData} {k : Nat} (h : ds.all p = true) : (ds.take k ++ [e] ++ ds.drop k).all p = p e := by
  rw [List.all_append, List.all_append]
  have h1 : (ds.take k).all p = true := List.all_eq_true.mpr fun x hx => List.all_eq_true.mp h x (List.mem_of_mem_take hx)
  have h2 : (ds.drop k).all p = true := List.all_eq_true.mpr fun x hx => List.all_eq_true.mp h x (List.mem_of_mem_drop hx)
  rw [h1, h2]
  show ((true && (p e && true)) && true) = p e
  rw [Bool.and_true, Bool.and_true, Bool.true_and]
theorem lines_all {ls : List Str} (h : ∀ l ∈ ls, lineB l = true) : (ls.map PyData.str).all lineD = true := List.all_eq_true.mpr fun d hd => by
  obtain ⟨l, hl, rfl⟩ := List.mem_map.mp hd
  exact h l hl
def oddL (y : Str) : List PyData := [.none, .int 5, .bool true, .list [.str y], .tuple [.str y, .int 5], .dict [], .tuple [], .tuple [.str "a"]]
theorem oddL_ok {y : Str} (yl : y.length ≤ 1000) : ∀ d ∈ oddL y, lineD d = false ∧ labelD d = false ∧ small d = true := by
  intro d hd
  simp only [oddL, List.mem_cons, List.not_mem_nil, or_false] at hd
  have e : decide (y.length ≤ 1000) = true := decide_eq_true yl
  rcases hd with rfl | rfl | rfl | rfl | rfl | rfl | rfl | rfl
  · exact ⟨rfl, rfl, rfl⟩
  · exact ⟨rfl, rfl, rfl⟩
  · exact ⟨rfl, rfl, rfl⟩
  · exact ⟨rfl, rfl, by show (true && (decide (y.length ≤ 1000) && true)) = true; rw [e]; rfl⟩
  · exact ⟨rfl, rfl, by show (true && (decide (y.length ≤ 1000) && (true && true))) = true; rw [e]; rfl⟩
  · exact ⟨rfl, rfl, rfl⟩
  · exact ⟨rfl, rfl, rfl⟩
  · exact ⟨rfl, rfl, by decide +kernel⟩
mutual
def dictFree : PyData → Bool
  | .dict _ => false
  | .list ds => dictFreeAll ds
  | .tuple ds => dictFreeAll ds
  | _ => true
def dictFreeAll : List PyData → Bool
  | [] => true
  | d :: ds => dictFree d && dictFreeAll ds
end
mutual
theorem Dw.dt {K : PySem.W.Frag} {H : Hp} : ∀ (d : PyData) (v : V), dictFree d = true → Dw K H d v → Dt K H d v
  | .none, _, _, h => h
  | .bool _, _, _, h => h
  | .int _, _, _, h => h
  | .str _, _, _, h => h
  | .list ds, _, t, ⟨a, xs, h1, h2, h3⟩ => ⟨a, xs, h1, h2, DwAll.dt ds xs t h3⟩
  | .tuple ds, _, t, ⟨a, xs, h1, h2, h3⟩ => ⟨a, xs, h1, h2, DwAll.dt ds xs t h3⟩
  | .dict _, _, t, _ => by cases t
theorem DwAll.dt {K : PySem.W.Frag} {H : Hp} : ∀ (ds : List PyData) (xs : List V), dictFreeAll ds = true → DwAll K H ds xs → DtAll K H ds xs
  | [], _, _, h => h
  | d :: ds, _, t, ⟨x, r, h1, h2, h3⟩ => by
    have t : (dictFree d && dictFreeAll ds) = true := t
    rw [Bool.and_eq_true] at t
    exact ⟨x, r, h1, Dw.dt d x t.1 h2, DwAll.dt ds r t.2 h3⟩
end
theorem strOk_T {y : Str} (h : (cs y).all signT = true) : PyData.strOk y = true := by
  rw [strOk_iff]
  intro c hc
  have := List.all_eq_true.mp h c hc
  unfold signT signB at this
  simp only [Bool.or_eq_true, Bool.and_eq_true, decide_eq_true_eq] at this
  omega
/-- in a pair of tuples, or not -/
theorem odd_in {K : PySem.W.Frag} {H : Hp} {y : Str} (hy : (cs y).all signT = true) {d : PyData} {v : V} (hd : d ∈ oddL y) (hdw : Dw K H d v) {t : Addr} (ht : Dt K H (.tuple [.tuple [], .tuple [.str "a"]]) (.ref t)) {Q : VK} (q : Q (.bl (linesD d)) H) : rInD K true false v (.ref t) H Q ∨ rInDE K v (.ref t) H Q := by
  have ok := strOk_T hy
  have main : dictFree d = true → d.canLay0 = true → d.depth ≤ 60 → (false != [PyData.tuple [], .tuple [.str "a"]].any fun y => PyData.eqv y d) = linesD d → rInD K true false v (.ref t) H Q := fun h1 h2 h3 h4 => ⟨d, _, Dw.dt d v h1 hdw, ht, by decide +kernel, h2, h3, by rw [h4]; exact q⟩
  simp only [oddL, List.mem_cons, List.not_mem_nil, or_false] at hd
  rcases hd with rfl | rfl | rfl | rfl | rfl | rfl | rfl | rfl
  · exact .inl (main rfl rfl (by decide) rfl)
  · exact .inl (main rfl rfl (by decide) rfl)
  · exact .inl (main rfl rfl (by decide) rfl)
  · exact .inl (main rfl (by show (PyData.strOk y && true) = true; rw [ok]; rfl) (by show max 0 0 + 1 ≤ 60; decide) rfl)
  · refine .inl (main rfl (by show (PyData.strOk y && (true && true)) = true; rw [ok]; rfl) (by show max 0 (max 0 0) + 1 ≤ 60; decide) ?_)
    show (false != (false || ((PyData.eqv (.str "a") (.str y) && false) || false))) = (lineB y && (false && true))
    rw [Bool.and_false, Bool.false_and, Bool.and_false]; rfl
  · obtain ⟨a, kvs, rfl, ha⟩ := hdw
    obtain ⟨t', xs, e, h1, x1, r1, rfl, ⟨p1, w1, rfl, hp1, _⟩, x2, r2, rfl, ⟨p2, w2, rfl, hp2, _⟩, e2⟩ := ht
    have e : t = t' := by injection e
    subst e
    have e2 : r2 = [] := e2
    subst e2
    refine .inr ⟨a, t, kvs, _, rfl, ha, rfl, h1, fun z hz => ?_, q⟩
    rcases List.mem_cons.mp hz with rfl | hz
    · exact ⟨p1, w1, rfl, hp1⟩
    · rw [List.mem_singleton.mp hz]; exact ⟨p2, w2, rfl, hp2⟩
  · exact .inl (main rfl rfl (by decide) rfl)
  · exact .inl (main rfl (by decide +kernel) (by decide) (by decide +kernel))
/-! ### things that are some -/
mutual
theorem eqv_self : ∀ d : PyData, tupOnly d = true → PyData.eqv d d = true
  | .none, _ => rfl
  | .bool b, _ => by cases b <;> rfl
  | .int i, _ => by show (i == i) = true; exact beq_self_eq_true i
  | .str x, _ => by show (x == x) = true; exact beq_self_eq_true x
  | .list _, t => by cases t
  | .tuple ds, t => eqv_selfs ds t
  | .dict _, t => by cases t
theorem eqv_selfs : ∀ ds : List PyData, tupOnlyAll ds = true → PyData.eqvAll ds ds = true
  | [], _ => rfl
  | d :: ds, t => by
    have t : (tupOnly d && tupOnlyAll ds) = true := t
    rw [Bool.and_eq_true] at t
    show (PyData.eqv d d && PyData.eqvAll ds ds) = true
    rw [eqv_self d t.1, eqv_selfs ds t.2]; rfl
end
theorem tupOnly_strs : ∀ ls : List Str, tupOnlyAll (ls.map .str) = true
  | [] => rfl
  | l :: ls => by
    show (true && tupOnlyAll (ls.map .str)) = true
    rw [tupOnly_strs ls]; rfl
theorem lay_strs : ∀ {ls : List Str}, (∀ l ∈ ls, PyData.strOk l = true) → PyData.canLayAll0 (ls.map .str) = true ∧ PyData.depthAll (ls.map .str) ≤ 0
  | [], _ => ⟨rfl, Nat.le_refl _⟩
  | l :: ls, h => by
    obtain ⟨h1, h2⟩ := lay_strs fun x hx => h x (List.mem_cons_of_mem _ hx)
    refine ⟨?_, ?_⟩
    · show (PyData.strOk l && PyData.canLayAll0 (ls.map .str)) = true
      rw [h l List.mem_cons_self, h1]; rfl
    · show max 0 (PyData.depthAll (ls.map .str)) ≤ 0
      omega
theorem lay_rows : ∀ {rs : List (Str × Str)}, (∀ r ∈ rs, PyData.strOk r.1 = true ∧ PyData.strOk r.2 = true) → PyData.canLayAll0 (rs.map rowP) = true ∧ PyData.depthAll (rs.map rowP) ≤ 1
  | [], _ => ⟨rfl, Nat.zero_le _⟩
  | r :: rs, h => by
    obtain ⟨h1, h2⟩ := lay_rows fun x hx => h x (List.mem_cons_of_mem _ hx)
    obtain ⟨h3, h4⟩ := h r List.mem_cons_self
    refine ⟨?_, ?_⟩
    · show ((PyData.strOk r.1 && (PyData.strOk r.2 && true)) && PyData.canLayAll0 (rs.map rowP)) = true
      rw [h3, h4, h1]; rfl
    · show max (max 0 (max 0 0) + 1) (PyData.depthAll (rs.map rowP)) ≤ 1
      omega
/-- a thing, and one that may be compared -/
structure GoodT (d : PyData) : Prop where
  small : small d = true
  narrow : narrowB d = true
  thing : thingB d = true
  only : tupOnly d = true
  shaped : SeqAt.shaped d = true
theorem line_ok {x : Str} (h : lineB x = true) : PyData.strOk x = true := strOk_T (lineB_T' h)
theorem label_ok {x : Str} (h : labelB x = true) : PyData.strOk x = true := strOk_T (labelB_T h)
theorem shaped_of {d : PyData} (h1 : d.canLay0 = true) (h2 : d.depth ≤ 60) : SeqAt.shaped d = true := by
  show (PyData.canLay0 d && decide (PyData.depth d ≤ 64)) = true
  rw [h1, decide_eq_true (by omega)]; rfl
theorem good_leaf {ls : List Str} (h : ∀ l ∈ ls, lineB l = true) (hl : ls.length ≤ 4) : GoodT (.tuple [.str "leaf", .tuple (ls.map .str)]) := by
  obtain ⟨k1, k2⟩ := two_small (w := "leaf") (by decide +kernel) (small_lines h) (by rw [List.length_map]; omega)
  obtain ⟨l1, l2⟩ := lay_strs fun l hl => line_ok (h l hl)
  refine ⟨k1, k2, ?_, ?_, shaped_of ?_ ?_⟩
  · rw [thing_is]
    unfold leafB
    show ((decide (("leaf" : Str) = "leaf") && (decide (1 = 1) && (ls.map PyData.str).all lineD)) || _) = true
    rw [lines_all h, decide_eq_true rfl]; rfl
  · show (true && (tupOnlyAll (ls.map .str) && true)) = true
    rw [tupOnly_strs]; rfl
  · show (PyData.strOk "leaf" && (PyData.canLayAll0 (ls.map .str) && true)) = true
    rw [l1]; decide +kernel
  · show max 0 (max (PyData.depthAll (ls.map .str) + 1) 0) + 1 ≤ 60
    omega
theorem good_tree {rs : List (Str × Str)} (g : GoodRows rs) : GoodT (.tuple [.str "tree", .tuple (rs.map rowP)]) := by
  have gl := g.len
  obtain ⟨k1, k2⟩ := two_small (w := "tree") (by decide +kernel) g.small (by rw [List.length_map]; omega)
  obtain ⟨l1, l2⟩ := lay_rows fun r hr => ⟨label_ok (g.lab r hr), line_ok (g.nam r hr)⟩
  refine ⟨k1, k2, ?_, ?_, shaped_of ?_ ?_⟩
  · rw [thing_is, no_leaf (by decide +kernel)]
    unfold treeB
    show (false || ((decide (("tree" : Str) = "tree") && (decide (1 = 1) && ((rs.map rowP).all rowD && riseB ((rs.map rowP).map labD)))) || _)) = true
    have e1 : (rs.map rowP).all rowD = true := List.all_eq_true.mpr fun d hd => by
      obtain ⟨r, hr, rfl⟩ := List.mem_map.mp hd
      show (labelB r.1 && true) = true
      rw [g.lab r hr]; rfl
    rw [e1, labD_rows, g.rise, decide_eq_true rfl]; rfl
  · show (true && (tupOnlyAll (rs.map rowP) && true)) = true
    rw [tupOnly_rows]; rfl
  · show (PyData.strOk "tree" && (PyData.canLayAll0 (rs.map rowP) && true)) = true
    rw [l1]; decide +kernel
  · show max 0 (max (PyData.depthAll (rs.map rowP) + 1) 0) + 1 ≤ 60
    omega
def parL (j : Nat) : List Str := ((["N1.0", "N1.1", "N2.0"] : List Str).drop j).take 2
theorem parL_ok : ∀ j : Fin 3, parentsD (.tuple ((parL j.val).map .str)) = true ∧ small (.tuple ((parL j.val).map .str)) = true ∧ (∀ l ∈ parL j.val, PyData.strOk l = true) ∧ (parL j.val).length ≤ 2 := by decide +kernel
theorem good_note {ps : List Str} {x : Str} (hp : parentsD (.tuple (ps.map .str)) = true) (sp : small (.tuple (ps.map .str)) = true) (op : ∀ l ∈ ps, PyData.strOk l = true) (lp : ps.length ≤ 2) (hx : lineB x = true) : GoodT (.tuple [.str "note", .str "T1.0", .tuple (ps.map .str), .str x]) := by
  obtain ⟨l1, l2⟩ := lay_strs op
  have xl := (line_parts.mp hx).1
  refine ⟨?_, ?_, ?_, ?_, shaped_of ?_ ?_⟩
  · show (decide (4 ≤ 1000) && (small (.str "note") && (small (.str "T1.0") && (small (.tuple (ps.map .str)) && (decide (x.length ≤ 1000) && true))))) = true
    rw [sp, decide_eq_true (show x.length ≤ 1000 by omega)]; decide +kernel
  · show (decide (4 ≤ 60) && (true && (true && (decide ((ps.map PyData.str).length ≤ 60) && (true && true))))) = true
    rw [lt60 (n := (ps.map PyData.str).length) (by rw [List.length_map]; omega)]; rfl
  · rw [thing_is, no_leaf (by decide +kernel), no_tree (by decide +kernel)]
    unfold noteB
    show (false || (false || (decide (("note" : Str) = "note") && (decide (3 = 3) && (true && (parentsD (.tuple (ps.map .str)) && lineB x)))))) = true
    rw [hp, hx, decide_eq_true rfl]; rfl
  · show (true && (true && (tupOnlyAll (ps.map .str) && (true && true)))) = true
    rw [tupOnly_strs]; rfl
  · show (PyData.strOk "note" && (PyData.strOk "T1.0" && (PyData.canLayAll0 (ps.map .str) && (PyData.strOk x && true)))) = true
    rw [l1, line_ok hx]; decide +kernel
  · show max 0 (max 0 (max (PyData.depthAll (ps.map .str) + 1) (max 0 0))) + 1 ≤ 60
    omega
mutual
theorem dictFree_of : ∀ d : PyData, tupOnly d = true → dictFree d = true
  | .none, _ => rfl
  | .bool _, _ => rfl
  | .int _, _ => rfl
  | .str _, _ => rfl
  | .list _, t => by cases t
  | .tuple ds, t => dictFrees_of ds t
  | .dict _, t => by cases t
theorem dictFrees_of : ∀ ds : List PyData, tupOnlyAll ds = true → dictFreeAll ds = true
  | [], _ => rfl
  | d :: ds, t => by
    have t : (tupOnly d && tupOnlyAll ds) = true := t
    rw [Bool.and_eq_true] at t
    show (dictFree d && dictFreeAll ds) = true
    rw [dictFree_of d t.1, dictFrees_of ds t.2]; rfl
end
/-! ### the dict of names, the rows of it -/
def Kv (kv : List (Str × V)) : Prop := (∀ p ∈ kv, labelB p.1 = true ∧ ∃ y, p.2 = .str y ∧ lineB y = true) ∧ (kv.map (·.1)).Nodup
theorem put_kv {kv : List (Str × V)} {lab y : Str} (h : Kv kv) (h1 : labelB lab = true) (h2 : lineB y = true) : ∃ kv', putK (keysS kv) (Sum.inr lab : Key) (.str y) = keysS kv' ∧ kv'.length ≤ kv.length + 1 ∧ Kv kv' := by
  obtain ⟨h, hnd⟩ := h
  unfold putK
  split
  · refine ⟨kv.map fun p => if p.1 = lab then (p.1, .str y) else p, ?_, by rw [List.length_map]; omega, ?_, ?_⟩
    · unfold keysS
      rw [List.map_map, List.map_map]
      refine List.map_congr_left fun p _ => ?_
      show (if (Sum.inr p.1 : Key) = Sum.inr lab then ((Sum.inr p.1 : Key), V.str y) else (Sum.inr p.1, p.2)) = ((Sum.inr (if p.1 = lab then (p.1, V.str y) else p).1 : Key), (if p.1 = lab then (p.1, V.str y) else p).2)
      by_cases e : p.1 = lab
      · rw [if_pos e, if_pos (by rw [e])]
      · rw [if_neg e, if_neg (fun z => e (Sum.inr.inj z))]
    · intro p hp
      obtain ⟨q, hq, rfl⟩ := List.mem_map.mp hp
      by_cases e : q.1 = lab
      · rw [if_pos e]; exact ⟨(h q hq).1, y, rfl, h2⟩
      · rw [if_neg e]; exact h q hq
    · rw [List.map_map]
      have e : kv.map ((·.1) ∘ fun p => if p.1 = lab then (p.1, V.str y) else p) = kv.map (·.1) := List.map_congr_left fun p _ => by
        show (if p.1 = lab then (p.1, V.str y) else p).1 = p.1
        split <;> rfl
      rw [e]; exact hnd
  · rename_i hn
    refine ⟨kv ++ [(lab, .str y)], ?_, by rw [List.length_append, List.length_singleton]; exact Nat.le_refl _, mem_snoc h ⟨h1, y, rfl, h2⟩, ?_⟩
    · unfold keysS
      rw [List.map_append]
      rfl
    · rw [List.map_append, List.nodup_append]
      refine ⟨hnd, by simp, fun a ha b hb z => hn ?_⟩
      have hb : b = lab := by simpa using hb
      obtain ⟨p, hp, rfl⟩ := List.mem_map.mp ha
      rw [List.any_eq_true]
      refine ⟨(Sum.inr p.1, p.2), ?_, decide_eq_true ?_⟩
      · unfold keysS
        exact List.mem_map.mpr ⟨p, hp, rfl⟩
      · show (Sum.inr p.1 : Key) = Sum.inr lab
        rw [← hb, z]
theorem kv_nil : Kv [] := ⟨fun p hp => (nomatch hp), List.nodup_nil⟩
theorem get_kv {kv : List (Str × V)} {lab : Str} (h : Kv kv) (hl : lab ∈ kv.map (·.1)) : ∃ y, valV (keysS kv) (Sum.inr lab : Key) = some (.str y) ∧ lineB y = true ∧ labelB lab = true := by
  obtain ⟨h, hx⟩ := h
  clear hx
  induction kv with
  | nil => cases hl
  | cons p kv ih =>
    have e0 : valV (keysS (p :: kv)) (Sum.inr lab : Key) = if (Sum.inr p.1 : Key) = Sum.inr lab then some p.2 else valV (keysS kv) (Sum.inr lab : Key) := by
      unfold valV keysS
      rw [List.map_cons, List.find?_cons]
      by_cases e : (Sum.inr p.1 : Key) = Sum.inr lab
      · rw [if_pos e, decide_eq_true e]
        rfl
      · rw [if_neg e, decide_eq_false e]
    by_cases e : p.1 = lab
    · obtain ⟨h1, y, h2, h3⟩ := h p List.mem_cons_self
      refine ⟨y, ?_, h3, e ▸ h1⟩
      rw [e0, if_pos (by rw [e]), h2]
    · have hl' : lab ∈ kv.map (·.1) := by
        rw [List.map_cons] at hl
        rcases List.mem_cons.mp hl with z | z
        · exact absurd z.symm e
        · exact z
      obtain ⟨y, h1, h2⟩ := ih hl' (fun q hq => h q (List.mem_cons_of_mem _ hq))
      refine ⟨y, ?_, h2⟩
      rw [e0, if_neg (fun z => e (Sum.inr.inj z))]
      exact h1
section
variable {P : Program} {w : World} {K : PySem.W.Frag} {mg : Str → Option Value} {base : Heap} {t1 t2 t3 t4 : Tok} {aT aA b1 b2 b3 b4 b5 b6 b7 b8 b9 : Addr}
namespace g_law
abbrev st : Stmt := top 41
theorem sc : FnScope ["_law_script", "_law_line_here", "_law_label_here", "_law_lines", "_law_at", "_law_odd", "_law_names", "_law_cell", "_law_rows", "_law_parents", "_law_thing"] ["_law_script"] (defScope st) := ⟨rfl, rfl, rfl, by decide +kernel, rfl, by decide +kernel, by decide +kernel⟩
theorem ok {f : Addr} {fd : FuncData} (F : Fun K "law" "law" st f fd) (T : Txt K mg t1 t2 t3 t4 aT aA b1 b2 b3 b4 b5 b6 b7 b8 b9) (C__law_cell_at : Cal P w K mg base 1 "_law_cell_at" ["_law_script", "_law_k"] (spCellA K)) (C__law_line_by : Cal P w K mg base 1 "_law_line_by" ["_law_cell"] spLineBy)
    (C__law_label_by : Cal P w K mg base 1 "_law_label_by" ["_law_cell"] spLabelBy) (C__law_true : Cal P w K mg base 1 "_law_true" ["_law_found", "_law_due"] spTrue) (C__law_bent : Cal P w K mg base 2 "_law_bent" ["_law_text", "_law_cell"] spBent)
    (C__law_line : Cal P w K mg base 1 "_law_line" ["_law_text"] spLawLine) (C__law_label : Cal P w K mg base 1 "_law_label" ["_law_text"] spLawLabel) (C__law_put : Cal P w K mg base 1 "_law_put" ["_law_row", "_law_at", "_law_part"] (spPut K))
    (C__law_wrong_by : Cal P w K mg base 2 "_law_wrong_by" ["_law_cell", "_law_lines", "_law_rows"] (spWrong K)) (C__law_refused : Cal P w K mg base 7 "_law_refused" ["_law_thing"] (spRefused K))
    (C_is_line : Cal P w K mg base 2 "is_line" ["thing"] (spLine K)) (C_is_lines : Cal P w K mg base 3 "is_lines" ["thing"] (spLines K)) (C_is_label : Cal P w K mg base 1 "is_label" ["thing"] (spLabel K)) (C_need_thing : CalX P w K mg base 6 "need_thing" ["thing"] (spNeed K aT)) :
    FnOk P w K mg base CX0 8 f fd ["_law_script"] (spLaw K) := by
  refine F.ok sc (fun vs H Q E h => ?_) (fun cdv A outer s H vs Q E hr h => ?_)
  · obtain ⟨a, ns, rfl, _⟩ := h
    rfl
  · obtain ⟨a, ns, rfl, ha, k⟩ := h
    have hu := hu_of hr
    refine ⟨_, (pss_cons (ps_set (i := 1) sc.nd rfl (Or.inl rfl) (pe_callC C__law_bent (hr.mono (by decide)) (pa_cons (pe_callC C__law_line_by (hr.mono (by decide)) (pa_cons (pe_callC C__law_cell_at (hr.mono (by decide)) (pa_cons (pv 0) (pa_cons pe_int pa_nil))) pa_nil)) (pa_cons (pe_callC C__law_cell_at (hr.mono (by decide)) (pa_cons (pv 0) (pa_cons pe_int pa_nil))) pa_nil))))
      (pss_cons (ps_set (i := 2) sc.nd rfl (Or.inl rfl) (pe_callC C__law_bent (hr.mono (by decide)) (pa_cons (pe_callC C__law_label_by (hr.mono (by decide)) (pa_cons (pe_callC C__law_cell_at (hr.mono (by decide)) (pa_cons (pv 0) (pa_cons pe_int pa_nil))) pa_nil)) (pa_cons (pe_callC C__law_cell_at (hr.mono (by decide)) (pa_cons (pv 0) (pa_cons pe_int pa_nil))) pa_nil))))
      (pss_cons (ps_set (i := 3) sc.nd rfl (Or.inl rfl) (pe_callTy call_tuple_of (by rfl) T.tuple PyProof.Rows.boot_tuple (pa_cons (pe_comp (sc := defScope st) (N := ["_law_script", "_law_line_here", "_law_label_here", "_law_lines", "_law_at", "_law_odd", "_law_names", "_law_cell", "_law_rows", "_law_parents", "_law_thing"]) (N' := ["_law_cell"]) (src := [none]) ⟨by decide +kernel, rfl, rfl, by decide +kernel, by decide +kernel, by decide +kernel, by decide +kernel⟩ rfl rfl rfl (pi_list (pe_slice (sl_list : SlR _ (rSlL K)) (pv 0) (po_some pe_int) (po_some pe_int))) (fun _ _ _ _ => (pg_name (i := 0) (show (["_law_cell"] : List Str).Nodup by decide +kernel) rfl (Or.inl rfl))) (fun _ _ _ _ => pf_nil) (fun _ _ _ _ => (pe_callC C__law_line_by (hr.mono (by decide)) (pa_cons (pv 0) pa_nil)))) pa_nil)))
      (pss_cons (ps_if (PW.pt (pw_or (pt_not (pt_truthK (K := K) (pe_callC C__law_true (hr.mono (by decide)) (pa_cons (pe_callC C_is_line (hr.mono (by decide)) (pa_cons (pv 1) pa_nil)) (pa_cons (pe_callC C__law_line (hr.mono (by decide)) (pa_cons (pv 1) pa_nil)) pa_nil))) (fun _ => rfl))) (pw_or1 (pt_not (pt_truthK (K := K) (pe_callC C__law_true (hr.mono (by decide)) (pa_cons (pe_callC C_is_label (hr.mono (by decide)) (pa_cons (pv 2) pa_nil)) (pa_cons (pe_callC C__law_label (hr.mono (by decide)) (pa_cons (pv 2) pa_nil)) pa_nil))) (fun _ => rfl))))))
        (pss_one (ps_ret pe_bl))
        pss_nil)
      (pss_cons (ps_set (i := 4) sc.nd rfl (Or.inl rfl) (pe_op op_mod (pe_callC C__law_cell_at (hr.mono (by decide)) (pa_cons (pv 0) (pa_cons pe_int pa_nil))) (pe_op op_add (pe_callB call_len_seq (by rfl) T.len PySem.boot_len (pa_cons (pv 3) pa_nil)) pe_int)))
      (pss_cons (ps_if (PW.pt (pw_or (pt_not (pt_truthK (K := K) (pe_callC C__law_true (hr.mono (by decide)) (pa_cons (pe_callC C_is_lines (hr.mono (by decide)) (pa_cons (pe_callC C__law_put (hr.mono (by decide)) (pa_cons (pe_callTy call_list_of (by rfl) T.list PyProof.Rows.boot_list (pa_cons (pv 3) pa_nil)) (pa_cons (pv 4) (pa_cons (pv 1) pa_nil)))) pa_nil)) (pa_cons (pe_callC C__law_line (hr.mono (by decide)) (pa_cons (pv 1) pa_nil)) pa_nil))) (fun _ => rfl))) (pw_or1 (pt_cmpR op_isnotB (pe_callC C_is_lines (hr.mono (by decide)) (pa_cons (pe_callTy call_list_of (by rfl) T.list PyProof.Rows.boot_list (pa_cons (pv 3) pa_nil)) pa_nil)) pe_bl (nomark _)))))
        (pss_one (ps_ret pe_bl))
        pss_nil)
      (pss_cons (ps_set (i := 5) sc.nd rfl (Or.inl rfl) (pe_ix (ix_list : IxR _ (rIxL K)) (pe_lst (pd_cons pd_non (pd_cons pd_int (pd_cons pd_bl (pd_cons (pd_lst (pd_cons (pd_var 1 (pv 1)) pd_nil)) (pd_cons (pd_tup (pd_cons (pd_var 1 (pv 1)) (pd_cons pd_int pd_nil))) (pd_cons pd_dict0 (pd_cons (pd_tup pd_nil) (pd_cons (pd_tup (pd_cons pd_str pd_nil)) pd_nil))))))))) (pe_op op_mod (pe_callC C__law_cell_at (hr.mono (by decide)) (pa_cons (pv 0) (pa_cons pe_int pa_nil))) pe_int) (fun _ _ => rfl)))
      (pss_cons (ps_if (PW.pt (pw_or (pt_cmpR op_isnotB (pe_callC C_is_line (hr.mono (by decide)) (pa_cons (pv 5) pa_nil)) pe_bl (nomark _)) (pw_or (pt_cmpR op_isnotB (pe_callC C_is_label (hr.mono (by decide)) (pa_cons (pv 5) pa_nil)) pe_bl (nomark _)) (pw_or1 (pt_not (pt_truthK (K := K) (pe_callC C__law_true (hr.mono (by decide)) (pa_cons (pe_callC C_is_lines (hr.mono (by decide)) (pa_cons (pv 5) pa_nil)) (pa_cons (pe_cmpR (OpR.or (op_inDT (K := K) hr.units) (op_inDE (K := K) hr.units)) (pv 5) (pe_tup (pa_cons (pe_tup pa_nil) (pa_cons (pe_tup (pa_cons pe_str pa_nil)) pa_nil))) (by with_unfolding_all rfl)) pa_nil))) (fun _ => rfl)))))))
        (pss_one (ps_ret pe_bl))
        pss_nil)
      (pss_cons (ps_set (i := 6) sc.nd rfl (Or.inr rfl) pe_dnewK)
      (pss_cons (ps_for PassesOwn.never rfl (pi_list (pe_slice (sl_list : SlR _ (rSlL K)) (pv 0) (po_some pe_int) (po_some pe_int))) (pg_name (i := 7) sc.nd rfl (Or.inl rfl))
        (pss_one (ps_dput hu (pv 6) (pe_callC C__law_label_by (hr.mono (by decide)) (pa_cons (pv 7) pa_nil)) (pe_callC C__law_line_by (hr.mono (by decide)) (pa_cons (pe_op op_fdiv (pv 7) pe_int) pa_nil)) rfl)))
      (pss_cons (ps_set (i := 8) sc.nd rfl (Or.inl rfl) (pe_callTy call_tuple_of (by rfl) T.tuple PyProof.Rows.boot_tuple (pa_cons (pe_comp (sc := defScope st) (N := ["_law_script", "_law_line_here", "_law_label_here", "_law_lines", "_law_at", "_law_odd", "_law_names", "_law_cell", "_law_rows", "_law_parents", "_law_thing"]) (N' := ["_law_name", "_law_names"]) (src := [none, some 6]) ⟨by decide +kernel, rfl, rfl, by decide +kernel, by decide +kernel, by decide +kernel, by decide +kernel⟩ rfl rfl rfl (pi_list (pe_callB (call_sortedD rfl) (by rfl) T.sorted PyProof.Rows.boot_sorted (pa_cons (pv 6) pa_nil))) (fun _ _ _ _ => (pg_name (i := 0) (show (["_law_name", "_law_names"] : List Str).Nodup by decide +kernel) rfl (Or.inl rfl))) (fun _ _ _ _ => pf_nil) (fun _ _ _ _ => (pe_tup (pa_cons (pv 0) (pa_cons (pe_dget hu (pv 1) (pv 0) (fun _ _ => rfl)) pa_nil))))) pa_nil)))
      (pss_cons (ps_set (i := 9) sc.nd rfl (Or.inl rfl) (pe_slice (sl_tup2 : SlR _ (rSlT2 K)) (pe_slice (sl_tup2 : SlR _ (rSlT2 K)) (pe_tup (pa_cons pe_str (pa_cons pe_str (pa_cons pe_str pa_nil)))) (po_some (pe_op op_mod (pe_callC C__law_cell_at (hr.mono (by decide)) (pa_cons (pv 0) (pa_cons pe_int pa_nil))) pe_int)) po_none) po_none (po_some pe_int)))
      (pss_cons (ps_for PassesOwn.never rfl (pi_list (pe_lst (pa_cons (pe_tup (pa_cons pe_str (pa_cons (pv 3) pa_nil))) (pa_cons (pe_tup (pa_cons pe_str (pa_cons (pv 8) pa_nil))) (pa_cons (pe_tup (pa_cons pe_str (pa_cons pe_str (pa_cons (pv 9) (pa_cons (pe_slice sl_str (pv 1) po_none (po_some pe_int)) pa_nil))))) pa_nil))))) (pg_name (i := 10) sc.nd rfl (Or.inl rfl))
        (pss_one (ps_if (PW.pt (pw_and (pt_truthK (K := K) (pe_callC C__law_line (hr.mono (by decide)) (pa_cons (pe_slice sl_str (pv 1) po_none (po_some pe_int)) pa_nil)) (fun _ => rfl)) (pw_and1 (pt_cmpR (op_neD hr.units) (pe_callX C_need_thing (hr.mono (by decide)) raises_none (pa_cons (pv 10) pa_nil)) (pv 10) (nomark _)))))
          (pss_one (ps_ret pe_bl))
          pss_nil)))
      (pss_one (ps_ret (pe_callC C__law_refused (hr.mono (by decide)) (pa_cons (pe_callC C__law_wrong_by (hr.mono (by decide)) (pa_cons (pe_callC C__law_cell_at (hr.mono (by decide)) (pa_cons (pv 0) (pa_cons pe_int pa_nil))) (pa_cons (pv 3) (pa_cons (pv 8) pa_nil)))) pa_nil))))))))))))))))), ?_⟩
    refine ⟨_, rfl, a, ns, 0, rfl, ha, by decide, fun i0 => ⟨_, rfl, fun x0 H0 hx0 s0 => ⟨_, rfl, a, ns, 1, rfl, s0.seq ha, by decide, fun i1 => ⟨x0, _, rfl, lineB_T' hx0, by have := (line_parts.mp hx0).1; omega, fun y hy yl => ?_⟩⟩⟩⟩
    refine ⟨_, rfl, a, ns, 2, rfl, s0.seq ha, by decide, fun i2 => ⟨_, rfl, fun x1 H1 hx1 s1 => ⟨_, rfl, a, ns, 3, rfl, (s0.trans s1).seq ha, by decide, fun i3 => ⟨x1, _, rfl, labelB_T hx1, by have := (label_parts.mp hx1).2.1; omega, fun z hz zl => ?_⟩⟩⟩⟩
    have t1 := s0.trans s1
    -- lines
    refine ⟨_, rfl, _, rfl, _, rfl, a, _, rfl, t1.seq ha, fun lc nc => ?_⟩
    obtain ⟨ms, em, ml⟩ := cut_ints (ns := ns) (f := 8) (k := 12) (by decide)
    have em : cutV (ns.map V.int) (some 8) (some 12) = ms.map V.int := em
    rw [em]
    have uc := same_upd (o := .lst (ms.map V.int)) nc
    refine ⟨lc, rfl, ⟨_, SqL.of upd_same⟩, comp_list0 (K := K) (a := lc) (xs := ms.map V.int) (fun i ys σ' H2 => ∃ (o : Option V) (ls : List Str), σ' = [o] ∧ Same (upd H1 lc (.lst (ms.map V.int))) H2 ∧ ys = ls.map V.str ∧ ls.length = i ∧ ∀ l ∈ ls, lineB l = true) ⟨none, [], rfl, Same.refl _, rfl, rfl, fun l hl => nomatch hl⟩ (le_line (by rw [List.length_map]; omega)) ?_ ?_ ?_⟩
    · rintro i ys σ' H2 hi ⟨o, ls, rfl, e2, rfl, el, _⟩
      exact ⟨SqL.of (e2 _ _ upd_same), by rw [List.length_map, el]; exact Nat.le_refl _⟩
    · rintro i x ys σ' H2 hi ⟨o, ls, rfl, e2, rfl, rfl, al⟩
      rw [List.getElem?_map] at hi
      cases q : ms[ls.length]? with
      | none => rw [q] at hi; cases hi
      | some n =>
        rw [q] at hi
        have hi : V.int n = x := Option.some.inj hi
        subst hi
        refine ⟨_, rfl, n, rfl, fun l H3 hl s3 => ⟨_, ls ++ [l], rfl, e2.trans s3, ?_, by simp, mem_snoc al hl⟩⟩
        rw [List.map_append]; rfl
    rintro ys σ' H2 ⟨o, ls, rfl, e2, rfl, el, lok⟩ p np
    rw [List.length_map] at el
    refine ⟨p, _, rfl, .inl ⟨SqL.of upd_same, fun tl nl => ?_⟩⟩
    have u2 := (same_upd (o := .lst (ls.map V.str)) np).trans (same_upd (o := .tup (ls.map V.str)) nl)
    have t2 := t1.trans (uc.trans (e2.trans u2))
    have hl2 : upd (upd H2 p (.lst (ls.map V.str))) tl (.tup (ls.map V.str)) tl = some (.tup (ls.map V.str)) := upd_same
    show tSeq _ _ _ _ (upd (upd H2 p (.lst (ls.map V.str))) tl (.tup (ls.map V.str)))
    generalize upd (upd H2 p (.lst (ls.map V.str))) tl (.tup (ls.map V.str)) = H3 at t2 hl2
    have ll : ls.length ≤ 4 := by omega
    have hl3 : SqT K H3 tl (ls.map V.str) := SqT.of hl2
    have e0 : (lineD (.str y) == lineB y) = true := beq_self_eq_true (lineB y)
    have e1 : (labelD (.str z) == labelB z) = true := beq_self_eq_true (labelB z)
    refine ⟨_, rfl, .str y, _, rfl, rfl, small_str (by omega), fun H4 s4 => ⟨_, rfl, y, rfl, hy, by omega, _, _, rfl, ?_⟩⟩
    rw [e0]
    refine ⟨true, rfl, iteNF ?_⟩
    refine ⟨_, rfl, .str z, _, rfl, rfl, small_str (by omega), fun H5 s5 => ⟨_, rfl, z, rfl, by omega, _, _, rfl, ?_⟩⟩
    rw [e1]
    refine ⟨true, rfl, iteNF ?_⟩
    have t5 := (t2.trans s4).trans s5
    have hl5 := (s4.trans s5).tupS hl3
    -- at
    refine ⟨_, rfl, a, ns, 4, rfl, t5.seq ha, by decide, fun i4 => ⟨_, rfl, tl, _, rfl, .inr hl5, _, _, rfl, rfl, _, _, rfl, rfl, (by show (0 : Int) < ((ls.map V.str).length : Int) + 1; omega), ?_⟩⟩
    obtain ⟨n, hn, nl'⟩ : ∃ n : Nat, i4 % (((ls.map V.str).length : Int) + 1) = n ∧ n ≤ ls.length := by
      have z1 : 0 ≤ i4 % (((ls.map V.str).length : Int) + 1) := Int.emod_nonneg _ (by omega)
      have z2 : i4 % (((ls.map V.str).length : Int) + 1) < ((ls.map V.str).length : Int) + 1 := Int.emod_lt_of_pos _ (by omega)
      rw [List.length_map] at z1 z2 ⊢
      exact ⟨_, (Int.toNat_of_nonneg z1).symm, by omega⟩
    show gName 4 (V.int (i4 % (((ls.map V.str).length : Int) + 1))) _ H5 _
    rw [hn]
    -- lines with one put in
    have hlD : DwAll K H5 (ls.map PyData.str) (ls.map V.str) := (DtAll.strs ls).dw
    refine ⟨_, rfl, tl, _, rfl, .inr hl5, fun l6 n6 => ⟨_, rfl, _, rfl, l6, _, n, .str y, rfl, SqL.of upd_same, by rw [List.length_map]; exact nl', by rw [List.length_map]; omega, fun p7 H7 s7 hp7 => ?_⟩⟩
    have u6 := same_upd (o := .lst (ls.map V.str)) n6
    have sml := small_lines lok
    refine ⟨.tuple ((ls.map PyData.str).take n ++ [PyData.str y] ++ (ls.map PyData.str).drop n), _, rfl, ⟨p7, _, rfl, hp7, DwAll.put (DtAll.strs ls).dw (show Dw K H7 (.str y) (.str y) from rfl)⟩, ?_, fun H8 s8 => ⟨_, rfl, y, rfl, hy, by omega, _, _, rfl, ?_⟩⟩
    · show (decide (_ ≤ 1000) && smallAll _) = true
      rw [small_put sml (small_str (by omega)), decide_eq_true]; rfl
      rw [len_put (by rw [List.length_map]; exact nl'), List.length_map]; omega
    have e8 : (linesD (.tuple ((ls.map PyData.str).take n ++ [PyData.str y] ++ (ls.map PyData.str).drop n)) == lineB y) = true := by
      show (((ls.map PyData.str).take n ++ [PyData.str y] ++ (ls.map PyData.str).drop n).all lineD == lineB y) = true
      rw [all_in (lines_all lok)]
      exact beq_self_eq_true (lineB y)
    rw [e8]
    refine ⟨true, rfl, iteNF ?_⟩
    have t8 := ((t5.trans u6).trans s7).trans s8
    have hl8 := ((u6.trans s7).trans s8).tupS hl5
    refine ⟨_, rfl, tl, _, rfl, .inr hl8, fun l9 n9 => ?_⟩
    have u9 := same_upd (o := .lst (ls.map V.str)) n9
    refine ⟨.list (ls.map .str), _, rfl, ⟨l9, _, rfl, SqL.of upd_same, (DtAll.strs ls).dw⟩, ?_, fun H10 s10 => ⟨_, _, rfl, rfl, _, rfl, iteF ?_⟩⟩
    · show (decide (_ ≤ 1000) && smallAll _) = true
      rw [sml, decide_eq_true]; rfl
      rw [List.length_map]; omega
    have t10 := (t8.trans u9).trans s10
    have hl10 := (u9.trans s10).tupS hl8
    -- what is no line
    refine ⟨fun _ => .str y, EnvD.sub (EnvD.cons (i := 1) rfl rfl EnvD.nil), fun v11 H11 s11 d11 => ⟨le_line (by rw [d11.length]; show 8 ≤ 16777216; decide), fun l11 n11 => ?_⟩⟩
    have u11 := same_upd (o := .lst v11) n11
    have t11 := (t10.trans s11).trans u11
    have d11 : DwAll K H11 (oddL y) v11 := d11
    refine ⟨_, rfl, a, ns, 5, rfl, t11.seq ha, by decide, fun i5 => ⟨_, _, rfl, rfl, (by show (0 : Int) < 8; decide), ?_⟩⟩
    obtain ⟨j, hj, jl⟩ : ∃ j : Nat, i5 % 8 = j ∧ j < 8 := ⟨(i5 % 8).toNat, by omega, by omega⟩
    have l11' : v11.length = 8 := d11.length
    have hx : v11[j]? = some (v11[j]'(by rw [l11']; exact jl)) := List.getElem?_eq_getElem _
    obtain ⟨d, hd, hdw⟩ := d11.get hx
    generalize v11[j]'(by rw [l11']; exact jl) = v at hx hdw
    refine ⟨l11, _, _, _, rfl, rfl, SqL.of upd_same, atI_of hj hx, ?_⟩
    have dmem := List.mem_of_getElem? hd
    obtain ⟨o1, o2, o3⟩ := oddL_ok (y := y) (by omega) d dmem
    have w11 := Dw.same u11 _ _ hdw
    have hl11 := (s11.trans u11).tupS hl10
    refine ⟨_, rfl, d, v, rfl, w11, o3, fun H12 s12 => ⟨_, _, rfl, rfl, _, rfl, ?_⟩⟩
    rw [o1]
    refine iteF ⟨_, rfl, d, v, rfl, Dw.same s12 _ _ w11, o3, fun H13 s13 => ⟨_, _, rfl, rfl, _, rfl, ?_⟩⟩
    rw [o2]
    refine iteF ⟨_, rfl, d, v, rfl, Dw.same (s12.trans s13) _ _ w11, o3, fun H14 s14 => ?_⟩
    have c14 := (s12.trans s13).trans s14
    refine ⟨_, rfl, Nat.zero_le _, fun q1 m1 => ⟨lineN 1, fun q2 m2 => ⟨lineN 2, fun q3 m3 => ?_⟩⟩⟩
    have z1 := same_upd (o := .tup []) m1
    have z2 := same_upd (o := .tup [V.str "a"]) m2
    have z3 := same_upd (o := .tup [V.ref q1, V.ref q2]) m3
    have hin : Dt K (upd (upd (upd H14 q1 (.tup [])) q2 (.tup [V.str "a"])) q3 (.tup [V.ref q1, V.ref q2])) (.tuple [.tuple [], .tuple [.str "a"]]) (.ref q3) := ⟨q3, _, rfl, SqT.of upd_same, _, _, rfl, ⟨q1, _, rfl, SqT.of ((z2.trans z3) _ _ upd_same), rfl⟩, _, _, rfl, ⟨q2, _, rfl, SqT.of (z3 _ _ upd_same), _, _, rfl, rfl, rfl⟩, rfl⟩
    have t14 := (t11.trans c14).trans ((z1.trans z2).trans z3)
    have hl14 := (c14.trans ((z1.trans z2).trans z3)).tupS hl11
    have w14 := Dw.same (c14.trans ((z1.trans z2).trans z3)) _ _ w11
    refine odd_in hy dmem w14 hin ?_
    refine ⟨_, _, rfl, ?_⟩
    rw [beq_self_eq_true]
    refine ⟨true, rfl, iteNF ?_⟩
    show tSeq _ _ _ _ (upd (upd (upd H14 q1 (.tup [])) q2 (.tup [V.str "a"])) q3 (.tup [V.ref q1, V.ref q2]))
    generalize upd (upd (upd H14 q1 (.tup [])) q2 (.tup [V.str "a"])) q3 (.tup [V.ref q1, V.ref q2]) = H15 at t14 hl14
    -- names
    intro dn nd
    have u16 := same_upd (o := .dK []) nd
    have t16 := t14.trans u16
    refine ⟨_, rfl, _, rfl, _, rfl, a, _, rfl, t16.seq ha, fun lk nk => ?_⟩
    obtain ⟨ks, ek, kl⟩ := cut_ints (ns := ns) (f := 12) (k := 17) (by decide)
    have ek : cutV (ns.map V.int) (some 12) (some 17) = ks.map V.int := ek
    rw [ek]
    have uk := same_upd (o := .lst (ks.map V.int)) nk
    have hd16 : upd (upd H15 dn (.dK [])) lk (.lst (ks.map V.int)) dn = some (.dK (keysS [])) := uk _ _ upd_same
    refine ⟨lk, rfl, ⟨_, SqL.of upd_same⟩, for_list (K := K) (a := lk) (xs := ks.map V.int) (fun i σ' H2 => ∃ (o : Option V) (kv : List (Str × V)), σ' = [some (.ref a), some (.str y), some (.str z), some (.ref tl), some (.int n), some v, some (.ref dn), o, none, none, none] ∧ Same H15 H2 ∧ H2 lk = some (.lst (ks.map V.int)) ∧ H2 dn = some (.dK (keysS kv)) ∧ kv.length ≤ i ∧ Kv kv)
      ⟨none, [], rfl, u16.trans uk, upd_same, hd16, Nat.le_refl _, kv_nil⟩ (fun i σ' H2 _ ⟨_, _, _, _, e, _⟩ => SqL.of e) ?_ ?_⟩
    · rintro i x σ' H2 hi ⟨o, kv, rfl, e2, hlk, hdn, kvl, hkv⟩
      have hil : i < (ks.map V.int).length := (List.getElem?_eq_some_iff.mp hi).1
      rw [List.length_map] at hil
      obtain ⟨nn, rfl⟩ : ∃ nn, x = V.int nn := by
        rw [List.getElem?_map, List.getElem?_eq_getElem hil] at hi
        exact ⟨_, (Option.some.inj hi).symm⟩
      refine ⟨_, rfl, _, _, rfl, rfl, ⟨by decide, by decide⟩, _, rfl, fun yv H5 hyv s5 => ⟨_, rfl, _, rfl, _, rfl, fun lab H6 hlab s6 => ?_⟩⟩
      obtain ⟨kv', g1, g2, g3⟩ := put_kv hkv hlab hyv
      have s56 := s5.trans s6
      have hd6 := s56 _ _ hdn
      have hzl : (keysS kv).length < sizeLine := by
        unfold keysS
        rw [List.length_map]
        exact lt_line (by omega)
      have ne1 : lk ≠ dn := fun z => by rw [z, hdn] at hlk; cases hlk
      refine ⟨dn, _, rfl, DPut.k (k := (Sum.inr lab : Key)) hd6 hzl, _, kv', rfl, An.Same.updF (e2.trans s56) nd, ?_, ?_, by omega, g3⟩
      · rw [upd_ne ne1]; exact s56 _ _ hlk
      · rw [upd_same, g1]
    rintro σ' H17 ⟨o, kv, rfl, e17, _, hdn, kvl, hkv⟩
    rw [List.length_map] at kvl
    have t17 := t14.trans e17
    have hl17 := e17.tupS hl14
    -- rows
    refine ⟨_, rfl, dn, kv, rfl, hdn, by omega, fun l18 ss n18 hperm hsort => ?_⟩
    have u18 := same_upd (o := .lst (ss.map V.str)) n18
    have hsl : ss.length ≤ 5 := by rw [hperm.length_eq, List.length_map]; omega
    have hdn18 : (upd H17 l18 (.lst (ss.map V.str))) dn = some (.dK (keysS kv)) := u18 _ _ hdn
    refine ⟨l18, rfl, ⟨_, SqL.of upd_same⟩, comp_list0 (K := K) (a := l18) (xs := ss.map V.str) (fun i ys σ' H2 => ∃ (o : Option V) (rs : List (Str × Str)), σ' = [o, some (.ref dn)] ∧ Same (upd H17 l18 (.lst (ss.map V.str))) H2 ∧ DwAll K H2 (rs.map rowP) ys ∧ rs.map (·.1) = ss.take i ∧ i ≤ ss.length ∧ ∀ r ∈ rs, labelB r.1 = true ∧ lineB r.2 = true)
      ⟨none, [], rfl, Same.refl _, rfl, rfl, Nat.zero_le _, fun r hr => nomatch hr⟩ (le_line (by rw [List.length_map]; omega)) ?_ ?_ ?_⟩
    · rintro i ys σ' H2 hi ⟨o, rs, rfl, e2, hys, er, il, _⟩
      refine ⟨SqL.of (e2 _ _ upd_same), ?_⟩
      have := congrArg List.length er
      rw [List.length_map, List.length_take] at this
      rw [hys.length, List.length_map]; omega
    · rintro i x ys σ' H2 hi ⟨o, rs, rfl, e2, hys, er, il, rok⟩
      rw [List.getElem?_map] at hi
      cases q : ss[i]? with
      | none => rw [q] at hi; cases hi
      | some lab =>
        rw [q] at hi
        have hi : V.str lab = x := Option.some.inj hi
        subst hi
        obtain ⟨yv, g1, g2, g3⟩ := get_kv hkv (hperm.mem_iff.mp (List.mem_of_getElem? q))
        have dg : DGet H2 dn (.str lab) (some (.str yv)) := by
          have e := DGet.k (k := (Sum.inr lab : Key)) (e2 _ _ hdn18)
          rw [g1] at e
          exact e
        have hil : i < ss.length := (List.getElem?_eq_some_iff.mp q).1
        refine ⟨_, rfl, _, rfl, _, rfl, dn, .str yv, rfl, dg, lineN 2, fun qa na => ?_⟩
        refine ⟨_, rs ++ [(lab, yv)], rfl, e2.trans (same_upd na), ?_, ?_, hil, mem_snoc rok ⟨g3, g2⟩⟩
        · rw [List.map_append]
          exact L2.DwAll.append (DwAll.same (same_upd na) _ _ hys) ⟨.ref qa, [], rfl, ⟨qa, _, rfl, SqT.of upd_same, .str lab, [.str yv], rfl, rfl, .str yv, [], rfl, rfl, rfl⟩, rfl⟩
        · rw [List.map_append, er, List.take_add_one, q]; rfl
    rintro ys σ' H19 ⟨o, rs, rfl, e19, hys, er, _, rok⟩ p19 n19
    rw [List.length_map, List.take_length] at er
    have g : GoodRows rs := ⟨by have := congrArg List.length er; rw [List.length_map] at this; omega, fun r hr => (rok r hr).1, fun r hr => (rok r hr).2, by
      rw [er]
      exact rise_iff.mpr ⟨sorted_pw hsort, hperm.nodup_iff.mpr hkv.2⟩⟩
    refine ⟨p19, _, rfl, .inl ⟨SqL.of upd_same, fun tr nr => ?_⟩⟩
    have u19 := (same_upd (o := .lst ys) n19).trans (same_upd (o := .tup ys) nr)
    have t19 := t17.trans (u18.trans (e19.trans u19))
    have hl19 := (u18.trans (e19.trans u19)).tupS hl17
    have hr19 : Dw K (upd (upd H19 p19 (.lst ys)) tr (.tup ys)) (.tuple (rs.map rowP)) (.ref tr) := ⟨tr, ys, rfl, SqT.of upd_same, DwAll.same u19 _ _ hys⟩
    show tSeq _ _ _ _ (upd (upd H19 p19 (.lst ys)) tr (.tup ys))
    generalize upd (upd H19 p19 (.lst ys)) tr (.tup ys) = H20 at t19 hl19 hr19
    -- parents
    refine ⟨lineN 3, fun q20 n20 => ⟨_, rfl, a, ns, 6, rfl, (t19.trans (same_upd n20)).seq ha, by decide, fun i6 => ⟨_, _, rfl, rfl, (by show (0 : Int) < 3; decide), _, rfl, q20, _, rfl, SqT.of upd_same, fun v21 H21 hv21 => ?_⟩⟩⟩
    obtain ⟨q21, rfl, s21, hq21⟩ := cut_any (SqT.of upd_same) hv21
    refine ⟨_, rfl, q21, _, rfl, hq21, fun v22 H22 hv22 => ?_⟩
    obtain ⟨q22, rfl, s22, hq22⟩ := cut_any hq21 hv22
    have t22 := (t19.trans (same_upd n20)).trans (s21.trans s22)
    have c22 := (same_upd (o := .tup [V.str "N1.0", V.str "N1.1", V.str "N2.0"]) n20).trans (s21.trans s22)
    obtain ⟨j6, hj6, j6l⟩ : ∃ j : Nat, i6 % 3 = j ∧ j < 3 := ⟨(i6 % 3).toNat, by omega, by omega⟩
    have hpar : cutV (cutV [V.str "N1.0", V.str "N1.1", V.str "N2.0"] (some (i6 % 3)) none) none (some 2) = (parL j6).map V.str := by
      rw [cut_to (by decide), hj6, cut_from (by omega), Int.toNat_natCast]
      show _ = (((["N1.0", "N1.1", "N2.0"] : List Str).drop j6).take 2).map V.str
      rw [List.map_take, List.map_drop]; rfl
    rw [hpar] at hq22
    obtain ⟨pp1, pp2, pp3, pp4⟩ := parL_ok ⟨j6, j6l⟩
    have hl22 := c22.tupS hl19
    have hr22 := Dw.same c22 _ _ hr19
    have ysl := Txt.slice_le y none (some 20)
    have ysT := cut_all hy none (some 20)
    -- the three things
    refine ⟨_, rfl, lineN 2, fun q1 m1 => ⟨_, rfl, lineN 2, fun q2 m2 => ⟨_, rfl, _, rfl, _, rfl, y, rfl, le_line (by omega), lineN 4, fun q3 m3 => ⟨lineN 3, fun q4 m4 => ?_⟩⟩⟩⟩
    have w1 := same_upd (o := .tup [V.str "leaf", V.ref tl]) m1
    have w2 := same_upd (o := .tup [V.str "tree", V.ref tr]) m2
    have w3 := same_upd (o := .tup [V.str "note", V.str "T1.0", V.ref q22, V.str (Txt.slice y none (some 20))]) m3
    have w4 := same_upd (o := .lst [V.ref q1, V.ref q2, V.ref q3]) m4
    have w34 := w3.trans w4
    have w24 := w2.trans w34
    have w14 := w1.trans w24
    have hq1 : upd (upd (upd (upd H22 q1 (.tup [V.str "leaf", V.ref tl])) q2 (.tup [V.str "tree", V.ref tr])) q3 (.tup [V.str "note", V.str "T1.0", V.ref q22, V.str (Txt.slice y none (some 20))])) q4 (.lst [V.ref q1, V.ref q2, V.ref q3]) q1 = some (.tup [V.str "leaf", V.ref tl]) := w24 _ _ upd_same
    have hq2 : upd (upd (upd (upd H22 q1 (.tup [V.str "leaf", V.ref tl])) q2 (.tup [V.str "tree", V.ref tr])) q3 (.tup [V.str "note", V.str "T1.0", V.ref q22, V.str (Txt.slice y none (some 20))])) q4 (.lst [V.ref q1, V.ref q2, V.ref q3]) q2 = some (.tup [V.str "tree", V.ref tr]) := w34 _ _ upd_same
    have hq3 : upd (upd (upd (upd H22 q1 (.tup [V.str "leaf", V.ref tl])) q2 (.tup [V.str "tree", V.ref tr])) q3 (.tup [V.str "note", V.str "T1.0", V.ref q22, V.str (Txt.slice y none (some 20))])) q4 (.lst [V.ref q1, V.ref q2, V.ref q3]) q3 = some (.tup [V.str "note", V.str "T1.0", V.ref q22, V.str (Txt.slice y none (some 20))]) := w4 _ _ upd_same
    have hq4 : upd (upd (upd (upd H22 q1 (.tup [V.str "leaf", V.ref tl])) q2 (.tup [V.str "tree", V.ref tr])) q3 (.tup [V.str "note", V.str "T1.0", V.ref q22, V.str (Txt.slice y none (some 20))])) q4 (.lst [V.ref q1, V.ref q2, V.ref q3]) q4 = some (.lst [V.ref q1, V.ref q2, V.ref q3]) := upd_same
    have t24 := t22.trans w14
    have hl24 := w14.tupS hl22
    have hr24 := Dw.same w14 _ _ hr22
    have hp24 := w14.tupS hq22
    generalize upd (upd (upd (upd H22 q1 (.tup [V.str "leaf", V.ref tl])) q2 (.tup [V.str "tree", V.ref tr])) q3 (.tup [V.str "note", V.str "T1.0", V.ref q22, V.str (Txt.slice y none (some 20))])) q4 (.lst [V.ref q1, V.ref q2, V.ref q3]) = H24 at hq1 hq2 hq3 hq4 t24 hl24 hr24 hp24 ⊢
    refine ⟨q4, rfl, ⟨_, SqL.of hq4⟩, for_list (K := K) (a := q4) (xs := [V.ref q1, V.ref q2, V.ref q3]) (fun i σ' H2 => ∃ (o7 o10 : Option V), σ' = [some (.ref a), some (.str y), some (.str z), some (.ref tl), some (.int n), some v, some (.ref dn), o7, some (.ref tr), some (.ref q22), o10] ∧ Same H24 H2)
      ⟨_, none, rfl, Same.refl _⟩ (fun i σ' H2 _ ⟨_, _, _, e⟩ => SqL.of (e _ _ hq4)) ?_ ?_⟩
    · rintro i x σ' H2 hi ⟨o7, o10, rfl, e2⟩
      refine ⟨_, rfl, _, rfl, y, rfl, le_line (by omega), _, rfl, ysT, by omega, _, rfl, ?_⟩
      cases ql : lineB (Txt.slice y none (some 20)) with
      | false => exact iteF ⟨_, _, rfl, e2⟩
      | true =>
        refine iteT ?_
        have th : ∃ d, GoodT d ∧ Dw K H2 d x := by
          match i, hi with
          | 0, hi =>
            cases hi
            exact ⟨_, good_leaf lok ll, q1, _, rfl, SqT.of (e2 _ _ hq1), _, _, rfl, rfl, _, _, rfl, Dw.lines (e2.tupS hl24), rfl⟩
          | 1, hi =>
            cases hi
            exact ⟨_, good_tree g, q2, _, rfl, SqT.of (e2 _ _ hq2), _, _, rfl, rfl, _, _, rfl, Dw.same e2 _ _ hr24, rfl⟩
          | 2, hi =>
            cases hi
            exact ⟨_, good_note pp1 pp2 pp3 pp4 ql, q3, _, rfl, SqT.of (e2 _ _ hq3), _, _, rfl, rfl, _, _, rfl, rfl, _, _, rfl, Dw.lines (e2.tupS hp24), _, _, rfl, rfl, rfl⟩
          | j + 3, hi => simp at hi
        obtain ⟨d', gd, hd'⟩ := th
        refine ⟨_, rfl, d', x, rfl, hd', gd.small, narrow_of gd.narrow, fun _ H3 s3 => ?_, fun hf => ?_⟩
        · have dt := Dw.dt d' x (dictFree_of d' gd.only) (Dw.same s3 _ _ hd')
          refine ⟨_, rfl, d', d', dt, dt, gd.shaped, gd.shaped, _, rfl, ?_⟩
          rw [eqv_self d' gd.only]
          exact iteF ⟨_, _, rfl, e2.trans s3⟩
        · rw [gd.thing] at hf; cases hf
    rintro σ' H25 ⟨o7, o10, rfl, e25⟩
    have t25 := t24.trans e25
    exact ⟨_, rfl, a, ns, 7, rfl, t25.seq ha, by decide, fun i7 => ⟨_, rfl, _, rfl, i7, tl, tr, ls, rs, rfl, e25.tupS hl24, ll, lok, Dw.same e25 _ _ hr24, g, fun d' v' H26 s26 hdw' hbad => ⟨d', v', rfl, hdw', hbad.1, narrow_of hbad.2.1, hbad.2.2, k⟩⟩⟩
end g_law
end
end An02

namespace An02
open PySem L2 An
theorem all_mk {l : PySem.W.OpenLaw} {w : World} {K : PySem.W.Frag} {h : Heap} {mg : Str → Option Value} {fa : Addr} {t1 t2 t3 t4 : Tok} {aT aA b1 b2 b3 b4 b5 b6 b7 b8 b9 : Addr} (X : K.In h) (G : h.Ns mainGlobals mg) (hfa : mg "law" = some (.ref fa))
    {f0 : Addr} {od0 an0 : Option Addr} {sl0 : Array (Option Value)} {oc0 kV0 dc0 pm0 cd0 ct0 : Value}
    (a0 : PySem.W.nsIn K mainGlobals "_law_cell_at" = some (some (.ref f0))) (l0 : K.lookup f0 = some ⟨oc0, od0, .func (PySem.W.fnOf "_law_cell_at" "_law_cell_at" (defArgs h_cell.st) (defBody h_cell.st) (defScope h_cell.st) .none kV0 dc0 pm0 an0 cd0 ct0), sl0⟩) (c0 : PySem.W.codeIn K cd0 "_law_cell_at" = true) (k0 : PySem.W.keepIn K (.ref f0) = true)
    {f1 : Addr} {od1 an1 : Option Addr} {sl1 : Array (Option Value)} {oc1 kV1 dc1 pm1 cd1 ct1 : Value}
    (a1 : PySem.W.nsIn K mainGlobals "_law_line_by" = some (some (.ref f1))) (l1 : K.lookup f1 = some ⟨oc1, od1, .func (PySem.W.fnOf "_law_line_by" "_law_line_by" (defArgs h_line.st) (defBody h_line.st) (defScope h_line.st) .none kV1 dc1 pm1 an1 cd1 ct1), sl1⟩) (c1 : PySem.W.codeIn K cd1 "_law_line_by" = true) (k1 : PySem.W.keepIn K (.ref f1) = true)
    {f2 : Addr} {od2 an2 : Option Addr} {sl2 : Array (Option Value)} {oc2 kV2 dc2 pm2 cd2 ct2 : Value}
    (a2 : PySem.W.nsIn K mainGlobals "_law_label_by" = some (some (.ref f2))) (l2 : K.lookup f2 = some ⟨oc2, od2, .func (PySem.W.fnOf "_law_label_by" "_law_label_by" (defArgs h_label.st) (defBody h_label.st) (defScope h_label.st) .none kV2 dc2 pm2 an2 cd2 ct2), sl2⟩) (c2 : PySem.W.codeIn K cd2 "_law_label_by" = true) (k2 : PySem.W.keepIn K (.ref f2) = true)
    {f3 : Addr} {od3 an3 : Option Addr} {sl3 : Array (Option Value)} {oc3 kV3 dc3 pm3 cd3 ct3 : Value}
    (a3 : PySem.W.nsIn K mainGlobals "_law_true" = some (some (.ref f3))) (l3 : K.lookup f3 = some ⟨oc3, od3, .func (PySem.W.fnOf "_law_true" "_law_true" (defArgs h_true.st) (defBody h_true.st) (defScope h_true.st) .none kV3 dc3 pm3 an3 cd3 ct3), sl3⟩) (c3 : PySem.W.codeIn K cd3 "_law_true" = true) (k3 : PySem.W.keepIn K (.ref f3) = true)
    {f4 : Addr} {od4 an4 : Option Addr} {sl4 : Array (Option Value)} {oc4 kV4 dc4 pm4 cd4 ct4 : Value}
    (a4 : PySem.W.nsIn K mainGlobals "_law_sign_by" = some (some (.ref f4))) (l4 : K.lookup f4 = some ⟨oc4, od4, .func (PySem.W.fnOf "_law_sign_by" "_law_sign_by" (defArgs h_sign.st) (defBody h_sign.st) (defScope h_sign.st) .none kV4 dc4 pm4 an4 cd4 ct4), sl4⟩) (c4 : PySem.W.codeIn K cd4 "_law_sign_by" = true) (k4 : PySem.W.keepIn K (.ref f4) = true)
    {f5 : Addr} {od5 an5 : Option Addr} {sl5 : Array (Option Value)} {oc5 kV5 dc5 pm5 cd5 ct5 : Value}
    (a5 : PySem.W.nsIn K mainGlobals "_law_bent" = some (some (.ref f5))) (l5 : K.lookup f5 = some ⟨oc5, od5, .func (PySem.W.fnOf "_law_bent" "_law_bent" (defArgs h_bent.st) (defBody h_bent.st) (defScope h_bent.st) .none kV5 dc5 pm5 an5 cd5 ct5), sl5⟩) (c5 : PySem.W.codeIn K cd5 "_law_bent" = true) (k5 : PySem.W.keepIn K (.ref f5) = true)
    {f6 : Addr} {od6 an6 : Option Addr} {sl6 : Array (Option Value)} {oc6 kV6 dc6 pm6 cd6 ct6 : Value}
    (a6 : PySem.W.nsIn K mainGlobals "_law_line" = some (some (.ref f6))) (l6 : K.lookup f6 = some ⟨oc6, od6, .func (PySem.W.fnOf "_law_line" "_law_line" (defArgs h_lline.st) (defBody h_lline.st) (defScope h_lline.st) .none kV6 dc6 pm6 an6 cd6 ct6), sl6⟩) (c6 : PySem.W.codeIn K cd6 "_law_line" = true) (k6 : PySem.W.keepIn K (.ref f6) = true)
    {f7 : Addr} {od7 an7 : Option Addr} {sl7 : Array (Option Value)} {oc7 kV7 dc7 pm7 cd7 ct7 : Value}
    (a7 : PySem.W.nsIn K mainGlobals "_law_label" = some (some (.ref f7))) (l7 : K.lookup f7 = some ⟨oc7, od7, .func (PySem.W.fnOf "_law_label" "_law_label" (defArgs h_llabel.st) (defBody h_llabel.st) (defScope h_llabel.st) .none kV7 dc7 pm7 an7 cd7 ct7), sl7⟩) (c7 : PySem.W.codeIn K cd7 "_law_label" = true) (k7 : PySem.W.keepIn K (.ref f7) = true)
    {f8 : Addr} {od8 an8 : Option Addr} {sl8 : Array (Option Value)} {oc8 kV8 dc8 pm8 cd8 ct8 : Value}
    (a8 : PySem.W.nsIn K mainGlobals "_law_put" = some (some (.ref f8))) (l8 : K.lookup f8 = some ⟨oc8, od8, .func (PySem.W.fnOf "_law_put" "_law_put" (defArgs h_put.st) (defBody h_put.st) (defScope h_put.st) .none kV8 dc8 pm8 an8 cd8 ct8), sl8⟩) (c8 : PySem.W.codeIn K cd8 "_law_put" = true) (k8 : PySem.W.keepIn K (.ref f8) = true)
    {f9 : Addr} {od9 an9 : Option Addr} {sl9 : Array (Option Value)} {oc9 kV9 dc9 pm9 cd9 ct9 : Value}
    (a9 : PySem.W.nsIn K mainGlobals "_law_wrong_by" = some (some (.ref f9))) (l9 : K.lookup f9 = some ⟨oc9, od9, .func (PySem.W.fnOf "_law_wrong_by" "_law_wrong_by" (defArgs h_wrong.st) (defBody h_wrong.st) (defScope h_wrong.st) .none kV9 dc9 pm9 an9 cd9 ct9), sl9⟩) (c9 : PySem.W.codeIn K cd9 "_law_wrong_by" = true) (k9 : PySem.W.keepIn K (.ref f9) = true)
    {f10 : Addr} {od10 an10 : Option Addr} {sl10 : Array (Option Value)} {oc10 kV10 dc10 pm10 cd10 ct10 : Value}
    (a10 : PySem.W.nsIn K mainGlobals "is_sign" = some (some (.ref f10))) (l10 : K.lookup f10 = some ⟨oc10, od10, .func (PySem.W.fnOf "is_sign" "is_sign" (defArgs f_is_sign.st) (defBody f_is_sign.st) (defScope f_is_sign.st) .none kV10 dc10 pm10 an10 cd10 ct10), sl10⟩) (c10 : PySem.W.codeIn K cd10 "is_sign" = true) (k10 : PySem.W.keepIn K (.ref f10) = true)
    {f11 : Addr} {od11 an11 : Option Addr} {sl11 : Array (Option Value)} {oc11 kV11 dc11 pm11 cd11 ct11 : Value}
    (a11 : PySem.W.nsIn K mainGlobals "is_line" = some (some (.ref f11))) (l11 : K.lookup f11 = some ⟨oc11, od11, .func (PySem.W.fnOf "is_line" "is_line" (defArgs f_is_line.st) (defBody f_is_line.st) (defScope f_is_line.st) .none kV11 dc11 pm11 an11 cd11 ct11), sl11⟩) (c11 : PySem.W.codeIn K cd11 "is_line" = true) (k11 : PySem.W.keepIn K (.ref f11) = true)
    {f12 : Addr} {od12 an12 : Option Addr} {sl12 : Array (Option Value)} {oc12 kV12 dc12 pm12 cd12 ct12 : Value}
    (a12 : PySem.W.nsIn K mainGlobals "is_lines" = some (some (.ref f12))) (l12 : K.lookup f12 = some ⟨oc12, od12, .func (PySem.W.fnOf "is_lines" "is_lines" (defArgs f_is_lines.st) (defBody f_is_lines.st) (defScope f_is_lines.st) .none kV12 dc12 pm12 an12 cd12 ct12), sl12⟩) (c12 : PySem.W.codeIn K cd12 "is_lines" = true) (k12 : PySem.W.keepIn K (.ref f12) = true)
    {f13 : Addr} {od13 an13 : Option Addr} {sl13 : Array (Option Value)} {oc13 kV13 dc13 pm13 cd13 ct13 : Value}
    (a13 : PySem.W.nsIn K mainGlobals "is_leaf" = some (some (.ref f13))) (l13 : K.lookup f13 = some ⟨oc13, od13, .func (PySem.W.fnOf "is_leaf" "is_leaf" (defArgs g_leaf.st) (defBody g_leaf.st) (defScope g_leaf.st) .none kV13 dc13 pm13 an13 cd13 ct13), sl13⟩) (c13 : PySem.W.codeIn K cd13 "is_leaf" = true) (k13 : PySem.W.keepIn K (.ref f13) = true)
    {f14 : Addr} {od14 an14 : Option Addr} {sl14 : Array (Option Value)} {oc14 kV14 dc14 pm14 cd14 ct14 : Value}
    (a14 : PySem.W.nsIn K mainGlobals "is_label" = some (some (.ref f14))) (l14 : K.lookup f14 = some ⟨oc14, od14, .func (PySem.W.fnOf "is_label" "is_label" (defArgs g_label.st) (defBody g_label.st) (defScope g_label.st) .none kV14 dc14 pm14 an14 cd14 ct14), sl14⟩) (c14 : PySem.W.codeIn K cd14 "is_label" = true) (k14 : PySem.W.keepIn K (.ref f14) = true)
    {f15 : Addr} {od15 an15 : Option Addr} {sl15 : Array (Option Value)} {oc15 kV15 dc15 pm15 cd15 ct15 : Value}
    (a15 : PySem.W.nsIn K mainGlobals "is_row" = some (some (.ref f15))) (l15 : K.lookup f15 = some ⟨oc15, od15, .func (PySem.W.fnOf "is_row" "is_row" (defArgs g_row.st) (defBody g_row.st) (defScope g_row.st) .none kV15 dc15 pm15 an15 cd15 ct15), sl15⟩) (c15 : PySem.W.codeIn K cd15 "is_row" = true) (k15 : PySem.W.keepIn K (.ref f15) = true)
    {f16 : Addr} {od16 an16 : Option Addr} {sl16 : Array (Option Value)} {oc16 kV16 dc16 pm16 cd16 ct16 : Value}
    (a16 : PySem.W.nsIn K mainGlobals "is_rows" = some (some (.ref f16))) (l16 : K.lookup f16 = some ⟨oc16, od16, .func (PySem.W.fnOf "is_rows" "is_rows" (defArgs g_rows.st) (defBody g_rows.st) (defScope g_rows.st) .none kV16 dc16 pm16 an16 cd16 ct16), sl16⟩) (c16 : PySem.W.codeIn K cd16 "is_rows" = true) (k16 : PySem.W.keepIn K (.ref f16) = true)
    {f17 : Addr} {od17 an17 : Option Addr} {sl17 : Array (Option Value)} {oc17 kV17 dc17 pm17 cd17 ct17 : Value}
    (a17 : PySem.W.nsIn K mainGlobals "is_tree" = some (some (.ref f17))) (l17 : K.lookup f17 = some ⟨oc17, od17, .func (PySem.W.fnOf "is_tree" "is_tree" (defArgs g_tree.st) (defBody g_tree.st) (defScope g_tree.st) .none kV17 dc17 pm17 an17 cd17 ct17), sl17⟩) (c17 : PySem.W.codeIn K cd17 "is_tree" = true) (k17 : PySem.W.keepIn K (.ref f17) = true)
    {f18 : Addr} {od18 an18 : Option Addr} {sl18 : Array (Option Value)} {oc18 kV18 dc18 pm18 cd18 ct18 : Value}
    (a18 : PySem.W.nsIn K mainGlobals "is_parents" = some (some (.ref f18))) (l18 : K.lookup f18 = some ⟨oc18, od18, .func (PySem.W.fnOf "is_parents" "is_parents" (defArgs g_parents.st) (defBody g_parents.st) (defScope g_parents.st) .none kV18 dc18 pm18 an18 cd18 ct18), sl18⟩) (c18 : PySem.W.codeIn K cd18 "is_parents" = true) (k18 : PySem.W.keepIn K (.ref f18) = true)
    {f19 : Addr} {od19 an19 : Option Addr} {sl19 : Array (Option Value)} {oc19 kV19 dc19 pm19 cd19 ct19 : Value}
    (a19 : PySem.W.nsIn K mainGlobals "is_note" = some (some (.ref f19))) (l19 : K.lookup f19 = some ⟨oc19, od19, .func (PySem.W.fnOf "is_note" "is_note" (defArgs g_note.st) (defBody g_note.st) (defScope g_note.st) .none kV19 dc19 pm19 an19 cd19 ct19), sl19⟩) (c19 : PySem.W.codeIn K cd19 "is_note" = true) (k19 : PySem.W.keepIn K (.ref f19) = true)
    {f20 : Addr} {od20 an20 : Option Addr} {sl20 : Array (Option Value)} {oc20 kV20 dc20 pm20 cd20 ct20 : Value}
    (a20 : PySem.W.nsIn K mainGlobals "is_thing" = some (some (.ref f20))) (l20 : K.lookup f20 = some ⟨oc20, od20, .func (PySem.W.fnOf "is_thing" "is_thing" (defArgs g_thing.st) (defBody g_thing.st) (defScope g_thing.st) .none kV20 dc20 pm20 an20 cd20 ct20), sl20⟩) (c20 : PySem.W.codeIn K cd20 "is_thing" = true) (k20 : PySem.W.keepIn K (.ref f20) = true)
    {f21 : Addr} {od21 an21 : Option Addr} {sl21 : Array (Option Value)} {oc21 kV21 dc21 pm21 cd21 ct21 : Value}
    (a21 : PySem.W.nsIn K mainGlobals "need_thing" = some (some (.ref f21))) (l21 : K.lookup f21 = some ⟨oc21, od21, .func (PySem.W.fnOf "need_thing" "need_thing" (defArgs g_need.st) (defBody g_need.st) (defScope g_need.st) .none kV21 dc21 pm21 an21 cd21 ct21), sl21⟩) (c21 : PySem.W.codeIn K cd21 "need_thing" = true) (k21 : PySem.W.keepIn K (.ref f21) = true)
    {f22 : Addr} {od22 an22 : Option Addr} {sl22 : Array (Option Value)} {oc22 kV22 dc22 pm22 cd22 ct22 : Value}
    (a22 : PySem.W.nsIn K mainGlobals "_law_refused" = some (some (.ref f22))) (l22 : K.lookup f22 = some ⟨oc22, od22, .func (PySem.W.fnOf "_law_refused" "_law_refused" (defArgs h_refused.st) (defBody h_refused.st) (defScope h_refused.st) .none kV22 dc22 pm22 an22 cd22 ct22), sl22⟩) (c22 : PySem.W.codeIn K cd22 "_law_refused" = true) (k22 : PySem.W.keepIn K (.ref f22) = true)
    {f23 : Addr} {od23 an23 : Option Addr} {sl23 : Array (Option Value)} {oc23 kV23 dc23 pm23 cd23 ct23 : Value}
    (a23 : PySem.W.nsIn K mainGlobals "law" = some (some (.ref f23))) (l23 : K.lookup f23 = some ⟨oc23, od23, .func (PySem.W.fnOf "law" "law" (defArgs g_law.st) (defBody g_law.st) (defScope g_law.st) .none kV23 dc23 pm23 an23 cd23 ct23), sl23⟩) (c23 : PySem.W.codeIn K cd23 "law" = true) (k23 : PySem.W.keepIn K (.ref f23) = true)
    (z_len : PySem.W.nsIn K mainGlobals "len" = some none)
    (z_all : PySem.W.nsIn K mainGlobals "all" = some none)
    (z_ord : PySem.W.nsIn K mainGlobals "ord" = some none)
    (z_isinstance : PySem.W.nsIn K mainGlobals "isinstance" = some none)
    (z_str : PySem.W.nsIn K mainGlobals "str" = some none)
    (z_set : PySem.W.nsIn K mainGlobals "set" = some none)
    (z_sorted : PySem.W.nsIn K mainGlobals "sorted" = some none)
    (z_tuple : PySem.W.nsIn K mainGlobals "tuple" = some none)
    (z_LONGEST_LINE : PySem.W.nsIn K mainGlobals "LONGEST_LINE" = some (some (.int 20 t1)))
    (z_LONGEST_LABEL : PySem.W.nsIn K mainGlobals "LONGEST_LABEL" = some (some (.int 8 t2)))
    (z_MOST_PARENTS : PySem.W.nsIn K mainGlobals "MOST_PARENTS" = some (some (.int 2 t3)))
    (z_PERCENT : PySem.W.nsIn K mainGlobals "PERCENT" = some (some (.int 37 t4)))
    (z_list : PySem.W.nsIn K mainGlobals "list" = some none)
    (z_range : PySem.W.nsIn K mainGlobals "range" = some none)
    (z_bool : PySem.W.nsIn K mainGlobals "bool" = some none)
    (z_reversed : PySem.W.nsIn K mainGlobals "reversed" = some none)
    (z_ValueError : PySem.W.nsIn K mainGlobals "ValueError" = some none)
    (z_NoThing : PySem.W.nsIn K mainGlobals "NoThing" = some (some (.ref aT)))
    (z_AnnalsError : PySem.W.nsIn K mainGlobals "AnnalsError" = some (some (.ref aA)))
    (z_NoName : PySem.W.nsIn K mainGlobals "NoName" = some (some (.ref b1)))
    (z_BadPath : PySem.W.nsIn K mainGlobals "BadPath" = some (some (.ref b2)))
    (z_BadLine : PySem.W.nsIn K mainGlobals "BadLine" = some (some (.ref b3)))
    (z_BadFiles : PySem.W.nsIn K mainGlobals "BadFiles" = some (some (.ref b4)))
    (z_NoFit : PySem.W.nsIn K mainGlobals "NoFit" = some (some (.ref b5)))
    (z_Clash : PySem.W.nsIn K mainGlobals "Clash" = some (some (.ref b6)))
    (z_NoBranch : PySem.W.nsIn K mainGlobals "NoBranch" = some (some (.ref b7)))
    (z_BadBranch : PySem.W.nsIn K mainGlobals "BadBranch" = some (some (.ref b8)))
    (z_NoVersion : PySem.W.nsIn K mainGlobals "NoVersion" = some (some (.ref b9)))
    (s_xNoThing : PySem.W.excIn K aT mroVE "ValueError.__new__" = true)
    (s_exm : PySem.W.exmOne K (.ref aT) (.ref aA) = some true)
    (s_ek : PySem.W.ExcKit K aT)
    (s_k1 : PySem.W.kitOne K (.ref aT) (.ref b1) = some false)
    (s_k2 : PySem.W.kitOne K (.ref aT) (.ref b2) = some false)
    (s_k3 : PySem.W.kitOne K (.ref aT) (.ref b3) = some false)
    (s_k4 : PySem.W.kitOne K (.ref aT) (.ref b4) = some false)
    (s_k5 : PySem.W.kitOne K (.ref aT) (.ref b5) = some false)
    (s_k6 : PySem.W.kitOne K (.ref aT) (.ref b6) = some false)
    (s_k7 : PySem.W.kitOne K (.ref aT) (.ref b7) = some false)
    (s_k8 : PySem.W.kitOne K (.ref aT) (.ref b8) = some false)
    (s_k9 : PySem.W.kitOne K (.ref aT) (.ref b9) = some false)
    (s_kT : PySem.W.kitOne K (.ref aT) (.ref aT) = some true)
    (s_kV : PySem.W.kitOne K (.ref aT) (.type "ValueError") = some true)
    (s_kit : ∀ a ∈ kinds, ∀ b ∈ kinds, PySem.W.kitOne K (.type a) (.type b) = some (a == b || (a == "bool" && b == "int"))) :
    ∃ fd : FuncData, (∀ (s : Shared) (v : Value), BindsTo s fd ⟨[v], []⟩ [("_law_script", v)]) ∧ ∀ base : Heap, K.In base → base.Ns mainGlobals mg → FnOk l.prog w K mg base CX0 8 fa fd ["_law_script"] (spLaw K) := by
  have e := hfa.symm.trans (PySem.W.mg_of X G a23)
  cases e
  have T : Txt K mg t1 t2 t3 t4 aT aA b1 b2 b3 b4 b5 b6 b7 b8 b9 := ⟨PySem.W.mg_none_of X G z_len, PySem.W.mg_none_of X G z_all, PySem.W.mg_none_of X G z_ord, PySem.W.mg_none_of X G z_isinstance, PySem.W.mg_none_of X G z_str, PySem.W.mg_none_of X G z_set, PySem.W.mg_none_of X G z_sorted, PySem.W.mg_none_of X G z_tuple, PySem.W.mg_of X G z_LONGEST_LINE, PySem.W.mg_of X G z_LONGEST_LABEL, PySem.W.mg_of X G z_MOST_PARENTS, PySem.W.mg_of X G z_PERCENT, PySem.W.mg_none_of X G z_list, PySem.W.mg_none_of X G z_range, PySem.W.mg_none_of X G z_bool, PySem.W.mg_none_of X G z_reversed, PySem.W.mg_none_of X G z_ValueError, PySem.W.mg_of X G z_NoThing, PySem.W.mg_of X G z_AnnalsError, PySem.W.mg_of X G z_NoName, PySem.W.mg_of X G z_BadPath, PySem.W.mg_of X G z_BadLine, PySem.W.mg_of X G z_BadFiles, PySem.W.mg_of X G z_NoFit, PySem.W.mg_of X G z_Clash, PySem.W.mg_of X G z_NoBranch, PySem.W.mg_of X G z_BadBranch, PySem.W.mg_of X G z_NoVersion, s_xNoThing, s_exm, s_ek, s_k1, s_k2, s_k3, s_k4, s_k5, s_k6, s_k7, s_k8, s_k9, s_kT, s_kV, s_kit⟩
  have F0 := fun_mk (st := h_cell.st) l0 c0 k0
  have b0 := F0.binds (ps := ["_law_script", "_law_k"]) fun _ _ _ _ _ _ us hl => match us, hl with | [_, _], _ => rfl
  have F1 := fun_mk (st := h_line.st) l1 c1 k1
  have b1 := F1.binds (ps := ["_law_cell"]) fun _ _ _ _ _ _ us hl => match us, hl with | [_], _ => rfl
  have F2 := fun_mk (st := h_label.st) l2 c2 k2
  have b2 := F2.binds (ps := ["_law_cell"]) fun _ _ _ _ _ _ us hl => match us, hl with | [_], _ => rfl
  have F3 := fun_mk (st := h_true.st) l3 c3 k3
  have b3 := F3.binds (ps := ["_law_found", "_law_due"]) fun _ _ _ _ _ _ us hl => match us, hl with | [_, _], _ => rfl
  have F4 := fun_mk (st := h_sign.st) l4 c4 k4
  have b4 := F4.binds (ps := ["_law_cell"]) fun _ _ _ _ _ _ us hl => match us, hl with | [_], _ => rfl
  have F5 := fun_mk (st := h_bent.st) l5 c5 k5
  have b5 := F5.binds (ps := ["_law_text", "_law_cell"]) fun _ _ _ _ _ _ us hl => match us, hl with | [_, _], _ => rfl
  have F6 := fun_mk (st := h_lline.st) l6 c6 k6
  have b6 := F6.binds (ps := ["_law_text"]) fun _ _ _ _ _ _ us hl => match us, hl with | [_], _ => rfl
  have F7 := fun_mk (st := h_llabel.st) l7 c7 k7
  have b7 := F7.binds (ps := ["_law_text"]) fun _ _ _ _ _ _ us hl => match us, hl with | [_], _ => rfl
  have F8 := fun_mk (st := h_put.st) l8 c8 k8
  have b8 := F8.binds (ps := ["_law_row", "_law_at", "_law_part"]) fun _ _ _ _ _ _ us hl => match us, hl with | [_, _, _], _ => rfl
  have F9 := fun_mk (st := h_wrong.st) l9 c9 k9
  have b9 := F9.binds (ps := ["_law_cell", "_law_lines", "_law_rows"]) fun _ _ _ _ _ _ us hl => match us, hl with | [_, _, _], _ => rfl
  have F10 := fun_mk (st := f_is_sign.st) l10 c10 k10
  have b10 := F10.binds (ps := ["sign"]) fun _ _ _ _ _ _ us hl => match us, hl with | [_], _ => rfl
  have F11 := fun_mk (st := f_is_line.st) l11 c11 k11
  have b11 := F11.binds (ps := ["thing"]) fun _ _ _ _ _ _ us hl => match us, hl with | [_], _ => rfl
  have F12 := fun_mk (st := f_is_lines.st) l12 c12 k12
  have b12 := F12.binds (ps := ["thing"]) fun _ _ _ _ _ _ us hl => match us, hl with | [_], _ => rfl
  have F13 := fun_mk (st := g_leaf.st) l13 c13 k13
  have b13 := F13.binds (ps := ["word", "parts"]) fun _ _ _ _ _ _ us hl => match us, hl with | [_, _], _ => rfl
  have F14 := fun_mk (st := g_label.st) l14 c14 k14
  have b14 := F14.binds (ps := ["thing"]) fun _ _ _ _ _ _ us hl => match us, hl with | [_], _ => rfl
  have F15 := fun_mk (st := g_row.st) l15 c15 k15
  have b15 := F15.binds (ps := ["thing"]) fun _ _ _ _ _ _ us hl => match us, hl with | [_], _ => rfl
  have F16 := fun_mk (st := g_rows.st) l16 c16 k16
  have b16 := F16.binds (ps := ["thing"]) fun _ _ _ _ _ _ us hl => match us, hl with | [_], _ => rfl
  have F17 := fun_mk (st := g_tree.st) l17 c17 k17
  have b17 := F17.binds (ps := ["word", "parts"]) fun _ _ _ _ _ _ us hl => match us, hl with | [_, _], _ => rfl
  have F18 := fun_mk (st := g_parents.st) l18 c18 k18
  have b18 := F18.binds (ps := ["thing"]) fun _ _ _ _ _ _ us hl => match us, hl with | [_], _ => rfl
  have F19 := fun_mk (st := g_note.st) l19 c19 k19
  have b19 := F19.binds (ps := ["word", "parts"]) fun _ _ _ _ _ _ us hl => match us, hl with | [_, _], _ => rfl
  have F20 := fun_mk (st := g_thing.st) l20 c20 k20
  have b20 := F20.binds (ps := ["thing"]) fun _ _ _ _ _ _ us hl => match us, hl with | [_], _ => rfl
  have F21 := fun_mk (st := g_need.st) l21 c21 k21
  have b21 := F21.binds (ps := ["thing"]) fun _ _ _ _ _ _ us hl => match us, hl with | [_], _ => rfl
  have F22 := fun_mk (st := h_refused.st) l22 c22 k22
  have b22 := F22.binds (ps := ["_law_thing"]) fun _ _ _ _ _ _ us hl => match us, hl with | [_], _ => rfl
  have F23 := fun_mk (st := g_law.st) l23 c23 k23
  have b23 := F23.binds (ps := ["_law_script"]) fun _ _ _ _ _ _ us hl => match us, hl with | [_], _ => rfl
  refine ⟨PySem.W.fnOf "law" "law" (defArgs g_law.st) (defBody g_law.st) (defScope g_law.st) .none kV23 dc23 pm23 an23 cd23 ct23, fun s v => .of_eq rfl, fun base _ _ => ?_⟩
  have C0 := Cal.mk' F0 (h_cell.ok (P := l.prog) (w := w) (base := base) F0 T ) (PySem.W.mg_of X G a0) b0
  have C1 := Cal.mk' F1 (h_line.ok (P := l.prog) (w := w) (base := base) F1 T ) (PySem.W.mg_of X G a1) b1
  have C2 := Cal.mk' F2 (h_label.ok (P := l.prog) (w := w) (base := base) F2 T ) (PySem.W.mg_of X G a2) b2
  have C3 := Cal.mk' F3 (h_true.ok (P := l.prog) (w := w) (base := base) F3 T ) (PySem.W.mg_of X G a3) b3
  have C4 := Cal.mk' F4 (h_sign.ok (P := l.prog) (w := w) (base := base) F4 T ) (PySem.W.mg_of X G a4) b4
  have C5 := Cal.mk' F5 (h_bent.ok (P := l.prog) (w := w) (base := base) F5 T C4) (PySem.W.mg_of X G a5) b5
  have C6 := Cal.mk' F6 (h_lline.ok (P := l.prog) (w := w) (base := base) F6 T ) (PySem.W.mg_of X G a6) b6
  have C7 := Cal.mk' F7 (h_llabel.ok (P := l.prog) (w := w) (base := base) F7 T ) (PySem.W.mg_of X G a7) b7
  have C8 := Cal.mk' F8 (h_put.ok (P := l.prog) (w := w) (base := base) F8 T ) (PySem.W.mg_of X G a8) b8
  have C9 := Cal.mk' F9 (h_wrong.ok (P := l.prog) (w := w) (base := base) F9 T C8) (PySem.W.mg_of X G a9) b9
  have C10 := Cal.mk' F10 (f_is_sign.ok (P := l.prog) (w := w) (base := base) F10 T ) (PySem.W.mg_of X G a10) b10
  have C11 := Cal.mk' F11 (f_is_line.ok (P := l.prog) (w := w) (base := base) F11 T C10) (PySem.W.mg_of X G a11) b11
  have C12 := Cal.mk' F12 (f_is_lines.ok (P := l.prog) (w := w) (base := base) F12 T C11) (PySem.W.mg_of X G a12) b12
  have C13 := Cal.mk' F13 (g_leaf.ok (P := l.prog) (w := w) (base := base) F13 T C12) (PySem.W.mg_of X G a13) b13
  have C14 := Cal.mk' F14 (g_label.ok (P := l.prog) (w := w) (base := base) F14 T ) (PySem.W.mg_of X G a14) b14
  have C15 := Cal.mk' F15 (g_row.ok (P := l.prog) (w := w) (base := base) F15 T C14) (PySem.W.mg_of X G a15) b15
  have C16 := Cal.mk' F16 (g_rows.ok (P := l.prog) (w := w) (base := base) F16 T C15) (PySem.W.mg_of X G a16) b16
  have C17 := Cal.mk' F17 (g_tree.ok (P := l.prog) (w := w) (base := base) F17 T C16) (PySem.W.mg_of X G a17) b17
  have C18 := Cal.mk' F18 (g_parents.ok (P := l.prog) (w := w) (base := base) F18 T ) (PySem.W.mg_of X G a18) b18
  have C19 := Cal.mk' F19 (g_note.ok (P := l.prog) (w := w) (base := base) F19 T C18 C11) (PySem.W.mg_of X G a19) b19
  have C20 := Cal.mk' F20 (g_thing.ok (P := l.prog) (w := w) (base := base) F20 T C13 C17 C19) (PySem.W.mg_of X G a20) b20
  have C21 := CalX.mk' F21 (g_need.ok (P := l.prog) (w := w) (base := base) F21 T C20) (PySem.W.mg_of X G a21) b21
  have C22 := Cal.mk' F22 (h_refused.ok (P := l.prog) (w := w) (base := base) F22 T C21) (PySem.W.mg_of X G a22) b22
  exact g_law.ok F23 T C0 C1 C2 C3 C5 C6 C7 C8 C9 C22 C11 C12 C14 C21
theorem walk {l : PySem.W.OpenLaw} {q : Program} {loose : List Str} {XP : (Str → Option Value) → Heap → Prop} {YP : World → Heap → Prop} {d : DefRec} {K : Params → PySem.W.Frag} (hn : l.most = some 63) (hdf : d.params.defaults = [])
    (hY : ∀ (w : World) (h : Heap), YP w h → (K w.params).In h)
    (F : ∀ (w : World) (mg : Str → Option Value) (fa : Addr) (h : Heap), (K w.params).In h → h.Ns mainGlobals mg → mg d.name = some (.ref fa) →
      ∃ fd : FuncData, (∀ (s : Shared) (u : Value), BindsTo s fd ⟨[u], []⟩ [("_law_script", u)]) ∧ ∀ base : Heap, (K w.params).In base → base.Ns mainGlobals mg → FnOk l.prog w (K w.params) mg base CX0 8 fa fd ["_law_script"] (spLaw (K w.params))) :
    PySem.W.WalkO q loose XP YP l.row.toRowW d [] (fun f vs => PySem.call f vs) :=
  L2.walk_of (n := 63) (k := 8) (x := "_law_script") (CX := fun _ => CX0) (sp := fun w => spLaw (K w.params)) hn (by decide) hdf ⟨rfl, by decide, by decide⟩ hY F (fun _ _ a ns hl _ hS => ⟨a, ns, rfl, hS, fun _ => rfl⟩) fun _ _ _ _ _ z => z
end An02
open PySem PySem.W PyProof.Rows
set_option maxRecDepth 100000 in
set_option maxHeartbeats 0 in
theorem PySem.Challenge.cw_annals_k02_things_or_not_holds : PySem.Challenge.rw_annals_k02_things_or_not.Holds := by
  w_on; o_law; k_head; (case hw => w_witness2)
  k_fill
  refine An02.walk (l := PySem.Challenge.rw_annals_k02_things_or_not) rfl rfl (fun w h Y => PySem.W.kIn_of Y) ?F
  case F =>
    intro w mg fa h KX G hmg
    refine' An02.all_mk KX G hmg ?a0 ?l0 ?c0 ?k0 ?a1 ?l1 ?c1 ?k1 ?a2 ?l2 ?c2 ?k2 ?a3 ?l3 ?c3 ?k3 ?a4 ?l4 ?c4 ?k4 ?a5 ?l5 ?c5 ?k5 ?a6 ?l6 ?c6 ?k6 ?a7 ?l7 ?c7 ?k7 ?a8 ?l8 ?c8 ?k8 ?a9 ?l9 ?c9 ?k9 ?a10 ?l10 ?c10 ?k10 ?a11 ?l11 ?c11 ?k11 ?a12 ?l12 ?c12 ?k12 ?a13 ?l13 ?c13 ?k13 ?a14 ?l14 ?c14 ?k14 ?a15 ?l15 ?c15 ?k15 ?a16 ?l16 ?c16 ?k16 ?a17 ?l17 ?c17 ?k17 ?a18 ?l18 ?c18 ?k18 ?a19 ?l19 ?c19 ?k19 ?a20 ?l20 ?c20 ?k20 ?a21 ?l21 ?c21 ?k21 ?a22 ?l22 ?c22 ?k22 ?a23 ?l23 ?c23 ?k23 ?z_len ?z_all ?z_ord ?z_isinstance ?z_str ?z_set ?z_sorted ?z_tuple ?z_LONGEST_LINE ?z_LONGEST_LABEL ?z_MOST_PARENTS ?z_PERCENT ?z_list ?z_range ?z_bool ?z_reversed ?z_ValueError ?z_NoThing ?z_AnnalsError ?z_NoName ?z_BadPath ?z_BadLine ?z_BadFiles ?z_NoFit ?z_Clash ?z_NoBranch ?z_BadBranch ?z_NoVersion ?s_xNoThing ?s_exm ?s_ek ?s_k1 ?s_k2 ?s_k3 ?s_k4 ?s_k5 ?s_k6 ?s_k7 ?s_k8 ?s_k9 ?s_kT ?s_kV ?s_kit
    (case a0 => k_is); (case l0 => k_is); (case c0 => k_is); (case k0 => k_is); (case a1 => k_is); (case l1 => k_is); (case c1 => k_is); (case k1 => k_is)
    (case a2 => k_is); (case l2 => k_is); (case c2 => k_is); (case k2 => k_is); (case a3 => k_is); (case l3 => k_is); (case c3 => k_is); (case k3 => k_is)
    (case a4 => k_is); (case l4 => k_is); (case c4 => k_is); (case k4 => k_is); (case a5 => k_is); (case l5 => k_is); (case c5 => k_is); (case k5 => k_is)
    (case a6 => k_is); (case l6 => k_is); (case c6 => k_is); (case k6 => k_is); (case a7 => k_is); (case l7 => k_is); (case c7 => k_is); (case k7 => k_is)
    (case a8 => k_is); (case l8 => k_is); (case c8 => k_is); (case k8 => k_is); (case a9 => k_is); (case l9 => k_is); (case c9 => k_is); (case k9 => k_is)
    (case a10 => k_is); (case l10 => k_is); (case c10 => k_is); (case k10 => k_is); (case a11 => k_is); (case l11 => k_is); (case c11 => k_is); (case k11 => k_is)
    (case a12 => k_is); (case l12 => k_is); (case c12 => k_is); (case k12 => k_is); (case a13 => k_is); (case l13 => k_is); (case c13 => k_is); (case k13 => k_is)
    (case a14 => k_is); (case l14 => k_is); (case c14 => k_is); (case k14 => k_is); (case a15 => k_is); (case l15 => k_is); (case c15 => k_is); (case k15 => k_is)
    (case a16 => k_is); (case l16 => k_is); (case c16 => k_is); (case k16 => k_is); (case a17 => k_is); (case l17 => k_is); (case c17 => k_is); (case k17 => k_is)
    (case a18 => k_is); (case l18 => k_is); (case c18 => k_is); (case k18 => k_is); (case a19 => k_is); (case l19 => k_is); (case c19 => k_is); (case k19 => k_is)
    (case a20 => k_is); (case l20 => k_is); (case c20 => k_is); (case k20 => k_is); (case a21 => k_is); (case l21 => k_is); (case c21 => k_is); (case k21 => k_is)
    (case a22 => k_is); (case l22 => k_is); (case c22 => k_is); (case k22 => k_is); (case a23 => k_is); (case l23 => k_is); (case c23 => k_is); (case k23 => k_is)
    (case z_len => k_is); (case z_all => k_is); (case z_ord => k_is); (case z_isinstance => k_is); (case z_str => k_is); (case z_set => k_is); (case z_sorted => k_is); (case z_tuple => k_is)
    (case z_LONGEST_LINE => k_is); (case z_LONGEST_LABEL => k_is); (case z_MOST_PARENTS => k_is); (case z_PERCENT => k_is); (case z_list => k_is); (case z_range => k_is); (case z_bool => k_is); (case z_reversed => k_is)
    (case z_ValueError => k_is); (case z_NoThing => k_is); (case z_AnnalsError => k_is); (case z_NoName => k_is); (case z_BadPath => k_is); (case z_BadLine => k_is); (case z_BadFiles => k_is); (case z_NoFit => k_is)
    (case z_Clash => k_is); (case z_NoBranch => k_is); (case z_BadBranch => k_is); (case z_NoVersion => k_is); (case s_xNoThing => first | k_is | kernel_rfl | rfl | (with_unfolding_all rfl) | decide +kernel +revert); (case s_exm => first | k_is | kernel_rfl | rfl | (with_unfolding_all rfl) | decide +kernel +revert); (case s_ek => (constructor <;> first | k_is | kernel_rfl | rfl | (with_unfolding_all rfl) | decide +kernel +revert)); (case s_k1 => first | k_is | kernel_rfl | rfl | (with_unfolding_all rfl) | decide +kernel +revert)
    (case s_k2 => first | k_is | kernel_rfl | rfl | (with_unfolding_all rfl) | decide +kernel +revert); (case s_k3 => first | k_is | kernel_rfl | rfl | (with_unfolding_all rfl) | decide +kernel +revert); (case s_k4 => first | k_is | kernel_rfl | rfl | (with_unfolding_all rfl) | decide +kernel +revert); (case s_k5 => first | k_is | kernel_rfl | rfl | (with_unfolding_all rfl) | decide +kernel +revert); (case s_k6 => first | k_is | kernel_rfl | rfl | (with_unfolding_all rfl) | decide +kernel +revert); (case s_k7 => first | k_is | kernel_rfl | rfl | (with_unfolding_all rfl) | decide +kernel +revert); (case s_k8 => first | k_is | kernel_rfl | rfl | (with_unfolding_all rfl) | decide +kernel +revert); (case s_k9 => first | k_is | kernel_rfl | rfl | (with_unfolding_all rfl) | decide +kernel +revert)
    (case s_kT => first | k_is | kernel_rfl | rfl | (with_unfolding_all rfl) | decide +kernel +revert); (case s_kV => first | k_is | kernel_rfl | rfl | (with_unfolding_all rfl) | decide +kernel +revert); (case s_kit => (intro a ha b hb; simp only [An02.kinds, List.mem_cons, List.not_mem_nil, or_false] at ha hb; rcases ha with rfl | rfl | rfl | rfl | rfl | rfl | rfl <;> rcases hb with rfl | rfl | rfl | rfl | rfl | rfl | rfl <;> rfl))
