import PyProof.Rows.All
import Wide.All
import OpenK.AllK
import Wide.FinOn
import Lean
import PyProof.EqAt
import PyProof.EqKinds
import PyProof.TupleCall
import KE.LcSums
import PyProof.FString5
import PyProof.StrLawsChain
import PyProof.StrLawsTight
import KE.KTryMore
import PyProof.StationsW
import PyProof.Rows.Range3
import KE.KRevIter
import PyProof.StrBlock2
import PyProof.P3In
import PyProof.Rows.SumAny
import PyProof.DictIter
import PyProof.DictWalks
import PyProof.DictItems
import KE.KDictList
import KE.KPairComp
import KE.KEqDict
import PyProof.StrBlockG
import PyProof.FactsAll.dict_1
import PyProof.ExcArgsOwn
import PyProof.ExcAttrAll.ValueError
import KE.KIsAll
import PyProof.StrLawsIn
import PySem.Challenge.RW_annals_k05_paths
-- CHANGE: your row's module here, as the last of these rows
set_option Elab.async false
set_option linter.all false
set_option maxRecDepth 100000
/-! THE HAND LAYER, for ints, bools, texts, own classes, LISTS and tuples (index, slices, in, append, pop ..), calls, loops. Paste it whole ahead of your own text; what your proof does not reach may be deleted. -/
namespace L2
open PySem PySem.Spec PyProof.Rows

/-- a key: an int or a str -/
abbrev Key := Sum Int Str
def keyIs : Key → Value → Bool
  | .inl k, v => Value.isInt k v
  | .inr x, v => Value.isStrOf x v
def keyH (w : World) : Key → Int
  | .inl k => hashInt k
  | .inr x => hashStr w x
theorem keyIs_shape : ∀ {k : Key} {v : Value}, keyIs k v = true → (∃ i t, k = Sum.inl i ∧ v = Value.int i t) ∨ (∃ x t, k = Sum.inr x ∧ v = Value.str x t)
  | .inl i, v, h => by
    obtain ⟨t, e⟩ := Value.isInt_shape (k := i) (v := v) h
    exact .inl ⟨i, t, rfl, e⟩
  | .inr x, v, h => by
    obtain ⟨t, e⟩ := Value.isStrOf_shape (x := x) (v := v) h
    exact .inr ⟨x, t, rfl, e⟩
theorem keyIs_int (i : Int) (t : Tok) : keyIs (.inl i) (.int i t) = true := by simp [keyIs, Value.isInt]
theorem keyIs_str (x : Str) (t : Tok) : keyIs (.inr x) (.str x t) = true := by simp [keyIs, Value.isStrOf]
theorem key_ll (a b : Int) : decide ((Sum.inl a : Key) = Sum.inl b) = (a == b) := by
  by_cases e : a = b
  · subst e; simp
  · have h : ¬ (Sum.inl a : Key) = Sum.inl b := fun q => e (Sum.inl.inj q)
    rw [decide_eq_false h]
    exact (beq_eq_false_iff_ne.mpr e).symm
theorem key_rr (a b : Str) : decide ((Sum.inr a : Key) = Sum.inr b) = decide (a = b) := by
  by_cases e : a = b
  · subst e; simp
  · have h : ¬ (Sum.inr a : Key) = Sum.inr b := fun q => e (Sum.inr.inj q)
    rw [decide_eq_false h, decide_eq_false e]
theorem key_lr (a : Int) (b : Str) : decide ((Sum.inl a : Key) = Sum.inr b) = false := decide_eq_false (fun q => nomatch q)
theorem key_rl (a : Str) (b : Int) : decide ((Sum.inr a : Key) = Sum.inl b) = false := decide_eq_false (fun q => nomatch q)

def mixKind (prog : Program) (w : World) : PySem.KeyKind prog w Key where
  is := keyIs
  hash := keyH w
  inj := fun v a b ha hb => by
    rcases keyIs_shape ha with ⟨i, t, rfl, rfl⟩ | ⟨x, t, rfl, rfl⟩
    · rcases keyIs_shape hb with ⟨j, u, rfl, e⟩ | ⟨y, u, rfl, e⟩
      · injection e with e1 _; rw [e1]
      · exact nomatch e
    · rcases keyIs_shape hb with ⟨j, u, rfl, e⟩ | ⟨y, u, rfl, e⟩
      · exact nomatch e
      · injection e with e1 _; rw [e1]
  byValue := fun k v h => by
    rcases keyIs_shape h with ⟨i, t, rfl, rfl⟩ | ⟨x, t, rfl, rfl⟩ <;> rfl
  pyHash := fun hv h => by
    rcases keyIs_shape hv with ⟨i, t, rfl, rfl⟩ | ⟨x, t, rfl, rfl⟩
    · exact wpAny_pyHash_int h
    · exact wpAny_pyHash_str h
  eqBool := fun hu hv h => by
    rcases keyIs_shape hu with ⟨i, t, rfl, rfl⟩ | ⟨x, t, rfl, rfl⟩
    · rcases keyIs_shape hv with ⟨j, u, rfl, rfl⟩ | ⟨y, u, rfl, rfl⟩
      · rw [key_ll] at h; exact wpAny_eqBool_int h
      · rw [key_lr] at h; exact SeqAt.EqAt.int_str i t y u _ _ _ _ h
    · rcases keyIs_shape hv with ⟨j, u, rfl, rfl⟩ | ⟨y, u, rfl, rfl⟩
      · rw [key_rl] at h; exact SeqAt.EqAt.str_int x t j u _ _ _ _ h
      · rw [key_rr] at h; exact wpAny_eqBool_str h
  «strs» := fun k x t v h => by
    rcases keyIs_shape h with ⟨i, u, rfl, e⟩ | ⟨y, u, rfl, e⟩
    · exact nomatch e
    · injection e with e1 _
      subst e1
      cases v <;> rfl

theorem mixKind_int (prog : Program) (w : World) (i : Int) (t : Tok) : (mixKind prog w).is (.inl i) (.int i t) = true := keyIs_int i t
theorem mixKind_str (prog : Program) (w : World) (x : Str) (t : Tok) : (mixKind prog w).is (.inr x) (.str x t) = true := keyIs_str x t
end L2

namespace L2
open PySem PySem.Spec PyProof.Rows

/-- a value, without the heap -/
inductive V where
  | non | bl (b : Bool) | int (i : Int) | str (x : Str) | byt (b : Array UInt8) | flt (b : UInt64) | ref (a : Addr) | ty (n : String)
  deriving DecidableEq

def RelV : V → Value → Prop
  | .non, u => u = Value.none
  | .bl b, u => u = Value.bool b
  | .int i, u => ∃ t, u = Value.int i t
  | .str x, u => ∃ t, u = Value.str x t
  | .byt b, u => ∃ t, u = Value.bytes b t
  | .flt b, u => ∃ t, u = Value.float b t
  | .ref a, u => u = Value.ref a
  | .ty n, u => u = Value.type n

abbrev Vals : List V → List Value → Prop := Paired RelV
theorem Vals.length {xs : List V} {us : List Value} (r : Vals xs us) : xs.length = us.length := Paired.length r
theorem Vals.get : ∀ {xs : List V} {us : List Value} {i : Nat} {x : V}, Vals xs us → xs[i]? = some x → ∃ u, us[i]? = some u ∧ RelV x u
  | _, _, _, _, .nil, e => by simp at e
  | _, _, 0, _, .cons r _, e => by simp at e; subst e; exact ⟨_, rfl, r⟩
  | _, _, i + 1, x, .cons _ t, e => by
    obtain ⟨u, h1, h2⟩ := Vals.get (i := i) (x := x) t (by simpa using e)
    exact ⟨u, by simpa using h1, h2⟩
theorem Vals.set {x : V} {u : Value} (r : RelV x u) : ∀ {xs : List V} {us : List Value} (i : Nat), Vals xs us → Vals (xs.set i x) (us.set i u)
  | _, _, _, .nil => .nil
  | _, _, 0, .cons _ t => .cons r t
  | _, _, i + 1, .cons q t => .cons q (Vals.set r i t)
theorem Vals.append : ∀ {xs ys : List V} {us ws : List Value}, Vals xs us → Vals ys ws → Vals (xs ++ ys) (us ++ ws)
  | _, _, _, _, .nil, s => s
  | _, _, _, _, .cons r t, s => .cons r (Vals.append t s)
theorem Vals.take : ∀ {xs : List V} {us : List Value} (n : Nat), Vals xs us → Vals (xs.take n) (us.take n)
  | _, _, 0, _ => .nil
  | _, _, _ + 1, .nil => .nil
  | _, _, n + 1, .cons r t => .cons r (Vals.take n t)
theorem Vals.drop : ∀ {xs : List V} {us : List Value} (n : Nat), Vals xs us → Vals (xs.drop n) (us.drop n)
  | _, _, 0, r => r
  | _, _, _ + 1, .nil => .nil
  | _, _, n + 1, .cons _ t => Vals.drop n t

def RelO : Option V → Option Value → Prop
  | some v, some u => RelV v u
  | none, none => True
  | _, _ => False
def KV {κ : Type} : List (κ × V) → List (κ × Value) → Prop := Paired fun (p : κ × V) (q : κ × Value) => p.1 = q.1 ∧ RelV p.2 q.2

/-- a key of a dict (00_mix): an int or a text -/
def kV : Key → V
  | .inl i => .int i
  | .inr x => .str x

/-- what stands at a tracked address -/
inductive HO where
  /-- a list -/
  | lst (xs : List V)
  /-- a tuple (never changes) -/
  | tup (xs : List V)
  /-- a dict whose keys are ints and texts; one whose keys are tuples of ints and texts (the empty one is both) -/
  | dK (kvs : List (Key × V)) | dT (kvs : List (List Key × V))
  /-- a set of ints: its members, its size -/
  | set (S : Int → Bool) (n : Nat)
  /-- an instance of the class at C, its dict at dx, its attributes -/
  | ins (C dx : Addr) (fs : List (Str × V))
  /-- the dict of the instance at x -/
  | own (x : Addr)
  /-- the dict of an exception -/
  | xd (fs : List (Str × V))
  /-- a bound method, f of x -/
  | met (f x : Addr)
  /-- a range object lo, lo + 1, .. below hi -/
  | rng (lo hi : Int)
  /-- a thing that is known to the object (the script; a dict while a loop walks it): read, never written while it is so -/
  | frz (o : Obj) (u : HO)
  /-- a code object's table -/
  | tbl (ps : Array Value)
  /-- any other thing, by what is true of its one object (a def of one's own: SetO a S n := HO.ext fun h => ..) -/
  | ext (φ : Heap → Prop)

abbrev Hp := Addr → Option HO
def upd (H : Hp) (a : Addr) (o : HO) : Hp := fun b => if b = a then some o else H b
theorem upd_same {H : Hp} {a : Addr} {o : HO} : upd H a o a = some o := by unfold upd; rw [if_pos rfl]
theorem upd_ne {H : Hp} {a b : Addr} {o : HO} (h : b ≠ a) : upd H a o b = H b := by unfold upd; rw [if_neg h]
theorem upd_upd {H : Hp} {a : Addr} {o u : HO} : upd (upd H a o) a u = upd H a u := by
  funext b; unfold upd; split <;> rfl
/-- two objects of different content stand apart -/
theorem ne_of {H : Hp} {a b : Addr} {o u : HO} (h : H a = some o) (h' : H b = some u) (d : o ≠ u) : a ≠ b := by
  intro e; subst e; rw [h] at h'; exact d (Option.some.inj h')
theorem ne_of_none {H : Hp} {a b : Addr} {o : HO} (h : H a = some o) (h' : H b = none) : a ≠ b := by
  intro e; subst e; rw [h] at h'; cases h'

section
variable (P : Program) (w : World)
def ObjOk (H : Hp) (h : Heap) (a : Addr) : HO → Prop
  | .lst xs => xs.length ≤ sizeLine ∧ ∃ (its : List Value) (n : Nat), Vals xs its ∧ h.get? a = some { cls := .type "list", data := .seq its.toArray n }
  | .tup xs => xs.length ≤ sizeLine ∧ ∃ its : List Value, Vals xs its ∧ IsTup h a its.toArray
  | .dK kvs => kvs.length ≤ sizeLine ∧ (a == sysModules) = false ∧ ∃ vs, KV kvs vs ∧ h.DictOf (mixKind P w) a vs
  | .dT kvs => kvs.length ≤ sizeLine ∧ (a == sysModules) = false ∧ ∃ xs : List (List Key × Addr × Value),
      Paired (fun (p : List Key × V) (q : List Key × Addr × Value) => p.1 = q.1 ∧ H q.2.1 = some (.tup (p.1.map kV)) ∧ RelV p.2 q.2.2) kvs xs ∧
      ∃ o es ep, h.get? a = some o ∧ o.ExactDict ∧ o.data = .dict es ep ∧ es.toList = xs.map (entryOfKey (tupleKind (mixKind P w))) ∧ (xs.map (·.1)).Nodup
  | .set S n => h.SetOf (intKind P w) a S n
  | .ins C dx fs => H dx = some (.own a) ∧ fs.length ≤ 1000 ∧ dx ≠ a ∧ h.get? a = some (PySem.W.instObj C dx) ∧
      ∃ mA, h.Ns1 dx mA ∧ (∀ f, RelO (fs.lookup f) (mA f)) ∧ PySem.Within mA (fs.map (·.1))
  | .own _ => ∃ o, h.get? a = some o
  | .xd fs => ∃ mA, h.Ns1 a mA ∧ ∀ f, RelO (fs.lookup f) (mA f)
  | .rng lo hi => ∃ t u v, h.get? a = some { cls := .type "range", data := .fields #[.int lo t, .int hi u, .int 1 v] }
  | .frz o u => h.get? a = some o ∧ ObjOk H h a u
  | .tbl ps => h.get? a = some { cls := .none, data := .fields ps }
  | .met f x => h.get? a = some (PySem.W.methodObj (.ref f) (.ref x))
  | .ext φ => φ h ∧ (∃ o, h.get? a = some o) ∧ ∀ h1 h2 : Heap, φ h1 → (∀ o, h1.get? a = some o → h2.get? a = some o) → φ h2
/-- the abstract heap is held -/
def HOk (H : Hp) (h : Heap) : Prop := ∀ a o, H a = some o → ObjOk P w H h a o
end

section
variable {P : Program} {w : World} {H H' : Hp} {h h' : Heap} {a : Addr} {o : HO}
theorem ObjOk.lt (x : ObjOk P w H h a o) : a < h.objs.size := by
  cases o with
  | lst xs => obtain ⟨_, _, _, _, e⟩ := x; exact Heap.lt_size e
  | tup xs => obtain ⟨_, _, _, p⟩ := x; exact p.lt
  | dK kvs => obtain ⟨_, _, _, _, o, _, _, e, _⟩ := x; exact Heap.lt_size e
  | dT kvs => obtain ⟨_, _, _, _, o, _, _, e, _⟩ := x; exact Heap.lt_size e
  | set S n => obtain ⟨o, _, _, _, e, _⟩ := x; exact Heap.lt_size e
  | ins C dx fs => obtain ⟨_, _, _, e, _⟩ := x; exact Heap.lt_size e
  | own y => obtain ⟨_, e⟩ := x; exact Heap.lt_size e
  | xd fs => obtain ⟨_, ⟨_, _, _, e, _⟩, _⟩ := x; exact Heap.lt_size e
  | rng lo hi => obtain ⟨_, _, _, e⟩ := x; exact Heap.lt_size e
  | frz ob u => obtain ⟨e, _⟩ := x; exact Heap.lt_size e
  | tbl ps => exact Heap.lt_size (show h.get? a = some _ from x)
  | met f y => exact Heap.lt_size (show h.get? a = some _ from x)
  | ext φ => obtain ⟨_, ⟨_, e⟩, _⟩ := x; exact Heap.lt_size e
theorem Paired.mapP {α β : Type} {F G : α → β → Prop} : ∀ {l₁ : List α} {l₂ : List β}, Paired F l₁ l₂ → (∀ a b, F a b → G a b) → Paired G l₁ l₂
  | _, _, .nil, _ => .nil
  | _, _, .cons r t, f => .cons (f _ _ r) (Paired.mapP t f)
/-- what an object's description leans on: its own object, its own dict, the tuples -/
theorem ObjOk.stay (x : ObjOk P w H h a o) (k : ∀ b u, (b = a ∨ H b = some (.own a)) → h.get? b = some u → h'.get? b = some u)
    (ho : ∀ b, H b = some (.own a) → H' b = some (.own a)) (ht : ∀ b xs, H b = some (.tup xs) → H' b = some (.tup xs)) : ObjOk P w H' h' a o := by
  induction o with
  | lst xs => obtain ⟨z, its, n, r, e⟩ := x; exact ⟨z, its, n, r, k _ _ (.inl rfl) e⟩
  | tup xs => obtain ⟨z, its, r, ob, e, c⟩ := x; exact ⟨z, its, r, ob, k _ _ (.inl rfl) e, c⟩
  | dK kvs => obtain ⟨z, y, vs, r, ob, es, ep, e, c⟩ := x; exact ⟨z, y, vs, r, ob, es, ep, k _ _ (.inl rfl) e, c⟩
  | dT kvs =>
    obtain ⟨z, y, xs, r, ob, es, ep, e, c⟩ := x
    exact ⟨z, y, xs, Paired.mapP r fun p q z => ⟨z.1, ht _ _ z.2.1, z.2.2⟩, ob, es, ep, k _ _ (.inl rfl) e, c⟩
  | set S n => obtain ⟨ob, es, ep, t, e, c⟩ := x; exact ⟨ob, es, ep, t, k _ _ (.inl rfl) e, c⟩
  | ins C dx fs =>
    obtain ⟨d, z, ne, e, mA, ⟨od, es, ep, e2, c⟩, r⟩ := x
    exact ⟨ho _ d, z, ne, k _ _ (.inl rfl) e, mA, ⟨od, es, ep, k _ _ (.inr d) e2, c⟩, r⟩
  | own y => obtain ⟨ob, e⟩ := x; exact ⟨ob, k _ _ (.inl rfl) e⟩
  | xd fs => obtain ⟨mA, ⟨od, es, ep, e, c⟩, r⟩ := x; exact ⟨mA, ⟨od, es, ep, k _ _ (.inl rfl) e, c⟩, r⟩
  | rng lo hi => obtain ⟨t, u, v, e⟩ := x; exact ⟨t, u, v, k _ _ (.inl rfl) e⟩
  | frz ob u ih => obtain ⟨e, q⟩ := x; exact ⟨k _ _ (.inl rfl) e, ih q⟩
  | tbl ps =>
    have e : h.get? a = some { cls := .none, data := .fields ps } := x
    show h'.get? a = some { cls := .none, data := .fields ps }
    exact k a _ (.inl rfl) e
  | met f y =>
    have e : h.get? a = some (PySem.W.methodObj (.ref f) (.ref y)) := x
    show h'.get? a = some (PySem.W.methodObj (.ref f) (.ref y))
    exact k a _ (.inl rfl) e
  | ext φ => obtain ⟨p, ⟨o, e⟩, st⟩ := x; exact ⟨st _ _ p fun o q => k _ _ (.inl rfl) q, ⟨o, k _ _ (.inl rfl) e⟩, st⟩
theorem HOk.lt (x : HOk P w H h) (e : H a = some o) : a < h.objs.size := (x a o e).lt
theorem HOk.fresh (x : HOk P w H h) (e : h.objs.size ≤ a) : H a = none := by
  cases q : H a with
  | none => rfl
  | some u => exact absurd (Nat.lt_of_lt_of_le (x.lt q) e) (Nat.lt_irrefl _)
/-- every object of the heap is kept -/
theorem HOk.kept (x : HOk P w H h) (k : ∀ b u, h.get? b = some u → h'.get? b = some u) : HOk P w H h' := fun a o e =>
  (x a o e).stay (fun b u _ q => k b u q) (fun _ q => q) fun _ _ q => q
/-- a new object is laid and tracked -/
theorem HOk.laid (x : HOk P w H h) (k : ∀ b u, h.get? b = some u → h'.get? b = some u) (hp : h.objs.size ≤ a) (new : ObjOk P w (upd H a o) h' a o) : HOk P w (upd H a o) h' := fun b u e => by
  have hn := x.fresh hp
  by_cases hb : b = a
  · subst hb; rw [upd_same] at e; cases e; exact new
  · rw [upd_ne hb] at e
    exact (x b u e).stay (fun c v _ q => k c v q) (fun c q => by rw [upd_ne (ne_of_none q hn)]; exact q) fun c xs q => by rw [upd_ne (ne_of_none q hn)]; exact q
end

/-- what may be read as u: it is u, or a known u -/
def Rd (H : Hp) (a : Addr) (u : HO) : Prop := H a = some u ∨ ∃ o, H a = some (.frz o u)
theorem Rd.ok {P : Program} {w : World} {H : Hp} {h : Heap} {a : Addr} {u : HO} (r : Rd H a u) (x : HOk P w H h) : ObjOk P w H h a u := by
  rcases r with r | ⟨o, r⟩
  · exact x a u r
  · obtain ⟨_, q⟩ := x a _ r
    exact q
/-- what may be written -/
def Mut : Option HO → Prop
  | some (.lst _) => True
  | some (.dK _) => True
  | some (.dT _) => True
  | some (.set _ _) => True
  | some (.ins _ _ _) => True
  | some (.ext _) => True
  | _ => False
section
variable {P : Program} {w : World} {H : Hp} {h h' : Heap} {x e : Addr} {o' : HO}
/-- the object at e is changed: x itself, or the dict of the instance x -/
theorem HOk.write (ok : HOk P w H h) (mu : Mut (H x)) (he : e = x ∨ H e = some (.own x)) (k : ∀ b u, b ≠ e → h.get? b = some u → h'.get? b = some u) (heo : ∃ u, h'.get? e = some u)
    (new : ObjOk P w (upd H x o') h' x o') : HOk P w (upd H x o') h' := fun b u q => by
  have nown : ∀ c y, H c = some (.own y) → c ≠ x := fun c y r z => by subst z; rw [r] at mu; exact mu
  have ntup : ∀ c xs, H c = some (.tup xs) → c ≠ x := fun c xs r z => by subst z; rw [r] at mu; exact mu
  by_cases hb : b = x
  · subst hb; rw [upd_same] at q; cases q; exact new
  · rw [upd_ne hb] at q
    by_cases hbe : b = e
    · have q' : H b = some (.own x) := by
        rcases he with z | z
        · exact absurd (hbe.trans z) hb
        · rw [hbe]; exact z
      rw [q] at q'; cases q'
      obtain ⟨v, hv⟩ := heo
      exact ⟨v, by rw [hbe]; exact hv⟩
    · refine (ok b u q).stay (fun c v hc r => k c v ?_ r) (fun c r => by rw [upd_ne (nown c b r)]; exact r) fun c xs r => by rw [upd_ne (ntup c xs r)]; exact r
      rcases hc with rfl | hc
      · exact hbe
      · rintro rfl
        rcases he with z | z
        · exact nown c b hc z
        · rw [hc] at z; cases z; exact hb rfl
end

/-! ### kept unless tracked; of the frames at fs (the callers') the slots may change (an exception that passes writes there); of the records at ex (iterators) nothing is said -/
structure Un (fs ex : List Addr) (H H' : Hp) (h h' : Heap) : Prop where
  keep : ∀ b o, h.get? b = some o → H b = none → b ∉ fs → b ∉ ex → h'.get? b = some o
  slot : ∀ b o, h.get? b = some o → H b = none → b ∈ fs → b ∉ ex → ∃ sl, h'.get? b = some { o with slots := sl }
  free : ∀ b o, h.get? b = some o → H b = none → b ∉ ex → H' b = none
  there : ∀ b o, h.get? b = some o → b ∉ ex → ∃ o', h'.get? b = some o'
  tups : ∀ b xs, H b = some (.tup xs) → H' b = some (.tup xs)
  frzs : ∀ b o u, H b = some (.frz o u) → H' b = some (.frz o u)
  tbls : ∀ b ps, H b = some (.tbl ps) → ∃ more, H' b = some (.tbl (ps ++ more))
section
variable {fs fs' ex ex' : List Addr} {H H1 H2 : Hp} {h h1 h2 h' : Heap} {a x e : Addr} {o : HO}
theorem Un.any (u : Un fs ex H H1 h h1) {b : Addr} {ob : Obj} (q : h.get? b = some ob) (n : H b = none) (hx : b ∉ ex) : ∃ sl, h1.get? b = some { ob with slots := sl } := by
  by_cases hb : b ∈ fs
  · exact u.slot b ob q n hb hx
  · exact ⟨ob.slots, u.keep b ob q n hb hx⟩
theorem Un.kept (k : ∀ b u, h.get? b = some u → h'.get? b = some u) : Un fs ex H H h h' :=
  ⟨fun b ob q _ _ _ => k b ob q, fun b ob q _ _ _ => ⟨ob.slots, k b ob q⟩, fun _ _ _ n _ => n, fun b ob q _ => ⟨ob, k b ob q⟩, fun _ _ q => q, fun _ _ _ q => q, fun _ ps q => ⟨#[], by rw [q]; simp⟩⟩
theorem Un.refl : Un fs ex H H h h := Un.kept fun _ _ q => q
theorem Un.laid (k : ∀ b u, h.get? b = some u → h'.get? b = some u) (hp : h.objs.size ≤ a) (hn : H a = none) : Un fs ex H (upd H a o) h h' where
  keep := fun b u q _ _ _ => k b u q
  slot := fun b u q _ _ _ => ⟨u.slots, k b u q⟩
  free := fun b u q n _ => by rw [upd_ne (Nat.ne_of_lt (Nat.lt_of_lt_of_le (Heap.lt_size q) hp))]; exact n
  there := fun b u q _ => ⟨u, k b u q⟩
  tups := fun b xs q => by rw [upd_ne (ne_of_none q hn)]; exact q
  frzs := fun b u xs q => by rw [upd_ne (ne_of_none q hn)]; exact q
  tbls := fun b ps q => ⟨#[], by rw [upd_ne (ne_of_none q hn), q]; simp⟩
theorem Un.write (mu : Mut (H x)) (he : e = x ∨ H e = some (.own x)) (k : ∀ b u, b ≠ e → h.get? b = some u → h'.get? b = some u) (heo : ∃ u, h'.get? e = some u) : Un fs ex H (upd H x o) h h' := by
  have hx : ∀ b, H b = none → b ≠ x := fun b n z => by subst z; rw [n] at mu; exact mu
  have hb : ∀ b, H b = none → b ≠ e := fun b n z => by
    subst z
    rcases he with r | r
    · exact hx b n r
    · rw [n] at r; cases r
  have hm : ∀ b u, H b = some u → ¬ Mut (some u) → b ≠ x := fun b u q nm z => by subst z; rw [q] at mu; exact nm mu
  refine ⟨fun b u q n _ _ => k b u (hb b n) q, fun b u q n _ _ => ⟨u.slots, k b u (hb b n) q⟩, fun b u q n _ => by rw [upd_ne (hx b n)]; exact n, fun b u q _ => ?_,
    fun b xs q => by rw [upd_ne (hm b _ q fun z => z)]; exact q, fun b u xs q => by rw [upd_ne (hm b _ q fun z => z)]; exact q, fun b ps q => ⟨#[], by rw [upd_ne (hm b _ q fun z => z), q]; simp⟩⟩
  by_cases hbe : b = e
  · subst hbe; exact heo
  · exact ⟨u, k b u hbe q⟩
end

/-! ### the heap without what is tracked -/
def trk (h : Heap) (H : Hp) : List Addr := (List.range h.objs.size).filter fun a => (H a).isSome
def hidT (h : Heap) (H : Hp) : Heap := PySem.W.hideAll h (trk h H)
theorem hidT_size (h : Heap) (H : Hp) : (hidT h H).objs.size = h.objs.size := PySem.W.hideAll_size _ _
theorem hidT_get {h : Heap} {H : Hp} {b : Addr} {o : Obj} (e : h.get? b = some o) (n : H b = none) : (hidT h H).get? b = some o :=
  PySem.W.hideAll_get _ e fun hm => by
    have q : (H b).isSome = true := (List.mem_filter.mp hm).2
    rw [n] at q; simp at q
theorem of_hidT {h : Heap} {H : Hp} {b : Addr} {o : Obj} (e : (hidT h H).get? b = some o) : h.get? b = some o ∧ H b = none := by
  have e' : h.get? b = some o := PySem.W.of_hideAll (trk h H) e
  refine ⟨e', ?_⟩
  cases q : H b with
  | none => rfl
  | some x =>
    have hm : b ∈ trk h H := List.mem_filter.mpr ⟨List.mem_range.mpr (Heap.lt_size e'), by simp [q]⟩
    have z : (hidT h H).get? b = none := PySem.W.hideAll_none (trk h H) hm
    rw [z] at e; cases e

/-! ### OpenK's ledger, filled with every new object but one -/
end L2

namespace L2
open PySem PySem.Spec PyProof.Rows

/-- the module's facts, over the base: the heap at the law's entry without what is tracked there -/
structure Mod (K : PySem.W.Frag) (mg : Str → Option Value) (base : Heap) : Prop where
  kin : K.In base
  glob : base.Ns mainGlobals mg
  blt : ∃ mb, base.Ns builtinsNs mb ∧ ∀ x : Str, x ≠ "__name__" → mb x = bootBuiltins x
  nolimit : base.NoLimit

/-- the context: a def's body (or a comprehension's block) running. base: fixed through the whole law; s₀, H₀: the entry; outer: the frames whose slots others may change (a def's callers); stack: all frames that run;
   ex: iterators that were made ahead of the entry and are walked here (a comprehension's); fn: the names whose cells were made at the entry (a def: all; a comprehension's block: its own); calm: not within an except suite; pn: pins that every state bears; xe: what is wanted of an exception that leaves the code -/
structure Cx where
  prog : Program
  w : World
  K : PySem.W.Frag
  mg : Str → Option Value
  base : Heap
  A : Around
  N : List Str
  s₀ : Shared
  H₀ : Hp
  env : Env
  outer : List Env
  stack : List Env
  ex : List Addr
  fn : Str → Bool
  calm : Bool
  pn : List (Addr × Obj)
  xe : Value → Shared → Prop
/-- the callers' frames -/
def frs (l : List Env) : List Addr := l.filterMap (·.frame)
abbrev Cx.fs (X : Cx) : List Addr := frs X.outer

def Vis (sc : Scope) (x : Str) : Prop := sc.names.lookup x = some .local ∨ sc.names.lookup x = some .cell ∨ sc.names.lookup x = some .free
def Loc (sc : Scope) (x : Str) : Prop := sc.names.lookup x = some .local ∨ sc.names.lookup x = some .cell
def Look (env : Env) (h : Heap) (m : Str → Option Value) (x : Str) (u : Value) : Prop :=
  (env.kindOf x = some .local ∧ m x = some u) ∨ ((env.kindOf x = some .cell ∨ env.kindOf x = some .free) ∧ ∃ c, env.cells.lookup x = some c ∧ h.IsCell c (some u))

structure Cx.Ok (X : Cx) : Prop where
  mod : Mod X.K X.mg X.base
  kind : X.env.scope.kind = .function
  glob : X.env.globals = mainGlobals
  blt : X.env.builtins = builtinsNs
  above : X.s₀.heap.objs.size ≤ X.env.locals
  inj : ∀ x y c, X.env.cells.lookup x = some c → X.env.cells.lookup y = some c → x = y
  has : ∀ x, (X.env.kindOf x = some .cell ∨ X.env.kindOf x = some .free) → ∃ c, X.env.cells.lookup x = some c
  cab : ∀ x c, X.fn x = true → X.env.cells.lookup x = some c → X.s₀.heap.objs.size ≤ c
  hd : X.calm = true → X.A.handled = none
  frames : X.A.frames = some X.stack
  stk : X.stack = X.outer ∨ (X.stack = X.env :: X.outer ∧ X.env.frame = some X.env.locals)
  exf : ∀ b ∈ X.ex, b ≠ X.env.locals ∧ ∀ x c, X.env.cells.lookup x = some c → c ≠ b
  bs : ∀ b o, X.base.get? b = some o → X.s₀.heap.get? b = some o ∧ X.H₀ b = none
  bsz : X.base.objs.size ≤ X.s₀.heap.objs.size
  noex : ∀ b o, X.base.get? b = some o → b ∉ X.ex
  exfs : ∀ b ∈ X.ex, b ∉ X.fs
  funs : X.s₀.heap.FunFrames X.base X.outer
  frf : ∀ b ∈ X.fs, X.H₀ b = none

structure Inv (X : Cx) (pins : List (Addr × Obj)) (σ : List (Option V)) (H : Hp) (s : Shared) : Prop where
  ok : X.Ok
  os : s.os = X.s₀.os
  bare : AllBare s.gens
  base : Un X.fs X.ex X.H₀ H X.s₀.heap s.heap
  loc : ∃ m, s.heap.Ns X.env.locals m ∧ ∀ (i : Nat) (x : Str) (v : V), X.N[i]? = some x → σ[i]? = some (some v) → Vis X.env.scope x → ∃ u, RelV v u ∧ Look X.env s.heap m x u
  cell : ∀ x c, X.env.cells.lookup x = some c → ∃ v, s.heap.IsCell c v
  free : H X.env.locals = none
  freeC : ∀ x c, X.env.cells.lookup x = some c → H c = none
  pin : ∀ p ∈ X.pn ++ pins, s.heap.get? p.1 = some p.2 ∧ H p.1 = none ∧ p.1 ≠ X.env.locals ∧ p.1 ∉ X.fs ∧ ∀ v, p.2.data ≠ .cell v
  hok : HOk X.prog X.w H s.heap
  len : σ.length = X.N.length

section
variable {X : Cx} {pins : List (Addr × Obj)} {σ : List (Option V)} {H H' : Hp} {s : Shared} {h' : Heap}

theorem Cx.Ok.nofr (ok : X.Ok) {b : Addr} {o : Obj} (e : X.base.get? b = some o) : b ∉ X.fs := fun hb => by
  have := (ok.funs.mem hb).1
  rw [e] at this; cases this
theorem Inv.bs (I : Inv X pins σ H s) : ∀ b o, X.base.get? b = some o → s.heap.get? b = some o ∧ H b = none := fun b o e =>
  ⟨I.base.keep b o (I.ok.bs b o e).1 (I.ok.bs b o e).2 (I.ok.nofr e) (I.ok.noex b o e), I.base.free b o (I.ok.bs b o e).1 (I.ok.bs b o e).2 (I.ok.noex b o e)⟩
theorem Inv.bk (I : Inv X pins σ H s) : ∀ b o, X.base.get? b = some o → s.heap.get? b = some o := fun b o e => (I.bs b o e).1
theorem Inv.mod (I : Inv X pins σ H s) : Mod X.K X.mg X.base := I.ok.mod
theorem Inv.kIn (I : Inv X pins σ H s) : X.K.In s.heap := I.ok.mod.kin.keeps I.bk
theorem Inv.lt (I : Inv X pins σ H s) : X.env.locals < s.heap.objs.size := let ⟨_, hn, _⟩ := I.loc; hn.lt
theorem Inv.sz (I : Inv X pins σ H s) : X.s₀.heap.objs.size ≤ s.heap.objs.size := Nat.le_trans I.ok.above (Nat.le_of_lt I.lt)
theorem Inv.nofs (I : Inv X pins σ H s) {a : Addr} (h : s.heap.objs.size ≤ a) : a ∉ X.fs := fun hb => by
  obtain ⟨_, o, ho, _⟩ := I.ok.funs.mem hb
  exact absurd (Nat.lt_of_lt_of_le (Heap.lt_size ho) (Nat.le_trans I.sz h)) (Nat.lt_irrefl _)
theorem Inv.cne (I : Inv X pins σ H s) : ∀ x c, X.env.cells.lookup x = some c → c ≠ X.env.locals := fun x c e z => by
  obtain ⟨v, o, ho, hd⟩ := I.cell x c e
  obtain ⟨m, ⟨o', es, ep, ho', hd', _⟩, _⟩ := I.loc
  rw [z, ho'] at ho; cases ho; rw [hd'] at hd; cases hd
theorem Inv.funs (I : Inv X pins σ H s) : s.heap.FunFrames X.base X.outer := by
  have all : ∀ (l : List Env), (∀ b ∈ frs l, b ∈ X.fs) → X.s₀.heap.FunFrames X.base l → s.heap.FunFrames X.base l := by
    intro l
    induction l with
    | nil => intro _ _; trivial
    | cons env r ih =>
      intro hs hl
      obtain ⟨hk, ⟨L, o, hf, hn, ho, hd⟩, hr⟩ := hl
      have hL : L ∈ X.fs := hs L (by unfold frs; rw [List.filterMap_cons, hf]; exact List.mem_cons_self)
      obtain ⟨sl, e⟩ := I.base.slot L o ho (I.ok.frf L hL) hL fun z => I.ok.exfs L z hL
      exact ⟨hk, ⟨L, _, hf, hn, e, hd⟩, ih (fun b hb => hs b (by unfold frs; rw [List.filterMap_cons, hf]; exact List.mem_cons_of_mem _ hb)) hr⟩
  exact all X.outer (fun _ hb => hb) I.ok.funs

/-- the frames that run, for a call -/
theorem Inv.stack (I : Inv X pins σ H s) : s.heap.FunFrames X.base X.stack := by
  rcases I.ok.stk with e | ⟨e, hf⟩
  · rw [e]; exact I.funs
  · rw [e]
    obtain ⟨m, hn, _⟩ := I.loc
    refine .cons (by rw [I.ok.kind]; decide) hf hn ?_ I.funs
    exact Heap.get?_none_of_le (Nat.le_trans I.ok.bsz I.ok.above)
theorem Inv.stkSub (I : Inv X pins σ H s) : ∀ b ∈ frs X.stack, b ∈ X.env.locals :: X.fs := fun b hb => by
  rcases I.ok.stk with e | ⟨e, hf⟩
  · rw [e] at hb; exact List.mem_cons_of_mem _ hb
  · rw [e] at hb
    unfold frs at hb
    rw [List.filterMap_cons, hf] at hb
    exact hb
theorem Inv.stkFree (I : Inv X pins σ H s) : ∀ b ∈ frs X.stack, H b = none := fun b hb => by
  rcases List.mem_cons.mp (I.stkSub b hb) with e | hb
  · rw [e]; exact I.free
  · obtain ⟨_, o, ho, _⟩ := I.ok.funs.mem hb
    exact I.base.free b o ho (I.ok.frf b hb) fun z => I.ok.exfs b z hb

/-- THE STEP: the untracked objects but the frame and the records at ch are kept (the callers' frames up to slots), the frame's map is kept, the new abstract heap is held -/
theorem Inv.step {g' : Array GenState} {t' : Nat} {d' : Drawn} {ch : List Addr} (I : Inv X pins σ H s)
    (hch : ∀ b ∈ ch, (b ∈ X.ex ∨ X.s₀.heap.objs.size ≤ b) ∧ b ≠ X.env.locals ∧ (∀ x c, X.env.cells.lookup x = some c → c ≠ b) ∧ ∀ p ∈ X.pn ++ pins, p.1 ≠ b)
    (keep : ∀ b o, b ≠ X.env.locals → b ∉ X.fs → b ∉ ch → s.heap.get? b = some o → H b = none → h'.get? b = some o)
    (slot : ∀ b o, b ≠ X.env.locals → b ∈ X.fs → b ∉ ch → s.heap.get? b = some o → H b = none → ∃ sl, h'.get? b = some { o with slots := sl }) (free : ∀ b o, b ∉ ch → s.heap.get? b = some o → H b = none → H' b = none)
    (there : ∀ b o, b ∉ ch → s.heap.get? b = some o → ∃ o', h'.get? b = some o')
    (tups : ∀ b xs, H b = some (.tup xs) → H' b = some (.tup xs)) (frzs : ∀ b o u, H b = some (.frz o u) → H' b = some (.frz o u)) (tbls : ∀ b ps, H b = some (.tbl ps) → ∃ more, H' b = some (.tbl (ps ++ more)))
    (ns : ∀ m, s.heap.Ns X.env.locals m → h'.Ns X.env.locals m) (hok : HOk X.prog X.w H' h') (hg : AllBare g') :
    Inv X pins σ H' { s with heap := h', gens := g', drawn := d', toks := t' } := by
  have neL : ∀ b o, X.s₀.heap.get? b = some o → b ≠ X.env.locals := fun b o e => Nat.ne_of_lt (Nat.lt_of_lt_of_le (Heap.lt_size e) I.ok.above)
  have neC : ∀ b o, X.s₀.heap.get? b = some o → b ∉ X.ex → b ∉ ch := fun b o e hx hb => by
    rcases (hch b hb).1 with z | z
    · exact hx z
    · exact absurd (Nat.lt_of_lt_of_le (Heap.lt_size e) z) (Nat.lt_irrefl _)
  have cellK : ∀ x c, X.env.cells.lookup x = some c → ∀ v, s.heap.IsCell c v → h'.IsCell c v := fun x c e v ⟨o, ho, hd⟩ => by
    have nch : c ∉ ch := fun z => (hch c z).2.2.1 x c e rfl
    by_cases hc : c ∈ X.fs
    · obtain ⟨sl, q⟩ := slot c o (I.cne x c e) hc nch ho (I.freeC x c e)
      exact ⟨_, q, hd⟩
    · exact ⟨o, keep c o (I.cne x c e) hc nch ho (I.freeC x c e), hd⟩
  refine ⟨I.ok, I.os, hg, ⟨fun b o e n hb hx => ?_, fun b o e n hb hx => ?_, fun b o e n hx => ?_, fun b o e hx => ?_, fun b xs e => tups b xs (I.base.tups b xs e), fun b o xs e => frzs b o xs (I.base.frzs b o xs e), fun b ps e => ?_⟩, ?_, fun x c e => ?_, ?_, fun x c e => ?_, fun p hp => ?_, hok, I.len⟩
  · exact keep b o (neL b o e) hb (neC b o e hx) (I.base.keep b o e n hb hx) (I.base.free b o e n hx)
  · obtain ⟨sl, e1⟩ := I.base.slot b o e n hb hx
    obtain ⟨sl', e2⟩ := slot b _ (neL b o e) hb (neC b o e hx) e1 (I.base.free b o e n hx)
    exact ⟨sl', e2⟩
  · obtain ⟨o', e1⟩ := I.base.there b o e hx
    exact free b o' (neC b o e hx) e1 (I.base.free b o e n hx)
  · obtain ⟨o', e1⟩ := I.base.there b o e hx
    exact there b o' (neC b o e hx) e1
  · obtain ⟨m1, e1⟩ := I.base.tbls b ps e
    obtain ⟨m2, e2⟩ := tbls b _ e1
    exact ⟨m1 ++ m2, by rw [e2, Array.append_assoc]⟩
  · obtain ⟨m, hn, hl⟩ := I.loc
    refine ⟨m, ns m hn, fun i x v e1 e2 e3 => ?_⟩
    obtain ⟨u, r, l⟩ := hl i x v e1 e2 e3
    refine ⟨u, r, ?_⟩
    rcases l with l | ⟨k, c, e, z⟩
    · exact .inl l
    · exact .inr ⟨k, c, e, cellK x c e _ z⟩
  · obtain ⟨v, z⟩ := I.cell x c e
    exact ⟨v, cellK x c e v z⟩
  · obtain ⟨m, ⟨o, _, _, ho, _⟩, _⟩ := I.loc
    exact free _ o (fun z => (hch _ z).2.1 rfl) ho I.free
  · obtain ⟨v, o, ho, hd⟩ := I.cell x c e
    exact free c o (fun z => (hch c z).2.2.1 x c e rfl) ho (I.freeC x c e)
  · obtain ⟨e, n, ne, nf, d⟩ := I.pin p hp
    have nch : p.1 ∉ ch := fun z => (hch p.1 z).2.2.2 p hp rfl
    exact ⟨keep p.1 p.2 ne nf nch e n, free p.1 p.2 nch e n, ne, nf, d⟩
/-- .. where the frame's own object is kept too -/
theorem Inv.un {t' : Nat} (I : Inv X pins σ H s) (u : Un X.fs [] H H' s.heap h') (hok : HOk X.prog X.w H' h') : Inv X pins σ H' { s with heap := h', toks := t' } := by
  obtain ⟨m, ⟨o, es, ep, ho, r⟩, _⟩ := id I.loc
  obtain ⟨sl, hL⟩ := u.any ho I.free (by simp)
  exact I.step (g' := s.gens) (d' := s.drawn) (ch := []) (fun _ z => nomatch z) (fun b o _ hb _ e n => u.keep b o e n hb (by simp)) (fun b o _ hb _ e n => u.slot b o e n hb (by simp)) (fun b o _ e n => u.free b o e n (by simp)) (fun b o _ e => u.there b o e (by simp)) u.tups u.frzs u.tbls (fun m' hm => by
    obtain ⟨o', es', ep', ho', r'⟩ := hm
    rw [ho] at ho'; cases ho'
    exact ⟨_, es', ep', hL, r'⟩) hok I.bare
/-- behind a call (or a comprehension's block): the slots of this frame may have changed too, the records at ch may have turned -/
theorem Inv.call {g' : Array GenState} {t' : Nat} {d' : Drawn} {ch : List Addr} (I : Inv X pins σ H s) (u : Un (frs X.stack) ch H H' s.heap h') (hok : HOk X.prog X.w H' h') (hg : AllBare g')
    (hch : ∀ b ∈ ch, (b ∈ X.ex ∨ X.s₀.heap.objs.size ≤ b) ∧ b ≠ X.env.locals ∧ (∀ x c, X.env.cells.lookup x = some c → c ≠ b) ∧ ∀ p ∈ X.pn ++ pins, p.1 ≠ b) :
    Inv X pins σ H' { s with heap := h', gens := g', drawn := d', toks := t' } := by
  obtain ⟨m, ⟨o, es, ep, ho, r⟩, _⟩ := id I.loc
  obtain ⟨sl, hL⟩ := u.any ho I.free fun z => (hch _ z).2.1 rfl
  exact I.step (ch := ch) hch (fun b o hL hb hc e n => u.keep b o e n (fun z => (List.mem_cons.mp (I.stkSub b z)).elim hL hb) hc) (fun b o _ _ hc e n => u.any e n hc) (fun b o hc e n => u.free b o e n hc) (fun b o hc e => u.there b o e hc) u.tups u.frzs u.tbls (fun m' hm => by
    obtain ⟨o', es', ep', ho', r'⟩ := hm
    rw [ho] at ho'; cases ho'
    exact ⟨_, es', ep', hL, r'⟩) hok hg
/-- an untracked record of ours (an iterator) has turned -/
theorem Inv.turned {t' : Nat} {it : Addr} (I : Inv X pins σ H s) (k : ∀ b o, b ≠ it → s.heap.get? b = some o → h'.get? b = some o) (hn : H it = none) (hL : it ≠ X.env.locals)
    (h1 : it ∈ X.ex ∨ X.s₀.heap.objs.size ≤ it) (h2 : ∀ x c, X.env.cells.lookup x = some c → c ≠ it) (h3 : ∀ p ∈ X.pn ++ pins, p.1 ≠ it) : Inv X pins σ H { s with heap := h', toks := t' } := by
  have nit : ∀ b u, H b = some u → b ≠ it := fun b u e z => by rw [z, hn] at e; cases e
  refine I.step (g' := s.gens) (d' := s.drawn) (ch := [it]) (fun b hb => ?_) (fun b o _ _ hc e _ => k b o (fun z => hc (by simp [z])) e) (fun b o _ _ hc e _ => ⟨o.slots, k b o (fun z => hc (by simp [z])) e⟩) (fun _ _ _ _ n => n)
    (fun b o hc e => ⟨o, k b o (fun z => hc (by simp [z])) e⟩) (fun _ _ e => e) (fun _ _ _ e => e) (fun b ps e => ⟨#[], by rw [e]; simp⟩) (fun m hm => ?_) (fun b u e => ?_) I.bare
  · have e : b = it := by simpa using hb
    subst e
    exact ⟨h1, hL, h2, h3⟩
  · obtain ⟨o, es, ep, ho, r⟩ := hm
    exact ⟨o, es, ep, k _ o (Ne.symm hL) ho, r⟩
  · refine (I.hok b u e).stay (fun c v hc q => k c v ?_ q) (fun _ q => q) fun _ _ q => q
    rcases hc with z | z
    · rw [z]; exact nit b u e
    · exact nit c _ z
theorem Inv.tok (I : Inv X pins σ H s) (t : Nat) : Inv X pins σ H { s with toks := t } := I.un (h' := s.heap) (t' := t) Un.refl I.hok
/-- all objects kept -/
theorem Inv.kept {t' : Nat} (I : Inv X pins σ H s) (k : ∀ b u, s.heap.get? b = some u → h'.get? b = some u) : Inv X pins σ H { s with heap := h', toks := t' } := I.un (Un.kept k) (I.hok.kept k)
/-- a new object laid and tracked -/
theorem Inv.laid {a : Addr} {o : HO} {t' : Nat} (I : Inv X pins σ H s) (k : ∀ b u, s.heap.get? b = some u → h'.get? b = some u) (hp : s.heap.objs.size ≤ a) (new : ObjOk X.prog X.w (upd H a o) h' a o) :
    Inv X pins σ (upd H a o) { s with heap := h', toks := t' } := I.un (Un.laid k hp (I.hok.fresh hp)) (I.hok.laid k hp new)
/-- an object written -/
theorem Inv.write {x e : Addr} {o : HO} {t' : Nat} (I : Inv X pins σ H s) (mu : Mut (H x)) (he : e = x ∨ H e = some (.own x)) (k : ∀ b u, b ≠ e → s.heap.get? b = some u → h'.get? b = some u) (heo : ∃ u, h'.get? e = some u)
    (new : ObjOk X.prog X.w (upd H x o) h' x o) : Inv X pins σ (upd H x o) { s with heap := h', toks := t' } := I.un (Un.write mu he k heo) (I.hok.write mu he k heo new)
theorem Inv.pins_of {pins' : List (Addr × Obj)} (I : Inv X pins σ H s) (h : ∀ p ∈ pins', s.heap.get? p.1 = some p.2 ∧ H p.1 = none ∧ p.1 ≠ X.env.locals ∧ p.1 ∉ X.fs ∧ ∀ v, p.2.data ≠ .cell v) : Inv X pins' σ H s :=
  ⟨I.ok, I.os, I.bare, I.base, I.loc, I.cell, I.free, I.freeC, fun p hp => (List.mem_append.mp hp).elim (fun z => I.pin p (List.mem_append_left _ z)) (h p), I.hok, I.len⟩

theorem nodup_ix {N : List Str} (hN : N.Nodup) {i j : Nat} {x : Str} (a : N[i]? = some x) (b : N[j]? = some x) : i = j := by
  obtain ⟨h1, e1⟩ := List.getElem?_eq_some_iff.mp a
  obtain ⟨h2, e2⟩ := List.getElem?_eq_some_iff.mp b
  exact (List.getElem_inj hN).mp (e1.trans e2.symm)

/-- a name is stored; what changed -/
theorem store_ok2 {M : Model} {A : Around} {E : Value → Shared → Prop} {i : Nat} {x : Str} {v : V} {u : Value} {Q : Unit → Shared → Prop} (I : Inv X pins σ H s) (hN : X.N.Nodup) (hi : X.N[i]? = some x) (hx : Loc X.env.scope x) (r : RelV v u)
    (h : ∀ s', Inv X pins (σ.set i (some v)) H s' → (∃ a, Heap.SameBut a s.heap s'.heap ∧ (a = X.env.locals ∨ X.env.cells.lookup x = some a)) → Q () s') (hf : X.fn x = true ∨ X.env.scope.names.lookup x = some .local := by first | exact .inl rfl | exact .inr rfl | assumption) : wpAny M A (storeName X.env x u) Q E s := by
  obtain ⟨m, hn, hl⟩ := id I.loc
  have hcls : (X.env.scope.kind == .class || (X.env.scope.kind == .module && X.env.locals != X.env.globals)) = false := by rw [I.ok.kind]; rfl
  have hiσ : i < σ.length := by rw [I.len]; exact (List.getElem?_eq_some_iff.mp hi).1
  have cne := I.cne
  have tracked : ∀ {a : Addr} {h' : Heap}, (∃ o, s.heap.get? a = some o ∧ H a = none) → Heap.SameBut a s.heap h' → HOk X.prog X.w H h' := fun {a h'} ha hs b ob e => by
    obtain ⟨_, _, hfree⟩ := ha
    refine (I.hok b ob e).stay (fun c w' hc q => (hs.2 c ?_).trans q) (fun _ q => q) fun _ _ q => q
    rintro rfl
    rcases hc with rfl | hc
    · rw [hfree] at e; cases e
    · rw [hfree] at hc; cases hc
  rcases hx with hk | hk
  · refine wpAny_storeName_local hk hn (fun h' hn' hs => ?_) hcls
    obtain ⟨oL, _, _, hoL, _⟩ := id hn
    refine h _ ⟨I.ok, I.os, I.bare, ⟨fun b o e n hb hx => ?_, fun b o e n hb hx => ?_, I.base.free, fun b o e hx => ?_, I.base.tups, I.base.frzs, I.base.tbls⟩, ⟨_, hn', fun j y v' e1 e2 e3 => ?_⟩, fun y c e => ?_, I.free, I.freeC, fun p hp => ?_, tracked ⟨oL, hoL, I.free⟩ hs, by simpa using I.len⟩ ⟨_, hs, .inl rfl⟩
    · exact (hs.2 b (Nat.ne_of_lt (Nat.lt_of_lt_of_le (Heap.lt_size e) I.ok.above))).trans (I.base.keep b o e n hb hx)
    · obtain ⟨sl, e1⟩ := I.base.slot b o e n hb hx
      exact ⟨sl, (hs.2 b (Nat.ne_of_lt (Nat.lt_of_lt_of_le (Heap.lt_size e) I.ok.above))).trans e1⟩
    · obtain ⟨o', e1⟩ := I.base.there b o e hx
      exact ⟨o', (hs.2 b (Nat.ne_of_lt (Nat.lt_of_lt_of_le (Heap.lt_size e) I.ok.above))).trans e1⟩
    · by_cases hj : j = i
      · subst hj
        rw [hi] at e1; cases e1
        rw [List.getElem?_set_self hiσ] at e2
        cases e2
        exact ⟨u, r, .inl ⟨hk, by simp⟩⟩
      · rw [List.getElem?_set_ne (Ne.symm hj)] at e2
        obtain ⟨u', r', q⟩ := hl j y v' e1 e2 e3
        refine ⟨u', r', ?_⟩
        rcases q with ⟨k, e⟩ | ⟨k, c, e, z⟩
        · refine .inl ⟨k, ?_⟩
          have : y ≠ x := fun e => hj (nodup_ix hN e1 (e ▸ hi))
          simp [this, e]
        · exact .inr ⟨k, c, e, z.sameBut hs (cne y c e)⟩
    · obtain ⟨w', z⟩ := I.cell y c e
      exact ⟨w', z.sameBut hs (cne y c e)⟩
    · obtain ⟨e, n, ne, nf, d⟩ := I.pin p hp
      exact ⟨(hs.2 p.1 ne).trans e, n, ne, nf, d⟩
  · have hfn : X.fn x = true := by
      rcases hf with z | z
      · exact z
      · rw [z] at hk; cases hk
    obtain ⟨c, hc⟩ := I.ok.has x (.inl hk)
    obtain ⟨w', z⟩ := I.cell x c hc
    refine wpAny_storeName_cell I.ok.kind hk hc z (fun h' hc' hs => ?_)
    obtain ⟨oc, hoc, hocd⟩ := id z
    refine h { s with heap := h' } ⟨I.ok, I.os, I.bare, ⟨fun b o e n hb hx => ?_, fun b o e n hb hx => ?_, I.base.free, fun b o e hx => ?_, I.base.tups, I.base.frzs, I.base.tbls⟩, ⟨m, hn.sameBut hs (Ne.symm (cne x c hc)), fun j y v' e1 e2 e3 => ?_⟩, fun y c' e => ?_, I.free, I.freeC, fun p hp => ?_, tracked ⟨oc, hoc, I.freeC x c hc⟩ hs, by simpa using I.len⟩ ⟨c, hs, .inr hc⟩
    · exact (hs.2 b (Nat.ne_of_lt (Nat.lt_of_lt_of_le (Heap.lt_size e) (I.ok.cab x c hfn hc)))).trans (I.base.keep b o e n hb hx)
    · obtain ⟨sl, e1⟩ := I.base.slot b o e n hb hx
      exact ⟨sl, (hs.2 b (Nat.ne_of_lt (Nat.lt_of_lt_of_le (Heap.lt_size e) (I.ok.cab x c hfn hc)))).trans e1⟩
    · obtain ⟨o', e1⟩ := I.base.there b o e hx
      exact ⟨o', (hs.2 b (Nat.ne_of_lt (Nat.lt_of_lt_of_le (Heap.lt_size e) (I.ok.cab x c hfn hc)))).trans e1⟩
    · by_cases hj : j = i
      · subst hj
        rw [hi] at e1; cases e1
        rw [List.getElem?_set_self hiσ] at e2
        cases e2
        exact ⟨u, r, .inr ⟨.inl hk, c, hc, hc'⟩⟩
      · rw [List.getElem?_set_ne (Ne.symm hj)] at e2
        obtain ⟨u', r', q⟩ := hl j y v' e1 e2 e3
        refine ⟨u', r', ?_⟩
        rcases q with q | ⟨k, c', e, z'⟩
        · exact .inl q
        · refine .inr ⟨k, c', e, z'.sameBut hs ?_⟩
          rintro rfl
          exact hj (nodup_ix hN e1 (I.ok.inj _ _ _ e hc ▸ hi))
    · by_cases hcc : c' = c
      · subst hcc; exact ⟨_, hc'⟩
      · obtain ⟨w2, z2⟩ := I.cell y c' e
        exact ⟨w2, z2.sameBut hs hcc⟩
    · obtain ⟨e, n, ne, nf, d⟩ := I.pin p hp
      refine ⟨(hs.2 p.1 ?_).trans e, n, ne, nf, d⟩
      intro q
      rw [q, hoc] at e
      have q' : oc = p.2 := Option.some.inj e
      exact d w' (by rw [← q']; exact hocd)
theorem store_ok {M : Model} {A : Around} {E : Value → Shared → Prop} {i : Nat} {x : Str} {v : V} {u : Value} {Q : Unit → Shared → Prop} (I : Inv X pins σ H s) (hN : X.N.Nodup) (hi : X.N[i]? = some x) (hx : Loc X.env.scope x) (r : RelV v u)
    (h : ∀ s', Inv X pins (σ.set i (some v)) H s' → Q () s') (hf : X.fn x = true ∨ X.env.scope.names.lookup x = some .local := by first | exact .inl rfl | exact .inr rfl | assumption) : wpAny M A (storeName X.env x u) Q E s :=
  store_ok2 I hN hi hx r (fun s' I' _ => h s' I') hf
/-- behind a call or a block, the state as it is -/
theorem Inv.call' {s' : Shared} {ch : List Addr} (I : Inv X pins σ H s) (ho : s'.os = s.os) (u : Un (frs X.stack) ch H H' s.heap s'.heap) (hok : HOk X.prog X.w H' s'.heap) (hg : AllBare s'.gens)
    (hch : ∀ b ∈ ch, (b ∈ X.ex ∨ X.s₀.heap.objs.size ≤ b) ∧ b ≠ X.env.locals ∧ (∀ x c, X.env.cells.lookup x = some c → c ≠ b) ∧ ∀ p ∈ X.pn ++ pins, p.1 ≠ b) : Inv X pins σ H' s' := by
  obtain ⟨h', g', d', t', o'⟩ := s'
  have e : o' = s.os := ho
  subst e
  exact I.call (g' := g') (t' := t') (d' := d') u hok hg hch
end

/-! ### the judgements -/
/-- an exception: its class, its own dict's address (where it has one), the abstract heap behind it -/
abbrev XK := Value → Option Addr → Hp → Prop
abbrev St := List (Option V)
abbrev VK := V → Hp → Prop
/-- an expression's reading; a test's; an argument list's -/
abbrev TE := St → Hp → VK → Prop
abbrev TT := St → Hp → (Bool → Hp → Prop) → Prop
abbrev TA := St → Hp → (List V → Hp → Prop) → Prop
/-- what is wanted behind a statement -/
structure Ends where
  nx : St → Hp → Prop
  rt : VK
  bk : St → Hp → Prop := fun _ _ => False
  ct : St → Hp → Prop := fun _ _ => False
abbrev TS := Ends → St → Hp → Prop

def EP (X : Cx) (pins : List (Addr × Obj)) (σ : St) (Q : VK) (u : Value) (s' : Shared) : Prop := ∃ v H', Inv X pins σ H' s' ∧ RelV v u ∧ Q v H'
def TP (X : Cx) (pins : List (Addr × Obj)) (σ : St) (Q : Bool → Hp → Prop) (b : Bool) (s' : Shared) : Prop := ∃ H', Inv X pins σ H' s' ∧ Q b H'
def AP (X : Cx) (pins : List (Addr × Obj)) (σ : St) (Q : List V → Hp → Prop) (us : List Value) (s' : Shared) : Prop := ∃ vs H', Inv X pins σ H' s' ∧ Vals vs us ∧ Q vs H'
def SP (X : Cx) (pins : List (Addr × Obj)) (D : Ends) (f : Flow) (s' : Shared) : Prop :=
  match f with
  | .next => ∃ σ' H', Inv X pins σ' H' s' ∧ D.nx σ' H'
  | .brk => ∃ σ' H', Inv X pins σ' H' s' ∧ D.bk σ' H'
  | .cont => ∃ σ' H', Inv X pins σ' H' s' ∧ D.ct σ' H'
  | .ret u => ∃ v σ' H', Inv X pins σ' H' s' ∧ RelV v u ∧ D.rt v H'

def PE (X : Cx) (e : Expr) (t : TE) : Prop :=
  ∀ (pins : List (Addr × Obj)) (s : Shared) (σ : St) (H : Hp) (Q : VK), Inv X pins σ H s → t σ H Q → wpAny (model X.prog X.w) X.A (eval e X.env) (EP X pins σ Q) X.xe s
def PT (X : Cx) (e : Expr) (t : TT) : Prop :=
  ∀ (pins : List (Addr × Obj)) (s : Shared) (σ : St) (H : Hp) (Q : Bool → Hp → Prop), Inv X pins σ H s → t σ H Q → wpAny (model X.prog X.w) X.A (isTrue e X.env (eval e X.env)) (TP X pins σ Q) X.xe s
/-- a test whatever its 'whole' is (and, or) -/
def PW (X : Cx) (e : Expr) (t : TT) : Prop :=
  ∀ (whole : Sem Value) (pins : List (Addr × Obj)) (s : Shared) (σ : St) (H : Hp) (Q : Bool → Hp → Prop), Inv X pins σ H s → t σ H Q → wpAny (model X.prog X.w) X.A (isTrue e X.env whole) (TP X pins σ Q) X.xe s
theorem PW.pt {X : Cx} {e : Expr} {t : TT} (h : PW X e t) : PT X e t := h _
/-- an argument list (no star), from the left -/
def PA (X : Cx) (es : List Expr) (t : TA) : Prop :=
  ∀ (pos : Pos) (pins : List (Addr × Obj)) (s : Shared) (σ : St) (H : Hp) (Q : List V → Hp → Prop), Inv X pins σ H s → t σ H Q → wpAny (model X.prog X.w) X.A (spliced (backTo pos (starEach es X.env))) (AP X pins σ Q) X.xe s
def PS (X : Cx) (st : Stmt) (t : TS) : Prop :=
  ∀ (pins : List (Addr × Obj)) (s : Shared) (σ : St) (H : Hp) (D : Ends), Inv X pins σ H s → t D σ H → wpAny (model X.prog X.w) X.A (exec st X.env) (SP X pins D) X.xe s
def PSs (X : Cx) (st : List Stmt) (t : TS) : Prop :=
  ∀ (pins : List (Addr × Obj)) (s : Shared) (σ : St) (H : Hp) (D : Ends), Inv X pins σ H s → t D σ H → wpAny (model X.prog X.w) X.A (execs st X.env) (SP X pins D) X.xe s
/-- weaken the end -/
theorem thn {α : Type} {t : Sem α} {Q Q' : α → Shared → Prop} {M : Model} {A : Around} {E : Value → Shared → Prop} {s : Shared} (h : wpAny M A t Q E s) (hQ : ∀ a s, Q a s → Q' a s) : wpAny M A t Q' E s := wpAny_mono h hQ fun _ _ x => x
end L2

namespace L2
open PySem PySem.Spec PyProof.Rows
section
variable {X : Cx}


/-! ### names and constants -/
def tVar (i : Nat) : TE := fun σ H Q => ∃ v, σ[i]? = some (some v) ∧ Q v H
def tC (v : V) : TE := fun _ H Q => Q v H
theorem pe_var {i : Nat} {x : Str} {pos : Pos} (hN : X.N[i]? = some x) (hv : Vis X.env.scope x) (hd : (x == ("__debug__" : Str)) = false := by decide) (hcd : (x == ("__classdict__" : Str)) = false := by decide) : PE X (.Name x pos) (tVar i) := by
  intro pins s σ H Q I h
  obtain ⟨v, e, h⟩ := h
  obtain ⟨m, hn, hl⟩ := I.loc
  obtain ⟨u, r, l⟩ := hl i x v hN e hv
  have fin : EP X pins σ Q u s := ⟨v, H, I, r, h⟩
  rcases l with ⟨hk, hm⟩ | ⟨hk, c, hc, hcell⟩
  · exact wpAny_Name (wpAny_loadName_local I.ok.kind hk hn hm fin) hd
  · rcases hk with hk | hk
    · exact wpAny_Name (wpAny_loadName_cell I.ok.kind hk hc hcell fin) hd
    · exact wpAny_Name (wpAny_loadName_free I.ok.kind hk hc hcell fin hcd) hd
theorem pe_int {i j pos} : PE X (.Constant (.int i) j pos) (tC (.int i)) := fun _ _ _ H _ I h => wpAny_Constant_int ⟨.int i, H, I.tok _, ⟨_, rfl⟩, h⟩
theorem pe_bl {b j pos} : PE X (.Constant (.bool b) j pos) (tC (.bl b)) := fun _ _ _ H _ I h => Constant_bool ⟨.bl b, H, I, rfl, h⟩
theorem pe_non {j pos} : PE X (.Constant .none j pos) (tC .non) := fun _ _ _ H _ I h => Constant_none ⟨.non, H, I, rfl, h⟩
theorem pe_str {x j pos} : PE X (.Constant (.str x) j pos) (tC (.str x)) := fun _ _ _ H _ I h => Calls.Constant_str ⟨.str x, H, I.tok _, ⟨_, rfl⟩, h⟩

/-- a global name of the def -/
def Gl (X : Cx) (x : Str) : Prop := X.env.kindOf x = some .globalImplicit
theorem ld_glob {E : Value → Shared → Prop} {pins : List (Addr × Obj)} {s : Shared} {σ : St} {H : Hp} {x : Str} {u : Value} {pos : Pos} {Q : Value → Shared → Prop} (I : Inv X pins σ H s) (hg : Gl X x) (hm : X.mg x = some u) (h : Q u s)
    (hd : (x == ("__debug__" : Str)) = false := by decide) : wpAny (model X.prog X.w) X.A (eval (.Name x pos) X.env) Q E s :=
  Calls.Name_function_global I.ok.kind hg (Calls.loadGlobal_global (by rw [I.ok.glob]; exact I.mod.glob.keeps I.bk) hm h) hd
theorem ld_blt {E : Value → Shared → Prop} {pins : List (Addr × Obj)} {s : Shared} {σ : St} {H : Hp} {x : Str} {u : Value} {pos : Pos} {Q : Value → Shared → Prop} (I : Inv X pins σ H s) (hg : Gl X x) (hm : X.mg x = none) (hv : bootBuiltins x = some u) (h : Q u s)
    (hn : x ≠ "__name__" := by decide) (hd : (x == ("__debug__" : Str)) = false := by decide) : wpAny (model X.prog X.w) X.A (eval (.Name x pos) X.env) Q E s := by
  obtain ⟨mb, h1, h2⟩ := I.mod.blt
  exact Calls.Name_function_global I.ok.kind hg (Calls.loadGlobal_builtin (by rw [I.ok.glob]; exact I.mod.glob.keeps I.bk) hm (by rw [I.ok.blt]; exact h1.keeps I.bk) ((h2 x hn).trans hv) h) hd
/-- a module's constant, a class, a function, as a value -/
theorem pe_glob {x : Str} {v : V} {u : Value} {pos : Pos} (hg : Gl X x) (hm : X.mg x = some u) (r : RelV v u) (hd : (x == ("__debug__" : Str)) = false := by decide) : PE X (.Name x pos) (tC v) :=
  fun _ _ _ H _ I h => ld_glob I hg hm ⟨v, H, I, r, h⟩ hd
theorem pe_bltn {x : Str} {v : V} {u : Value} {pos : Pos} (hg : Gl X x) (hm : X.mg x = none) (hv : bootBuiltins x = some u) (r : RelV v u) (hn : x ≠ "__name__" := by decide) (hd : (x == ("__debug__" : Str)) = false := by decide) : PE X (.Name x pos) (tC v) :=
  fun _ _ _ H _ I h => ld_blt I hg hm hv ⟨v, H, I, r, h⟩ hn hd

/-! ### arithmetic -/
variable {a b : Expr} {ta tb : TE} {pos : Pos}

/-! ### comparisons -/
def PC (X : Cx) (op : CmpOp) (a b : Expr) (t : TE) : Prop :=
  ∀ (pins : List (Addr × Obj)) (s : Shared) (σ : St) (H : Hp) (Q : VK), Inv X pins σ H s → t σ H Q →
    wpAny (model X.prog X.w) X.A (eval a X.env) (fun v s₁ => wpAny (model X.prog X.w) X.A (eval b X.env) (fun u s₂ => wpAny (model X.prog X.w) X.A (compareOp op v u) (EP X pins σ Q) X.xe s₂) X.xe s₁) X.xe s

/-! ### and, or, not -/
variable {tA tB' : TT} {rest : List Expr}
def tAnd (t u : TT) : TT := fun σ H Q => t σ H fun c H1 => if c = true then u σ H1 Q else Q false H1
def tOr (t u : TT) : TT := fun σ H Q => t σ H fun c H1 => if c = true then Q true H1 else u σ H1 Q
def tNot (t : TT) : TT := fun σ H Q => t σ H fun c H1 => Q (!c) H1
theorem pw_and1 (ha : PT X a tA) : PW X (.BoolOp .And [a] pos) tA := by
  intro wh pins s σ H Q I h
  refine isTrue_and (thn (ha pins s σ H Q I h) fun c s1 e => ?_)
  cases c with
  | true => exact isTrue_and_nil e
  | false => exact e
theorem pw_or1 (ha : PT X a tA) : PW X (.BoolOp .Or [a] pos) tA := by
  intro wh pins s σ H Q I h
  refine isTrue_or (thn (ha pins s σ H Q I h) fun c s1 e => ?_)
  cases c with
  | false => exact isTrue_or_nil e
  | true => exact e
theorem pw_and (ha : PT X a tA) (hb : PW X (.BoolOp .And (b :: rest) pos) tB') : PW X (.BoolOp .And (a :: b :: rest) pos) (tAnd tA tB') := by
  intro wh pins s σ H Q I h
  refine isTrue_and (thn (ha pins s σ H _ I h) fun c s1 ⟨H1, I1, q1⟩ => ?_)
  cases c with
  | true => exact hb wh pins s1 σ H1 Q I1 q1
  | false => exact ⟨H1, I1, q1⟩
theorem pw_or (ha : PT X a tA) (hb : PW X (.BoolOp .Or (b :: rest) pos) tB') : PW X (.BoolOp .Or (a :: b :: rest) pos) (tOr tA tB') := by
  intro wh pins s σ H Q I h
  refine isTrue_or (thn (ha pins s σ H _ I h) fun c s1 ⟨H1, I1, q1⟩ => ?_)
  cases c with
  | true => exact ⟨H1, I1, q1⟩
  | false => exact hb wh pins s1 σ H1 Q I1 q1
theorem pt_not (ha : PT X a tA) : PT X (.UnaryOp .Not a pos) (tNot tA) := by
  intro pins s σ H Q I h
  exact isTrue_not (ha pins s σ H (fun c H1 => Q (!c) H1) I h)
/-- .. as values (bools) -/
def tAndV (ta tb : TE) : TE := fun σ H Q => ta σ H fun x H1 => ∃ c, x = .bl c ∧ if c = true then tb σ H1 Q else Q (.bl false) H1
def tOrV (ta tb : TE) : TE := fun σ H Q => ta σ H fun x H1 => ∃ c, x = .bl c ∧ if c = true then Q (.bl true) H1 else tb σ H1 Q
theorem pe_one {op} {t : TE} (h : PE X a t) : PE X (.BoolOp op [a] pos) t := fun pins s σ H Q I hw => BoolOp_one (h pins s σ H Q I hw)
theorem pe_and (ha : PE X a ta) (hb : PE X (.BoolOp .And (b :: rest) pos) tb) : PE X (.BoolOp .And (a :: b :: rest) pos) (tAndV ta tb) := by
  intro pins s σ H Q I h
  refine BoolOp_and (thn (ha pins s σ H _ I h) fun v s1 ⟨x, H1, I1, r1, q1⟩ => ?_)
  obtain ⟨c, rfl, q1⟩ := q1
  cases r1
  refine wpAny_truthy_bool ?_
  cases c with
  | true => exact hb pins s1 σ H1 Q I1 q1
  | false => exact ⟨.bl false, H1, I1, rfl, q1⟩
theorem pe_or (ha : PE X a ta) (hb : PE X (.BoolOp .Or (b :: rest) pos) tb) : PE X (.BoolOp .Or (a :: b :: rest) pos) (tOrV ta tb) := by
  intro pins s σ H Q I h
  refine BoolOp_or (thn (ha pins s σ H _ I h) fun v s1 ⟨x, H1, I1, r1, q1⟩ => ?_)
  obtain ⟨c, rfl, q1⟩ := q1
  cases r1
  refine wpAny_truthy_bool ?_
  cases c with
  | false => exact hb pins s1 σ H1 Q I1 q1
  | true => exact ⟨.bl true, H1, I1, rfl, q1⟩
/-- a if t else b -/
def tIf (t : TT) (ta tb : TE) : TE := fun σ H Q => t σ H fun c H1 => if c = true then ta σ H1 Q else tb σ H1 Q
theorem pe_ifExp {c : Expr} (hc : PT X c tA) (ha : PE X a ta) (hb : PE X b tb) : PE X (.IfExp c a b pos) (tIf tA ta tb) := by
  intro pins s σ H Q I h
  refine wpAny_IfExp (thn (hc pins s σ H _ I h) fun d s1 ⟨H1, I1, q1⟩ => ?_)
  cases d with
  | true => exact ha pins s1 σ H1 Q I1 q1
  | false => exact hb pins s1 σ H1 Q I1 q1
end
end L2

namespace L2
open PySem PySem.Spec PyProof.Rows

/-! ### a list, a tuple that is read: tracked, frozen, or an object of the module -/
def SqL (K : PySem.W.Frag) (H : Hp) (a : Addr) (xs : List V) : Prop :=
  Rd H a (.lst xs) ∨
    ∃ (o : Obj) (its : Array Value) (n : Nat), K.lookup a = some o ∧ o.cls = .type "list" ∧ o.dict = none ∧ o.data = .seq its n ∧ its.size ≤ sizeLine ∧ Vals xs its.toList
def SqT (K : PySem.W.Frag) (H : Hp) (a : Addr) (xs : List V) : Prop :=
  Rd H a (.tup xs) ∨
    ∃ (o : Obj) (its : Array Value) (n : Nat), K.lookup a = some o ∧ o.cls = .type "tuple" ∧ o.data = .seq its n ∧ its.size ≤ sizeLine ∧ Vals xs its.toList
def absV : Value → Option V
  | .none => some .non
  | .bool b => some (.bl b)
  | .int i _ => some (.int i)
  | .str x _ => some (.str x)
  | .bytes b _ => some (.byt b)
  | .float b _ => some (.flt b)
  | .ref a => some (.ref a)
  | .type n => some (.ty n)
  | _ => none
theorem RelV.abs {x : V} {u : Value} (r : RelV x u) : absV u = some x := by
  cases x with
  | non => cases r; rfl
  | bl _ => cases r; rfl
  | int _ => obtain ⟨t, rfl⟩ := r; rfl
  | str _ => obtain ⟨t, rfl⟩ := r; rfl
  | byt _ => obtain ⟨t, rfl⟩ := r; rfl
  | flt _ => obtain ⟨t, rfl⟩ := r; rfl
  | ref _ => cases r; rfl
  | ty _ => cases r; rfl
theorem RelV.inj {x y : V} {u : Value} (r : RelV x u) (q : RelV y u) : x = y := Option.some.inj (r.abs.symm.trans q.abs)
theorem Vals.inj : ∀ {xs ys : List V} {us : List Value}, Vals xs us → Vals ys us → xs = ys
  | _, _, _, .nil, .nil => rfl
  | _, _, _, .cons r t, .cons r' t' => by rw [r.inj r', Vals.inj t t']
section
variable {X : Cx} {pins : List (Addr × Obj)} {σ : St} {H : Hp} {s : Shared} {a : Addr} {xs ys : List V}
theorem SqL.of {K : PySem.W.Frag} (h : H a = some (.lst xs)) : SqL K H a xs := .inl (.inl h)
theorem SqT.of {K : PySem.W.Frag} (h : H a = some (.tup xs)) : SqT K H a xs := .inl (.inl h)
theorem Inv.list (I : Inv X pins σ H s) (h : SqL X.K H a xs) : ∃ its : List Value, Vals xs its ∧ PlainL s.heap a its.toArray ∧ xs.length ≤ sizeLine := by
  rcases h with h | ⟨o, its, n, hk, hc, hd, hs, hz, r⟩
  · obtain ⟨z, its, n, r, e⟩ := h.ok I.hok
    exact ⟨its, r, ⟨_, n, e, rfl, rfl, rfl⟩, z⟩
  · refine ⟨its.toList, r, ⟨o, n, I.kIn a o hk, hc, hd, by simpa using hs⟩, ?_⟩
    have e := r.length
    simp only [Array.length_toList] at e
    omega
theorem Inv.tuple (I : Inv X pins σ H s) (h : SqT X.K H a xs) : ∃ its : List Value, Vals xs its ∧ IsTup s.heap a its.toArray ∧ xs.length ≤ sizeLine := by
  rcases h with h | ⟨o, its, n, hk, hc, hs, hz, r⟩
  · obtain ⟨z, its, r, p⟩ := h.ok I.hok
    exact ⟨its, r, p, z⟩
  · refine ⟨its.toList, r, ⟨o, I.kIn a o hk, hc, n, by simpa using hs⟩, ?_⟩
    have e := r.length
    simp only [Array.length_toList] at e
    omega
theorem Inv.list_inj (I : Inv X pins σ H s) (h : SqL X.K H a xs) (h' : SqL X.K H a ys) : xs = ys := by
  obtain ⟨its, r, ⟨o, n, e, _, _, d⟩, _⟩ := I.list h
  obtain ⟨its', r', ⟨o', n', e', _, _, d'⟩, _⟩ := I.list h'
  rw [e] at e'; cases e'
  rw [d] at d'
  injection d' with d1 _
  have : its = its' := by simpa using congrArg Array.toList d1
  subst this
  exact r.inj r'
theorem Inv.tuple_inj (I : Inv X pins σ H s) (h : SqT X.K H a xs) (h' : SqT X.K H a ys) : xs = ys := by
  obtain ⟨its, r, ⟨o, e, _, n, d⟩, _⟩ := I.tuple h
  obtain ⟨its', r', ⟨o', e', _, n', d'⟩, _⟩ := I.tuple h'
  rw [e] at e'; cases e'
  rw [d] at d'
  injection d' with d1 _
  have : its = its' := by simpa using congrArg Array.toList d1
  subst this
  exact r.inj r'
end

/-! ### another wish about exceptions -/
abbrev Cx.wish (X : Cx) (E : Value → Shared → Prop) : Cx := { X with xe := E }
/-- no exception leaves -/
abbrev Cx.nox (X : Cx) : Cx := X.wish fun _ _ => False
theorem Cx.Ok.wish {X : Cx} (ok : X.Ok) (E : Value → Shared → Prop) : (X.wish E).Ok :=
  ⟨ok.mod, ok.kind, ok.glob, ok.blt, ok.above, ok.inj, ok.has, ok.cab, ok.hd, ok.frames, ok.stk, ok.exf, ok.bs, ok.bsz, ok.noex, ok.exfs, ok.funs, ok.frf⟩
theorem Cx.Ok.unwish {X : Cx} {E : Value → Shared → Prop} (ok : (X.wish E).Ok) : X.Ok :=
  ⟨ok.mod, ok.kind, ok.glob, ok.blt, ok.above, ok.inj, ok.has, ok.cab, ok.hd, ok.frames, ok.stk, ok.exf, ok.bs, ok.bsz, ok.noex, ok.exfs, ok.funs, ok.frf⟩
section
variable {X : Cx} {pins : List (Addr × Obj)} {σ : St} {H : Hp} {s : Shared} {E : Value → Shared → Prop}
theorem Inv.wish (I : Inv X pins σ H s) (E : Value → Shared → Prop) : Inv (X.wish E) pins σ H s := ⟨I.ok.wish E, I.os, I.bare, I.base, I.loc, I.cell, I.free, I.freeC, I.pin, I.hok, I.len⟩
theorem Inv.unwish (I : Inv (X.wish E) pins σ H s) : Inv X pins σ H s := ⟨I.ok.unwish, I.os, I.bare, I.base, I.loc, I.cell, I.free, I.freeC, I.pin, I.hok, I.len⟩
theorem SP.unwish {D : Ends} {f : Flow} {s' : Shared} (h : SP (X.wish E) pins D f s') : SP X pins D f s' := by
  cases f with
  | next => obtain ⟨σ', H', I, q⟩ := h; exact ⟨σ', H', I.unwish, q⟩
  | brk => obtain ⟨σ', H', I, q⟩ := h; exact ⟨σ', H', I.unwish, q⟩
  | cont => obtain ⟨σ', H', I, q⟩ := h; exact ⟨σ', H', I.unwish, q⟩
  | ret u => obtain ⟨v, σ', H', I, r, q⟩ := h; exact ⟨v, σ', H', I.unwish, r, q⟩
theorem PSs.nox {st : List Stmt} {t : TS} (h : PSs X.nox st t) : PSs X st t := fun pins s σ H D I hw =>
  wpAny_mono (h pins s σ H D (I.wish _) hw) (fun _ _ q => q.unwish) fun _ _ z => False.elim z
end

/-! ### blocks and small statements -/
section
variable {X : Cx} {st : Stmt} {rest : List Stmt} {t u : TS} {e : Expr} {te : TE} {pos : Pos}
def tNext : TS := fun D σ H => D.nx σ H
def tSeq (t u : TS) : TS := fun D σ H => t { D with nx := u D } σ H
theorem pss_nil : PSs X [] tNext := fun _ _ σ H _ I h => wpAny_execs_nil ⟨σ, H, I, h⟩
theorem pss_cons (h1 : PS X st t) (h2 : PSs X rest u) : PSs X (st :: rest) (tSeq t u) := by
  intro pins s σ H D I h
  refine wpAny_execs_cons (thn (h1 pins s σ H { D with nx := u D } I h) fun f s1 q => ?_)
  cases f with
  | next =>
    obtain ⟨σ', H', I', q⟩ := q
    exact h2 pins s1 σ' H' D I' q
  | ret v => exact q
  | brk => exact q
  | cont => exact q
theorem pss_one (h1 : PS X st t) : PSs X [st] t := by
  intro pins s σ H D I h
  refine wpAny_execs_cons (thn (h1 pins s σ H D I h) fun f s1 q => ?_)
  cases f with
  | next => exact wpAny_execs_nil q
  | ret v => exact q
  | brk => exact q
  | cont => exact q
/-- in a def's body nothing is shown -/
theorem Inv.quiet {pins : List (Addr × Obj)} {σ : St} {H : Hp} {s : Shared} (I : Inv X pins σ H s) : interactive X.env = false := by simp [interactive, I.ok.kind]
/-- an expression whose value is dropped -/
def tDrop (te : TE) : TS := fun D σ H => te σ H fun _ H1 => D.nx σ H1
theorem ps_expr (he : PE X e te) (hs : swapsWith e none pos.line X.env = pure false := by rfl) : PS X (.Expr e pos) (tDrop te) := by
  intro pins s σ H D I h
  exact wpAny_Expr_any (thn (he pins s σ H _ I h) fun v s1 ⟨x, H1, I1, r1, q1⟩ => ⟨σ, H1, I1, q1⟩) I.quiet hs
def tRet (te : TE) : TS := fun D σ H => te σ H D.rt
theorem ps_ret (he : PE X e te) : PS X (.Return (some e) pos) (tRet te) := by
  intro pins s σ H D I h
  exact wpAny_Return_some (thn (he pins s σ H _ I h) fun v s1 ⟨x, H1, I1, r1, q1⟩ => ⟨x, σ, H1, I1, r1, q1⟩)
def tIfS (c : TT) (t u : TS) : TS := fun D σ H => c σ H fun b H1 => if b = true then t D σ H1 else u D σ H1
theorem ps_if {c : Expr} {a b : List Stmt} {tc : TT} (hc : PT X c tc) (ha : PSs X a t) (hb : PSs X b u) : PS X (.If c a b pos) (tIfS tc t u) := by
  intro pins s σ H D I h
  refine wpAny_If (thn (hc pins s σ H _ I h) fun d s1 ⟨H1, I1, q1⟩ => ?_)
  cases d with
  | true => exact ha pins s1 σ H1 D I1 q1
  | false => exact hb pins s1 σ H1 D I1 q1
end

/-! ### targets -/
abbrev TG := V → St → Hp → (St → Hp → Prop) → Prop
abbrev TGs := List V → St → Hp → (St → Hp → Prop) → Prop
def PG (X : Cx) (target : Expr) (t : TG) : Prop :=
  ∀ (pins : List (Addr × Obj)) (s : Shared) (σ : St) (H : Hp) (v : V) (u : Value) (Q : St → Hp → Prop), Inv X pins σ H s → RelV v u → t v σ H Q →
    wpAny (model X.prog X.w) X.A (assign target X.env u) (fun _ s' => ∃ σ' H', Inv X pins σ' H' s' ∧ Q σ' H') X.xe s
/-- several targets, one after another -/
def PGs (X : Cx) (ts : List Expr) (t : TGs) : Prop :=
  ∀ (pins : List (Addr × Obj)) (s : Shared) (σ : St) (H : Hp) (vs : List V) (us : List Value) (Q : St → Hp → Prop), Inv X pins σ H s → Vals vs us → t vs σ H Q →
    wpAny (model X.prog X.w) X.A (assignInOrder ((assignEach ts X.env).map (·.2)) us) (fun _ s' => ∃ σ' H', Inv X pins σ' H' s' ∧ Q σ' H') X.xe s
/-- o[i] = v, by values -/
abbrev TSet := V → V → V → Hp → (Hp → Prop) → Prop
def PSet (X : Cx) (t : TSet) : Prop :=
  ∀ (pins : List (Addr × Obj)) (s : Shared) (σ : St) (H : Hp) (o i v : V) (ov iv u : Value) (Q : Hp → Prop), Inv X pins σ H s → RelV o ov → RelV i iv → RelV v u → t o i v H Q →
    wpAny (model X.prog X.w) X.A (setItem ov iv u) (fun _ s' => ∃ H', Inv X pins σ H' s' ∧ Q H') X.xe s
section
variable {X : Cx} {pos : Pos}
def gName (i : Nat) : TG := fun v σ H Q => Q (σ.set i (some v)) H
theorem pg_name {i : Nat} {x : Str} (hN : X.N.Nodup) (hi : X.N[i]? = some x) (hx : Loc X.env.scope x) (hf : X.fn x = true ∨ X.env.scope.names.lookup x = some .local := by first | exact .inl rfl | exact .inr rfl | assumption) : PG X (.Name x pos) (gName i) := by
  intro pins s σ H v u Q I r h
  exact wpAny_assign_Name (store_ok I hN hi hx r (fun s' I' => ⟨_, H, I', h⟩) hf)
def gNil : TGs := fun vs σ H Q => vs = [] ∧ Q σ H
def gCons (t : TG) (u : TGs) : TGs := fun vs σ H Q => ∃ v r, vs = v :: r ∧ t v σ H fun σ' H' => u r σ' H' Q
theorem pgs_nil : PGs X [] gNil := by
  intro pins s σ H vs us Q I r h
  obtain ⟨e, h⟩ := h
  subst e
  cases r
  exact assignInOrder_nil ⟨σ, H, I, h⟩
theorem pgs_cons {e : Expr} {es : List Expr} {t : TG} {u : TGs} (h1 : PG X e t) (h2 : PGs X es u)
    (hs : (assignEach (e :: es) X.env).map (·.2) = assign e X.env :: (assignEach es X.env).map (·.2) := by rfl) : PGs X (e :: es) (gCons t u) := by
  intro pins s σ H vs us Q I r h
  obtain ⟨v, vr, e1, h⟩ := h
  subst e1
  cases r with
  | cons r rr =>
    rw [hs]
    refine assignInOrder_cons (thn (h1 pins s σ H _ _ _ I r h) fun _ s1 ⟨σ1, H1, I1, q1⟩ => ?_)
    exact h2 pins s1 σ1 H1 _ _ Q I1 rr q1
/-- (a, b, ..) = a tuple of that length -/
def gTup (K : PySem.W.Frag) (n : Nat) (t : TGs) : TG := fun v σ H Q => ∃ a xs, v = .ref a ∧ SqT K H a xs ∧ xs.length = n ∧ t xs σ H Q
theorem pg_tup {es : List Expr} {k : Nat} {t : TGs} {n : Nat} (hc : X.calm = true) (h : PGs X es t)
    (hn : (assignEach es X.env).length = n := by rfl) (hst : (assignEach es X.env).findIdx? (·.1) = none := by rfl) : PG X (.Tuple es k pos) (gTup X.K n t) := by
  intro pins s σ H v u Q I r hw
  obtain ⟨a, xs, e1, hq, hl, hw⟩ := hw
  subst e1
  cases r
  obtain ⟨its, rv, ht, hz⟩ := I.tuple hq
  refine assign_Tuple_tuple (I.ok.hd hc) ht (by simp [hn, ← hl, rv.length]) hst fun h' hx => ?_
  have I1 : Inv X pins σ H { s with heap := h' } := I.kept (t' := s.toks) fun b o e => hx b o (Nat.ne_of_lt (Heap.lt_size e)) e
  exact h pins _ σ H xs _ Q I1 (by simpa using rv) hw
/-- o[i] = .. -/
def gSub (to ti : TE) (t : TSet) : TG := fun v σ H Q => to σ H fun o H1 => ti σ H1 fun i H2 => t o i v H2 fun H3 => Q σ H3
theorem pg_sub {o i : Expr} {to ti : TE} {t : TSet} (ho : PE X o to) (hi : PE X i ti) (hs : PSet X t)
    (ha : ∀ v, assign (.Subscript o i pos) X.env v = (do
      let ov ← holding [v] (eval o X.env)
      let iv ← holding [v, ov] (eval i X.env)
      standAt pos
      holding [v, ov, iv] (setItem ov iv v)
      release [v, ov, iv] []) := by intro _; rfl) : PG X (.Subscript o i pos) (gSub to ti t) := by
  intro pins s σ H v u Q I r h
  rw [ha]
  refine wpAny_bind (wpAny_holding (thn (ho pins s σ H _ I h) fun ov s1 ⟨x, H1, I1, r1, q1⟩ => ?_))
  refine wpAny_bind (wpAny_holding (thn (hi pins s1 σ H1 _ I1 q1) fun iv s2 ⟨y, H2, I2, r2, q2⟩ => ?_))
  refine wpAny_bind (wpAny_standAt (wpAny_bind (wpAny_holding (thn (hs pins s2 σ H2 x y v ov iv u _ I2 r1 r2 r q2) fun _ s3 ⟨H3, I3, q3⟩ => ?_))))
  exact wpAny_release ⟨σ, H3, I3, q3⟩
/-- target = value -/
def tAsg (te : TE) (g : TG) : TS := fun D σ H => te σ H fun x H1 => g x σ H1 D.nx
theorem ps_asg {tg e : Expr} {te : TE} {g : TG} (he : PE X e te) (hg : PG X tg g) (hs : swapsWithSole [tg] e pos.line X.env = pure false := by rfl) (hw : swappedStores [tg] e X.env = pure none := by rfl)
    (h1 : (assignEach [tg] X.env).map (·.2) = [assign tg X.env] := by rfl) : PS X (.Assign [tg] e pos) (tAsg te g) := by
  intro pins s σ H D I h
  refine wpAny_Assign_stores (thn (he pins s σ H _ I h) fun v s1 ⟨x, H1, I1, r1, q1⟩ => ?_) hs hw
  rw [h1]
  exact thn (hg pins s1 σ H1 x v _ I1 r1 q1) fun _ s2 q => q
/-- name = value -/
theorem ps_set {i : Nat} {x : Str} {e : Expr} {te : TE} {pos' : Pos} (hN : X.N.Nodup) (hi : X.N[i]? = some x) (hx : Loc X.env.scope x) (he : PE X e te) (hs : swapsWith e (some (.Name x pos')) pos.line X.env = pure false := by rfl) (hf : X.fn x = true ∨ X.env.scope.names.lookup x = some .local := by first | exact .inl rfl | exact .inr rfl | assumption) :
    PS X (.Assign [.Name x pos'] e pos) (tAsg te (gName i)) := by
  intro pins s σ H D I h
  refine wpAny_Assign_Name (thn (he pins s σ H _ I h) fun v s1 ⟨y, H1, I1, r1, q1⟩ => ?_) hs
  exact store_ok I1 hN hi hx r1 (fun s2 I2 => ⟨_, H1, I2, q1⟩) hf
end

/-! ### while -/
section
variable {X : Cx} {pos : Pos}
end

/-! ### what a loop or a comprehension walks -/
/-- at turn i: it yields x (the heap may grow), or it stops -/
structure It where
  go : Nat → Hp → Prop
  yld : Nat → Hp → V → Hp → Prop
  stop : Nat → Hp → Prop
/-- the iterator's own objects may turn: they are not the frame's, not pinned, younger than the entry (or a comprehension's own) -/
def FpOk (X : Cx) (pins : List (Addr × Obj)) (H : Hp) (b : Addr) : Prop :=
  H b = none ∧ b ≠ X.env.locals ∧ b ∉ X.fs ∧ (b ∈ X.ex ∨ X.s₀.heap.objs.size ≤ b) ∧ (∀ x c, X.env.cells.lookup x = some c → c ≠ b) ∧ ∀ p ∈ X.pn ++ pins, p.1 ≠ b
theorem Inv.fpOk {X : Cx} {pins : List (Addr × Obj)} {σ : St} {H H' : Hp} {s : Shared} {b : Addr} (I : Inv X pins σ H s) (hb : s.heap.objs.size ≤ b) (hn : H' b = none) : FpOk X pins H' b := by
  refine ⟨hn, Nat.ne_of_gt (Nat.lt_of_lt_of_le I.lt hb), I.nofs hb, .inr (Nat.le_trans I.sz hb), fun x c e z => ?_, fun p hp z => ?_⟩
  · obtain ⟨v, q⟩ := I.cell x c e
    exact absurd (Nat.lt_of_lt_of_le q.lt (by rw [z]; exact hb)) (Nat.lt_irrefl _)
  · exact absurd (Nat.lt_of_lt_of_le (Heap.lt_size (I.pin p hp).1) (by rw [z]; exact hb)) (Nat.lt_irrefl _)
structure Turn (P : Program) (w : World) (K : PySem.W.Frag) (tg : Expr) (J : It) (fp : List Addr) (it : Addr) (tn : Nat → Heap → Prop) : Prop where
  mem : it ∈ fp
  obj : ∀ i h, tn i h → ∀ b ∈ fp, ∃ o, h.get? b = some o ∧ ∀ v, o.data ≠ .cell v
  keep : ∀ i h h', tn i h → (∀ b ∈ fp, ∀ o, h.get? b = some o → h'.get? b = some o) → tn i h'
  item : ∀ (X : Cx), X.prog = P → X.w = w → X.K = K → X.calm = true → ∀ (i : Nat) (pins : List (Addr × Obj)) (s : Shared) (σ : St) (H : Hp) (E : Value → Shared → Prop), Inv X pins σ H s → (∀ b ∈ fp, FpOk X pins H b) → tn i s.heap → J.go i H →
    wpAny (model P w) X.A (pyNext (.ref it)) (fun r s1 => ∃ u, r = some u ∧
      wpAny (model P w) X.A (letOwnedTupleGo tg (.ref it) u) (fun _ s2 => ∃ x H', Inv X pins σ H' s2 ∧ RelV x u ∧ J.yld i H x H' ∧ tn (i + 1) s2.heap ∧ ∀ b ∈ fp, H' b = none) E s1) E s
  done : ∀ (X : Cx), X.prog = P → X.w = w → X.K = K → X.calm = true → ∀ (i : Nat) (pins : List (Addr × Obj)) (s : Shared) (σ : St) (H : Hp) (E : Value → Shared → Prop), Inv X pins σ H s → (∀ b ∈ fp, FpOk X pins H b) → tn i s.heap → J.stop i H →
    wpAny (model P w) X.A (pyNext (.ref it)) (fun r s1 => r = none ∧ Inv X pins σ H s1) E s
  self : ∀ (A : Around) (i : Nat) (s : Shared) (Q : Value → Shared → Prop) (E : Value → Shared → Prop), tn i s.heap → Q (.ref it) s → wpAny (model P w) A (pyIter (.ref it)) Q E s
abbrev TI := St → Hp → (It → Hp → Prop) → Prop
/-- an iterator has come -/
def PIE (X : Cx) (pins : List (Addr × Obj)) (σ : St) (tg : Expr) (R : It → Hp → Prop) (itv : Value) (s2 : Shared) : Prop :=
  ∃ (it : Addr) (fp : List Addr) (tn : Nat → Heap → Prop) (J : It) (H' : Hp), itv = .ref it ∧ Inv X pins σ H' s2 ∧ Turn X.prog X.w X.K tg J fp it tn ∧ tn 0 s2.heap ∧ (∀ b ∈ fp, FpOk X pins H' b) ∧ R J H'
def PI (X : Cx) (tg iter : Expr) (wi : TI) : Prop :=
  ∀ (pins : List (Addr × Obj)) (s : Shared) (σ : St) (H : Hp) (R : It → Hp → Prop), Inv X pins σ H s → wi σ H R →
    wpAny (model X.prog X.w) X.A (eval iter X.env) (fun v s1 => wpAny (model X.prog X.w) X.A (pyIter v) (PIE X pins σ tg R) X.xe s1) X.xe s

/-- the step ahead of the store is nothing for an iterator that keeps no tuple -/
theorem go_of {M : Model} {A : Around} {E : Value → Shared → Prop} {s : Shared} {tg : Expr} {it : Addr} {u : Value} {o : Obj} {n : String} {vs : Array Value} {Q : Unit → Shared → Prop} (ho : s.heap.get? it = some o) (hc : o.cls = .type n) (hd : o.data = .fields vs)
    (hn : ["enumerate", "zip", "dict_itemiterator", "dict_reverseitemiterator", "odict_iterator", "itertools.zip_longest", "itertools.pairwise"].contains n = false) (hQ : Q () s) : wpAny M A (letOwnedTupleGo tg (.ref it) u) Q E s := by
  unfold letOwnedTupleGo
  cases tg <;> first
    | exact wpAny_pure hQ
    | (cases u <;> first
        | exact wpAny_pure hQ
        | (refine wpAny_bind (wpAny_load ho ?_)
           rw [hc, hd]
           show wpAny M A (if (["enumerate", "zip", "dict_itemiterator", "dict_reverseitemiterator", "odict_iterator", "itertools.zip_longest", "itertools.pairwise"].contains n && vs[0]? == some (rawInt _)) = true then _ else _) Q E s
           rw [if_neg (by intro h; rw [hn, Bool.false_and] at h; cases h)]
           exact wpAny_pure hQ))

/-- the list at a, as it stands at each turn (a loop may append to it) -/
def Itl (K : PySem.W.Frag) (a : Addr) : It :=
  ⟨fun i H => ∃ xs x, SqL K H a xs ∧ xs[i]? = some x, fun i H x H' => H' = H ∧ ∀ xs, SqL K H a xs → xs[i]? = some x, fun i H => ∃ xs, SqL K H a xs ∧ xs.length ≤ i⟩
def Itt (K : PySem.W.Frag) (a : Addr) : It :=
  ⟨fun i H => ∃ xs x, SqT K H a xs ∧ xs[i]? = some x, fun i H x H' => H' = H ∧ ∀ xs, SqT K H a xs → xs[i]? = some x, fun i H => ∃ xs, SqT K H a xs ∧ xs.length ≤ i⟩
/-- lo, lo + 1, .. (n of them) -/
def Itr (lo : Int) (n : Nat) : It := ⟨fun i _ => i < n, fun i H x H' => H' = H ∧ x = .int (lo + i), fun i _ => n ≤ i⟩
theorem turn_list {P : Program} {w : World} {K : PySem.W.Frag} {tg : Expr} (a it : Addr) : Turn P w K tg (Itl K a) [it] it (fun i h => h.IsListIter it a i) where
  mem := by simp
  obj := fun i h st b hb => by
    have e : b = it := by simpa using hb
    subst e
    obtain ⟨o, e, c, d⟩ := st
    exact ⟨o, e, fun v z => by rw [d] at z; cases z⟩
  keep := fun i h h' st k => st.at fun o e => k it (by simp) o e
  item := by
    intro X hP hw hK hc i pins s σ H E I hf st hg
    subst hP hw hK
    obtain ⟨xs, x, hq, hx⟩ := hg
    obtain ⟨its, rv, p, hz⟩ := I.list hq
    obtain ⟨u, hu, ru⟩ := rv.get hx
    obtain ⟨f0, f1, f2, f3, f4, f5⟩ := hf it (by simp)
    refine wpAny_pyNext_list_item st p.isList (x := u) (by simpa using hu) fun h' st' sb => ?_
    have I1 : Inv X pins σ H { s with heap := h' } := I.turned (t' := s.toks) (fun b o hb e => (sb.2 b hb).trans e) f0 f1 f3 f4 f5
    obtain ⟨o, e, c, d⟩ := id st'
    exact ⟨u, rfl, go_of (s := { s with heap := h' }) e c d (by decide) ⟨x, H, I1, ru, ⟨rfl, fun ys hy => by rw [I.list_inj hy hq]; exact hx⟩, st', fun b hb => (hf b hb).1⟩⟩
  done := by
    intro X hP hw hK hc i pins s σ H E I hf st hg
    subst hP hw hK
    obtain ⟨xs, hq, hx⟩ := hg
    obtain ⟨its, rv, p, hz⟩ := I.list hq
    obtain ⟨f0, f1, f2, f3, f4, f5⟩ := hf it (by simp)
    have hl := rv.length
    exact wpAny_pyNext_list_end (I.ok.hd hc) st p.isList (by simp; omega) fun h' eb => ⟨rfl, I.turned (t' := s.toks) (fun b o hb e => eb b o hb e) f0 f1 f3 f4 f5⟩
  self := fun _ _ _ _ _ st h => wpAny_pyIter_listiter st h
theorem turn_tuple {P : Program} {w : World} {K : PySem.W.Frag} {tg : Expr} (a it : Addr) : Turn P w K tg (Itt K a) [it] it (fun i h => h.IsTupleIter it a i) where
  mem := by simp
  obj := fun i h st b hb => by
    have e : b = it := by simpa using hb
    subst e
    obtain ⟨o, e, c, d⟩ := st
    exact ⟨o, e, fun v z => by rw [d] at z; cases z⟩
  keep := fun i h h' st k => st.at fun o e => k it (by simp) o e
  item := by
    intro X hP hw hK hc i pins s σ H E I hf st hg
    subst hP hw hK
    obtain ⟨xs, x, hq, hx⟩ := hg
    obtain ⟨its, rv, p, hz⟩ := I.tuple hq
    obtain ⟨u, hu, ru⟩ := rv.get hx
    obtain ⟨f0, f1, f2, f3, f4, f5⟩ := hf it (by simp)
    refine wpAny_pyNext_tuple_item st (show s.heap.IsTuple a its.toArray from p) (x := u) (by simpa using hu) fun h' st' sb => ?_
    have I1 : Inv X pins σ H { s with heap := h' } := I.turned (t' := s.toks) (fun b o hb e => (sb.2 b hb).trans e) f0 f1 f3 f4 f5
    obtain ⟨o, e, c, d⟩ := id st'
    exact ⟨u, rfl, go_of (s := { s with heap := h' }) e c d (by decide) ⟨x, H, I1, ru, ⟨rfl, fun ys hy => by rw [I.tuple_inj hy hq]; exact hx⟩, st', fun b hb => (hf b hb).1⟩⟩
  done := by
    intro X hP hw hK hc i pins s σ H E I hf st hg
    subst hP hw hK
    obtain ⟨xs, hq, hx⟩ := hg
    obtain ⟨its, rv, p, hz⟩ := I.tuple hq
    obtain ⟨f0, f1, f2, f3, f4, f5⟩ := hf it (by simp)
    have hl := rv.length
    exact wpAny_pyNext_tuple_end (I.ok.hd hc) st (show s.heap.IsTuple a its.toArray from p) (by simp; omega) fun h' eb => ⟨rfl, I.turned (t' := s.toks) (fun b o hb e => eb b o hb e) f0 f1 f3 f4 f5⟩
  self := fun _ _ _ _ _ st h => wpAny_pyIter_tupleiter st h
theorem turn_range {P : Program} {w : World} {K : PySem.W.Frag} {tg : Expr} (it : Addr) (lo : Int) (n : Nat) : Turn P w K tg (Itr lo n) [it] it (fun i h => IsRangeIter h it (lo + (i : Nat) * 1) ((n : Int) - (i : Nat)) 1) where
  mem := by simp
  obj := fun i h st b hb => by
    have e : b = it := by simpa using hb
    subst e
    exact ⟨_, st, fun v z => by
      have z' : Data.fields _ = Data.cell v := z
      cases z'⟩
  keep := fun i h h' st k => k it (by simp) _ st
  item := by
    intro X hP hw hK hc i pins s σ H E I hf st hg
    subst hP hw hK
    obtain ⟨f0, f1, f2, f3, f4, f5⟩ := hf it (by simp)
    have W := Walks.range (prog := X.prog) (w := X.w) (I.ok.hd hc) it lo 1 n
    refine W.item i s _ _ hg st fun v h' tk hv st' kk => ?_
    obtain ⟨t, rfl⟩ := hv
    have I1 : Inv X pins σ H { s with heap := h', toks := tk } := I.turned (fun b o hb e => kk b o (by simpa using hb) e) f0 f1 f3 f4 f5
    refine ⟨_, rfl, go_of (s := { s with heap := h', toks := tk }) (n := "range_iterator") st' rfl rfl (by decide) ⟨.int (lo + i), H, I1, ⟨t, ?_⟩, ⟨rfl, rfl⟩, st', fun b hb => (hf b hb).1⟩⟩
    rw [Int.mul_one]
  done := by
    intro X hP hw hK hc i pins s σ H E I hf st hg
    subst hP hw hK
    obtain ⟨f0, f1, f2, f3, f4, f5⟩ := hf it (by simp)
    exact wpAny_pyNext_range_end (I.ok.hd hc) st (by have : n ≤ i := hg; omega) fun h' eb => ⟨rfl, I.turned (t' := s.toks) (fun b o hb e => eb b o hb e) f0 f1 f3 f4 f5⟩
  self := fun _ _ _ _ _ st h => wpAny_pyIter_rangeiter st h
end L2

namespace L2
open PySem PySem.Spec PyProof.Rows
section
variable {X : Cx} {tg : Expr}
def iList (K : PySem.W.Frag) (tl : TE) : TI := fun σ H R => tl σ H fun x H1 => ∃ a, x = .ref a ∧ (∃ xs, SqL K H1 a xs) ∧ R (Itl K a) H1
def iTup (K : PySem.W.Frag) (tl : TE) : TI := fun σ H R => tl σ H fun x H1 => ∃ a, x = .ref a ∧ (∃ xs, SqT K H1 a xs) ∧ R (Itt K a) H1
theorem pi_list {l : Expr} {tl : TE} (hl : PE X l tl) : PI X tg l (iList X.K tl) := by
  intro pins s σ H R I h
  refine thn (hl pins s σ H _ I h) fun v s1 ⟨x, H1, I1, r1, q1⟩ => ?_
  obtain ⟨a, e, ⟨xs, hq⟩, q⟩ := q1
  subst e
  cases r1
  obtain ⟨its, rv, p, hz⟩ := I1.list hq
  refine wpAny_pyIter_list p.isList ?_
  refine ⟨s1.heap.objs.size, [s1.heap.objs.size], _, _, H1, rfl, I1.kept (t' := s1.toks) fun b o e => Heap.get?_push_of_some _ e, turn_list a _, ⟨_, Heap.get?_push_size _ rfl, rfl, rfl⟩, fun b hb => ?_, q⟩
  have e : b = s1.heap.objs.size := by simpa using hb
  subst e
  exact I1.fpOk (Nat.le_refl _) (I1.hok.fresh (Nat.le_refl _))
theorem pi_tup {l : Expr} {tl : TE} (hl : PE X l tl) : PI X tg l (iTup X.K tl) := by
  intro pins s σ H R I h
  refine thn (hl pins s σ H _ I h) fun v s1 ⟨x, H1, I1, r1, q1⟩ => ?_
  obtain ⟨a, e, ⟨xs, hq⟩, q⟩ := q1
  subst e
  cases r1
  obtain ⟨its, rv, p, hz⟩ := I1.tuple hq
  refine wpAny_pyIter_tuple (show s1.heap.IsTuple a its.toArray from p) ?_
  refine ⟨s1.heap.objs.size, [s1.heap.objs.size], _, _, H1, rfl, I1.kept (t' := s1.toks) fun b o e => Heap.get?_push_of_some _ e, turn_tuple a _, ⟨_, Heap.get?_push_size _ rfl, rfl, rfl⟩, fun b hb => ?_, q⟩
  have e : b = s1.heap.objs.size := by simpa using hb
  subst e
  exact I1.fpOk (Nat.le_refl _) (I1.hok.fresh (Nat.le_refl _))
/-- a range object just made, walked -/
theorem range_it {pins : List (Addr × Obj)} {σ : St} {H : Hp} {s : Shared} {R : It → Hp → Prop} {E : Value → Shared → Prop} {lo hi : Int} {t u v : Tok} {tk : Nat} (I : Inv X pins σ H s) (h1 : -(2 ^ 62) ≤ lo) (h2 : lo < 2 ^ 62) (h3 : -(2 ^ 62) ≤ hi) (h4 : hi < 2 ^ 62)
    (q : R (Itr lo (hi - lo).toNat) H) : wpAny (model X.prog X.w) X.A (pyIter (.ref s.heap.objs.size)) (PIE X pins σ tg R) E { s with heap := s.heap.push { cls := .type "range", data := .fields #[.int lo t, .int hi u, .int 1 v] }, toks := tk } := by
  refine wpAny_pyIter_range (IsRange.new ..) (small_one h1 h2 h3 h4) ?_
  have I1 : Inv X pins σ H { s with heap := s.heap.push { cls := .type "range", data := .fields #[.int lo t, .int hi u, .int 1 v] }, toks := tk } := I.kept fun b o e => Heap.get?_push_of_some _ e
  refine ⟨(s.heap.push { cls := .type "range", data := .fields #[.int lo t, .int hi u, .int 1 v] }).objs.size, [(s.heap.push { cls := .type "range", data := .fields #[.int lo t, .int hi u, .int 1 v] }).objs.size], _, _, H, rfl,
    I1.kept (t' := tk) fun b o e => Heap.get?_push_of_some _ e, turn_range _ lo (hi - lo).toNat, ?_, fun b hb => ?_, q⟩
  · have e1 : lo + ((0 : Nat) : Int) * 1 = lo := by simp
    have e2 : (((hi - lo).toNat : Nat) : Int) - ((0 : Nat) : Int) = Builtin.Range.rangeSize lo hi 1 := by rw [rangeSize_one]; split <;> omega
    show IsRangeIter _ _ (lo + ((0 : Nat) : Int) * 1) ((((hi - lo).toNat : Nat) : Int) - ((0 : Nat) : Int)) 1
    rw [e1, e2]
    exact Heap.get?_push_size _ rfl
  · have e : b = (s.heap.push { cls := .type "range", data := .fields #[.int lo t, .int hi u, .int 1 v] }).objs.size := by simpa using hb
    subst e
    exact I1.fpOk (Nat.le_refl _) (I1.hok.fresh (Nat.le_refl _))
def iRng1 (ta : TA) : TI := fun σ H R => ta σ H fun vs H1 => ∃ j : Int, vs = [.int j] ∧ -(2 ^ 62) ≤ j ∧ j < 2 ^ 62 ∧ R (Itr 0 j.toNat) H1
def iRng2 (ta : TA) : TI := fun σ H R => ta σ H fun vs H1 => ∃ i j : Int, vs = [.int i, .int j] ∧ (-(2 ^ 62) ≤ i ∧ i < 2 ^ 62 ∧ -(2 ^ 62) ≤ j ∧ j < 2 ^ 62) ∧ R (Itr i (j - i).toNat) H1
theorem pi_range1 {a : Expr} {ta : TA} {p pos : Pos} (hg : Gl X "range") (hm : X.mg "range" = none) (ha : PA X [a] ta) (hs : starEach [a] X.env = [(false, eval a X.env)] := by rfl) : PI X tg (.Call (.Name "range" p) [a] [] pos) (iRng1 ta) := by
  intro pins s σ H R I h
  refine Call_ (ld_blt I hg hm boot_range (PyProof.Rows.callWith_type1 (thn (ha pos pins s σ H _ I h) fun us s1 ⟨vs, H1, I1, r1, q1⟩ => ?_) hs rfl))
  obtain ⟨j, e, q1, q2, q⟩ := q1
  subst e
  cases r1 with
  | cons r rr =>
    cases rr
    obtain ⟨t, rfl⟩ := r
    exact call_range_1 (range_it I1 (by omega) (by omega) q1 q2 (by simpa using q))
theorem pi_range2 {a b : Expr} {ta : TA} {p pos : Pos} (hg : Gl X "range") (hm : X.mg "range" = none) (ha : PA X [a, b] ta) (hs : starEach [a, b] X.env = [(false, eval a X.env), (false, eval b X.env)] := by rfl) (hs2 : starEach [b] X.env = [(false, eval b X.env)] := by rfl) :
    PI X tg (.Call (.Name "range" p) [a, b] [] pos) (iRng2 ta) := by
  intro pins s σ H R I h
  refine Call_ (ld_blt I hg hm boot_range (PyProof.Rows.callWith_type1 (thn (ha pos pins s σ H _ I h) fun us s1 ⟨vs, H1, I1, r1, q1⟩ => ?_) (by rw [hs, hs2]) (by rw [hs2]; rfl)))
  obtain ⟨i, j, e, ⟨q1, q2, q3, q4⟩, q⟩ := q1
  subst e
  cases r1 with
  | cons r rr =>
    cases rr with
    | cons r' rr =>
      cases rr
      obtain ⟨t, rfl⟩ := r
      obtain ⟨t', rfl⟩ := r'
      exact call_range_2 (range_it I1 q1 q2 q3 q4 q)

/-! ### for -/
/-- W: the invariant by the turn and a measure; N: what the body is to reach -/
def tFor (wi : TI) (g : TG) (tb : TS) : TS := fun D σ H => wi σ H fun J H1 => ∃ W : Nat → Nat → St → Hp → Prop, (∃ m, W 0 m σ H1) ∧ ∀ i m σ H, W i m σ H →
  (J.stop i H ∧ D.nx σ H) ∨ (J.go i H ∧ ∃ N : St → Hp → Prop, (∀ σ' H', N σ' H' → ∃ m', m' < m ∧ W (i + 1) m' σ' H') ∧ ∀ x H', J.yld i H x H' → g x σ H' fun σ2 H2 => tb { D with nx := N, ct := N, bk := D.nx } σ2 H2)
/-- the records at fp as they stand -/
def pinsAt (fp : List Addr) (h : Heap) : List (Addr × Obj) := fp.filterMap fun b => (h.get? b).map fun o => (b, o)
theorem mem_pinsAt {fp : List Addr} {h : Heap} {b : Addr} {o : Obj} (hb : b ∈ fp) (e : h.get? b = some o) : (b, o) ∈ pinsAt fp h := List.mem_filterMap.mpr ⟨b, hb, by rw [e]; rfl⟩
theorem of_pinsAt {fp : List Addr} {h : Heap} {p : Addr × Obj} (hp : p ∈ pinsAt fp h) : p.1 ∈ fp ∧ h.get? p.1 = some p.2 := by
  obtain ⟨b, hb, e⟩ := List.mem_filterMap.mp hp
  cases q : h.get? b with
  | none => rw [q] at e; cases e
  | some o =>
    rw [q] at e
    have e' : (b, o) = p := Option.some.inj e
    subst e'
    exact ⟨hb, q⟩
theorem Inv.pinned {pins : List (Addr × Obj)} {σ : St} {H : Hp} {s : Shared} {fp : List Addr} (I : Inv X pins σ H s) (hf : ∀ b ∈ fp, FpOk X pins H b) (ho : ∀ b ∈ fp, ∃ o, s.heap.get? b = some o ∧ ∀ v, o.data ≠ .cell v) : Inv X (pins ++ pinsAt fp s.heap) σ H s :=
  I.pins_of fun p hp => (List.mem_append.mp hp).elim (fun z => I.pin p (List.mem_append_right _ z)) fun z => by
    obtain ⟨hb, e⟩ := of_pinsAt z
    obtain ⟨f0, f1, f2, _⟩ := hf p.1 hb
    obtain ⟨o, e', d⟩ := ho p.1 hb
    rw [e] at e'; cases e'
    exact ⟨e, f0, f1, f2, d⟩
theorem Inv.unpinned {pins pl : List (Addr × Obj)} {σ : St} {H : Hp} {s : Shared} (I : Inv X (pins ++ pl) σ H s) : Inv X pins σ H s := I.pins_of fun p hp => I.pin p (List.mem_append_right _ (List.mem_append_left _ hp))
theorem ps_for {iter : Expr} {body : List Stmt} {wi : TI} {g : TG} {tb : TS} {pos : Pos} (hp : PassesOwn (model X.prog X.w) X.A X.env X.xe) (hc : X.calm = true) (hi : PI X tg iter wi) (hg : PG X tg g) (hb : PSs X body tb)
    (hs : ∀ x, foldedSetIterable iter X.env x = pure x := by intro _; rfl) : PS X (.For tg iter body [] pos) (tFor wi g tb) := by
  intro pins s σ H D I h
  refine wpAny_For (thn (hi pins s σ H _ I h) fun v s1 h1 => thn h1 fun itv s2 h2 => ?_) hs
  obtain ⟨it, fp, tn, J, H2, e, I2, T, st2, f2, W, ⟨m0, w0⟩, turn⟩ := h2
  subst e
  -- what stays true of the iterator's objects through the loop
  have stat : ∀ {H' : Hp}, (∀ b ∈ fp, H' b = none) → ∀ b ∈ fp, FpOk X pins H' b := fun hn b hb => ⟨hn b hb, (f2 b hb).2⟩
  refine codeAny_forLoop_any (fun n s' => ∃ i σ' H', Inv X pins σ' H' s' ∧ tn i s'.heap ∧ (∀ b ∈ fp, H' b = none) ∧ W i n σ' H') ?_ m0 ⟨0, σ, H2, I2, st2, fun b hb => (f2 b hb).1, w0⟩
  rintro n s3 ⟨i, σ3, H3, I3, st3, fr3, w3⟩
  rcases turn i n σ3 H3 w3 with ⟨stop, qn⟩ | ⟨go, N, hN, step⟩
  · refine wpAny_passesOwn hp (thn (T.done X rfl rfl rfl hc i pins s3 σ3 H3 X.xe I3 (stat fr3) st3 stop) fun r s4 ⟨hr, I4⟩ => ?_)
    subst hr
    exact wpAny_execs_nil ⟨σ3, H3, I4, qn⟩
  · refine wpAny_passesOwn hp (thn (T.item X rfl rfl rfl hc i pins s3 σ3 H3 X.xe I3 (stat fr3) st3 go) fun r s4 ⟨u, hr, h4⟩ => ?_)
    subst hr
    refine wpAny_passesOwn hp (thn h4 fun _ s5 ⟨x, H5, I5, r5, y5, st5, fr5⟩ => ?_)
    have I5' := I5.pinned (stat fr5) (T.obj _ _ st5)
    refine wpAny_passesOwn hp (thn (hg _ s5 σ3 H5 x u _ I5' r5 (step x H5 y5)) fun _ s6 ⟨σ6, H6, I6, q6⟩ => ?_)
    refine wpAny_passesOwn hp (thn (hb _ s6 σ6 H6 _ I6 q6) fun f s7 q7 => ?_)
    have again : ∀ {σ7 : St} {H7 : Hp}, Inv X (pins ++ pinsAt fp s5.heap) σ7 H7 s7 → N σ7 H7 → ∃ m, m < n ∧ ∃ i σ' H', Inv X pins σ' H' s7 ∧ tn i s7.heap ∧ (∀ b ∈ fp, H' b = none) ∧ W i m σ' H' := fun {σ7 H7} I7 n7 => by
      obtain ⟨m', hm, w7⟩ := hN σ7 H7 n7
      refine ⟨m', hm, i + 1, σ7, H7, I7.unpinned, T.keep _ _ _ st5 fun b hb o e => (I7.pin (b, o) (List.mem_append_right _ (List.mem_append_right _ (mem_pinsAt hb e)))).1, fun b hb => ?_, w7⟩
      obtain ⟨o, e, d⟩ := T.obj _ _ st5 b hb
      exact (I7.pin (b, o) (List.mem_append_right _ (List.mem_append_right _ (mem_pinsAt hb e)))).2.1
    cases f with
    | next => obtain ⟨σ7, H7, I7, n7⟩ := q7; exact again I7 n7
    | cont => obtain ⟨σ7, H7, I7, n7⟩ := q7; exact again I7 n7
    | brk => obtain ⟨σ7, H7, I7, q7⟩ := q7; exact ⟨σ7, H7, I7.unpinned, q7⟩
    | ret v => obtain ⟨x7, σ7, H7, I7, r7, q7⟩ := q7; exact ⟨x7, σ7, H7, I7.unpinned, r7, q7⟩
end

/-! ### the forms one uses -/
/-- over a list that the body leaves as it is -/
theorem for_list {K : PySem.W.Frag} {a : Addr} {xs : List V} {g : TG} {tb : TS} {D : Ends} {σ : St} {H : Hp} (Pv : Nat → St → Hp → Prop) (h0 : Pv 0 σ H) (hl : ∀ i σ H, i ≤ xs.length → Pv i σ H → SqL K H a xs)
    (hs : ∀ i x σ H, xs[i]? = some x → Pv i σ H → g x σ H fun σ2 H2 => tb { D with nx := Pv (i + 1), ct := Pv (i + 1), bk := D.nx } σ2 H2) (hd : ∀ σ H, Pv xs.length σ H → D.nx σ H) :
    ∃ W : Nat → Nat → St → Hp → Prop, (∃ m, W 0 m σ H) ∧ ∀ i m σ H, W i m σ H →
      ((Itl K a).stop i H ∧ D.nx σ H) ∨ ((Itl K a).go i H ∧ ∃ N : St → Hp → Prop, (∀ σ' H', N σ' H' → ∃ m', m' < m ∧ W (i + 1) m' σ' H') ∧ ∀ x H', (Itl K a).yld i H x H' → g x σ H' fun σ2 H2 => tb { D with nx := N, ct := N, bk := D.nx } σ2 H2) := by
  refine ⟨fun i m σ H => m = xs.length - i ∧ i ≤ xs.length ∧ Pv i σ H, ⟨xs.length, by simp, Nat.zero_le _, h0⟩, ?_⟩
  rintro i m σ H ⟨rfl, hi, p⟩
  have q := hl i σ H hi p
  by_cases hlt : i < xs.length
  · refine .inr ⟨⟨xs, xs[i], q, by simp [hlt]⟩, Pv (i + 1), fun σ' H' p' => ⟨xs.length - (i + 1), by omega, rfl, hlt, p'⟩, fun x H' y => ?_⟩
    obtain ⟨e, y⟩ := y
    subst e
    exact hs i x σ _ (y xs q) p
  · have e : i = xs.length := by omega
    subst e
    exact .inl ⟨⟨xs, q, Nat.le_refl _⟩, hd σ H p⟩
end L2

namespace L2
open PySem PySem.Spec PyProof.Rows

abbrev R2 := V → V → Hp → VK → Prop
/-- a two-place operation on values: f is binaryOp op, inplaceOp op or compareOp op -/
def OpR (X : Cx) (f : Value → Value → Sem Value) (r : R2) : Prop :=
  ∀ (pins : List (Addr × Obj)) (s : Shared) (σ : St) (H : Hp) (x y : V) (v u : Value) (Q : VK), Inv X pins σ H s → RelV x v → RelV y u → r x y H Q →
    wpAny (model X.prog X.w) X.A (f v u) (EP X pins σ Q) X.xe s
/-- a one-place operation -/
def UnR (X : Cx) (f : Value → Sem Value) (r : V → Hp → VK → Prop) : Prop :=
  ∀ (pins : List (Addr × Obj)) (s : Shared) (σ : St) (H : Hp) (x : V) (v : Value) (Q : VK), Inv X pins σ H s → RelV x v → r x H Q →
    wpAny (model X.prog X.w) X.A (f v) (EP X pins σ Q) X.xe s
/-- a call of a value that is known (a builtin, a type) with values -/
def CallR (X : Cx) (f : Value) (r : List V → Hp → VK → Prop) : Prop :=
  ∀ (pins : List (Addr × Obj)) (s : Shared) (σ : St) (H : Hp) (xs : List V) (us : List Value) (Q : VK), Inv X pins σ H s → Vals xs us → r xs H Q →
    wpAny (model X.prog X.w) X.A (call f us) (EP X pins σ Q) X.xe s
/-- a value's truth -/
def TruR (X : Cx) (r : V → Hp → (Bool → Hp → Prop) → Prop) : Prop :=
  ∀ (pins : List (Addr × Obj)) (s : Shared) (σ : St) (H : Hp) (x : V) (v : Value) (Q : Bool → Hp → Prop), Inv X pins σ H s → RelV x v → r x H Q →
    wpAny (model X.prog X.w) X.A (truthy v) (TP X pins σ Q) X.xe s

def tOp (r : R2) (ta tb : TE) : TE := fun σ H Q => ta σ H fun x H1 => tb σ H1 fun y H2 => r x y H2 Q
def tUn (r : V → Hp → VK → Prop) (ta : TE) : TE := fun σ H Q => ta σ H fun x H1 => r x H1 Q
/-- ints in, under C, and a value out -/
def rI (C : Int → Int → Prop) (g : Int → Int → V) : R2 := fun x y H Q => ∃ i j, x = .int i ∧ y = .int j ∧ C i j ∧ Q (g i j) H
def rI0 (g : Int → Int → V) : R2 := fun x y H Q => ∃ i j, x = .int i ∧ y = .int j ∧ Q (g i j) H
def rU (g : Int → V) : V → Hp → VK → Prop := fun x H Q => ∃ i, x = .int i ∧ Q (g i) H

section
variable {X : Cx} {a b c : Expr} {ta tb tc : TE} {pos : Pos}

theorem binT (ha : PE X a ta) (hb : PE X b tb) {pins : List (Addr × Obj)} {s : Shared} {σ : St} {H : Hp} {R : V → V → Hp → Prop} (I : Inv X pins σ H s)
    (h : ta σ H fun x H1 => tb σ H1 fun y H2 => R x y H2) {Q : Value → Shared → Prop} {f : Value → Value → Sem Value}
    (hf : ∀ v u s2 x y H2, Inv X pins σ H2 s2 → RelV x v → RelV y u → R x y H2 → wpAny (model X.prog X.w) X.A (f v u) Q X.xe s2) :
    wpAny (model X.prog X.w) X.A (eval a X.env) (fun v s₁ => wpAny (model X.prog X.w) X.A (eval b X.env) (fun u s₂ => wpAny (model X.prog X.w) X.A (f v u) Q X.xe s₂) X.xe s₁) X.xe s := by
  refine thn (ha pins s σ H _ I h) fun v s1 ⟨x, H1, I1, r1, q1⟩ => ?_
  refine thn (hb pins s1 σ H1 _ I1 q1) fun u s2 ⟨y, H2, I2, r2, q2⟩ => ?_
  exact hf v u s2 x y H2 I2 r1 r2 q2

theorem pe_op {op : Operator} {r : R2} (ho : OpR X (binaryOp op) r) (ha : PE X a ta) (hb : PE X b tb) : PE X (.BinOp a op b pos) (tOp r ta tb) := by
  intro pins s σ H Q I h
  exact wpAny_BinOp (binT ha hb I h fun v u s2 x y H2 I2 rx ry q => ho pins s2 σ H2 x y v u Q I2 rx ry q)
theorem pe_un {op : UnaryOp} {r : V → Hp → VK → Prop} (ho : UnR X (unaryOp op) r) (ha : PE X a ta) : PE X (.UnaryOp op a pos) (tUn r ta) := by
  intro pins s σ H Q I h
  exact UnaryOp_ (thn (ha pins s σ H _ I h) fun v s1 ⟨x, H1, I1, r1, q1⟩ => ho pins s1 σ H1 x v Q I1 r1 q1)

/-! ### ints -/
theorem opI {f : Value → Value → Sem Value} {C : Int → Int → Prop} {g : Int → Int → Int}
    (rule : ∀ (i j : Int) (t u : Tok) (s : Shared) (Q : Value → Shared → Prop) (E : Value → Shared → Prop), C i j → Q (.int (g i j) s.toks) { s with toks := s.toks + 1 } → wpAny (model X.prog X.w) X.A (f (.int i t) (.int j u)) Q E s) :
    OpR X f (rI C fun i j => .int (g i j)) := by
  intro pins s σ H x y v u Q I rx ry h
  obtain ⟨i, j, rfl, rfl, hc, q⟩ := h
  obtain ⟨t, rfl⟩ := rx
  obtain ⟨t', rfl⟩ := ry
  exact rule i j t t' s _ _ hc ⟨.int (g i j), H, I.tok _, ⟨_, rfl⟩, q⟩
theorem opI0 {f : Value → Value → Sem Value} {g : Int → Int → Int}
    (rule : ∀ (i j : Int) (t u : Tok) (s : Shared) (Q : Value → Shared → Prop) (E : Value → Shared → Prop), Q (.int (g i j) s.toks) { s with toks := s.toks + 1 } → wpAny (model X.prog X.w) X.A (f (.int i t) (.int j u)) Q E s) :
    OpR X f (rI0 fun i j => .int (g i j)) := by
  intro pins s σ H x y v u Q I rx ry h
  obtain ⟨i, j, rfl, rfl, q⟩ := h
  obtain ⟨t, rfl⟩ := rx
  obtain ⟨t', rfl⟩ := ry
  exact rule i j t t' s _ _ ⟨.int (g i j), H, I.tok _, ⟨_, rfl⟩, q⟩
theorem opB0 {f : Value → Value → Sem Value} {g : Int → Int → Bool}
    (rule : ∀ (i j : Int) (t u : Tok) (s : Shared) (Q : Value → Shared → Prop) (E : Value → Shared → Prop), Q (.bool (g i j)) s → wpAny (model X.prog X.w) X.A (f (.int i t) (.int j u)) Q E s) :
    OpR X f (rI0 fun i j => .bl (g i j)) := by
  intro pins s σ H x y v u Q I rx ry h
  obtain ⟨i, j, rfl, rfl, q⟩ := h
  obtain ⟨t, rfl⟩ := rx
  obtain ⟨t', rfl⟩ := ry
  exact rule i j t t' s _ _ ⟨.bl (g i j), H, I, rfl, q⟩

def CDiv (i j : Int) : Prop := 0 < j ∧ j < 1073741824
def CMul (i j : Int) : Prop := (-(2 ^ 64) < i ∧ i < 2 ^ 64) ∨ (-(2 ^ 64) < j ∧ j < 2 ^ 64)
theorem CMul.ok {i j : Int} (h : CMul i j) : IntMulOk i j := by
  rcases h with ⟨h1, h2⟩ | ⟨h1, h2⟩
  · exact .of_left (intBits_le_64 h1 h2)
  · exact .of_right (intBits_le_64 h1 h2)

theorem op_add : OpR X (binaryOp .Add) (rI0 fun i j => .int (i + j)) := opI0 fun _ _ _ _ _ _ _ q => add_int q
theorem op_sub : OpR X (binaryOp .Sub) (rI0 fun i j => .int (i - j)) := opI0 fun _ _ _ _ _ _ _ q => sub_int q
theorem op_mul : OpR X (binaryOp .Mult) (rI CMul fun i j => .int (i * j)) := opI fun _ _ _ _ _ _ _ hc q => mul_int q hc.ok
/-- // by a positive divisor -/
theorem op_fdiv : OpR X (binaryOp .FloorDiv) (rI CDiv fun i j => .int (i / j)) := opI fun i j _ _ _ _ _ hc q => by
  have h1 : (0 : Int) < j := hc.1
  have h2 : j < 1073741824 := hc.2
  exact floordiv_int (by omega) (by rw [Int.fdiv_eq_ediv_of_nonneg i (by omega)]; exact q) (.inl (PyProof.noPylong_small (by omega)))
/-- % by a positive divisor of any size -/
theorem op_mod : OpR X (binaryOp .Mod) (rI (fun _ j => 0 < j) fun i j => .int (i % j)) := opI fun i j _ _ _ _ _ hc q => by
  have h1 : (0 : Int) < j := hc
  exact mod_int' (by omega) (by rw [Int.fmod_eq_emod_of_nonneg i (by omega)]; exact q)


theorem unI {f : Value → Sem Value} {g : Int → Int}
    (rule : ∀ (i : Int) (t : Tok) (s : Shared) (Q : Value → Shared → Prop) (E : Value → Shared → Prop), Q (.int (g i) s.toks) { s with toks := s.toks + 1 } → wpAny (model X.prog X.w) X.A (f (.int i t)) Q E s) :
    UnR X f (rU fun i => .int (g i)) := by
  intro pins s σ H x v Q I rx h
  obtain ⟨i, rfl, q⟩ := h
  obtain ⟨t, rfl⟩ := rx
  exact rule i t s _ _ ⟨.int (g i), H, I.tok _, ⟨_, rfl⟩, q⟩
theorem un_neg : UnR X (unaryOp .USub) (rU fun i => .int (-i)) := unI fun _ _ _ _ _ q => neg_int q

/-! ### bools among ints: n += (a < b) -/
end

/-! ### comparisons -/
/-- the scalars that == tells apart as data does -/
def scal : V → V → Bool
  | .non, .non => true | .non, .int _ => true | .int _, .non => true | .non, .bl _ => true | .bl _, .non => true | .non, .str _ => true | .str _, .non => true
  | .int _, .int _ => true | .bl _, .bl _ => true | .str _, .str _ => true | .byt _, .byt _ => true
  | .int _, .str _ => true | .str _, .int _ => true | .bl _, .str _ => true | .str _, .bl _ => true
  | _, _ => false
def rEq : R2 := fun x y H Q => scal x y = true ∧ Q (.bl (decide (x = y))) H
def rNe : R2 := fun x y H Q => scal x y = true ∧ Q (.bl (!decide (x = y))) H

theorem dec_int {i j : Int} : decide (V.int i = V.int j) = (i == j) := by
  rw [Bool.eq_iff_iff]
  simp
theorem dec_bl {i j : Bool} : decide (V.bl i = V.bl j) = (i == j) := by
  rw [Bool.eq_iff_iff]
  simp
theorem dec_str {i j : Str} : decide (V.str i = V.str j) = (i == j) := by
  rw [Bool.eq_iff_iff]
  simp
theorem dec_byt {i j : Array UInt8} : decide (V.byt i = V.byt j) = (i.toList == j.toList) := by
  rw [Bool.eq_iff_iff]
  cases i
  cases j
  simp

section
variable {X : Cx} {a b c : Expr} {ta tb tc : TE} {pos : Pos}
theorem fin_bl {pins : List (Addr × Obj)} {σ : St} {H : Hp} {s : Shared} {Q : VK} {k k' : Bool} (I : Inv X pins σ H s) (q : Q (.bl k) H) (e : k = k') : EP X pins σ Q (.bool k') s := by
  subst e
  exact ⟨.bl k, H, I, rfl, q⟩
theorem op_eq : OpR X (compareOp .Eq) rEq := by
  intro pins s σ H x y v u Q I rx ry h
  obtain ⟨hs, q⟩ := h
  cases x with
  | non =>
    cases rx
    cases y with
    | non => cases ry; exact PySem.EqNone.eq_none_none (fin_bl I q (by simp))
    | bl j => cases ry; exact PySem.EqNone.eq_none_bool (fin_bl I q (by simp))
    | int j => obtain ⟨t', rfl⟩ := ry; exact PySem.EqNone.eq_none_int (fin_bl I q (by simp))
    | str j => obtain ⟨t', rfl⟩ := ry; exact PySem.EqNone.eq_none_str (fin_bl I q (by simp))
    | _ => exact absurd (show false = true from hs) Bool.false_ne_true
  | bl i =>
    cases rx
    cases y with
    | non => cases ry; exact PySem.EqNone.eq_bool_none (fin_bl I q (by simp))
    | bl j => cases ry; exact eq_bool (fin_bl I q dec_bl)
    | str j => obtain ⟨t', rfl⟩ := ry; exact PySem.EqMixed.eq_bool_str (fin_bl I q (by simp))
    | _ => exact absurd (show false = true from hs) Bool.false_ne_true
  | int i =>
    obtain ⟨t, rfl⟩ := rx
    cases y with
    | non => cases ry; exact PySem.EqNone.eq_int_none (fin_bl I q (by simp))
    | int j => obtain ⟨t', rfl⟩ := ry; exact eq_int (fin_bl I q dec_int)
    | str j => obtain ⟨t', rfl⟩ := ry; exact PySem.EqMixed.eq_int_str (fin_bl I q (by simp))
    | _ => exact absurd (show false = true from hs) Bool.false_ne_true
  | str i =>
    obtain ⟨t, rfl⟩ := rx
    cases y with
    | non => cases ry; exact PySem.EqNone.eq_str_none (fin_bl I q (by simp))
    | bl j => cases ry; exact PySem.EqMixed.eq_str_bool (fin_bl I q (by simp))
    | int j => obtain ⟨t', rfl⟩ := ry; exact PySem.EqMixed.eq_str_int (fin_bl I q (by simp))
    | str j => obtain ⟨t', rfl⟩ := ry; exact eq_str (fin_bl I q dec_str)
    | _ => exact absurd (show false = true from hs) Bool.false_ne_true
  | byt i =>
    obtain ⟨t, rfl⟩ := rx
    cases y with
    | byt j => obtain ⟨t', rfl⟩ := ry; exact PySem.W.eq_bytes (fin_bl I q dec_byt)
    | _ => exact absurd (show false = true from hs) Bool.false_ne_true
  | _ => cases y <;> exact absurd (show false = true from hs) Bool.false_ne_true
theorem op_ne : OpR X (compareOp .NotEq) rNe := by
  intro pins s σ H x y v u Q I rx ry h
  obtain ⟨hs, q⟩ := h
  cases x with
  | non =>
    cases rx
    cases y with
    | non => cases ry; exact PySem.EqNone.ne_none_none (fin_bl I q (by simp))
    | bl j => cases ry; exact PySem.EqNone.ne_none_bool (fin_bl I q (by simp))
    | int j => obtain ⟨t', rfl⟩ := ry; exact PySem.EqNone.ne_none_int (fin_bl I q (by simp))
    | str j => obtain ⟨t', rfl⟩ := ry; exact PySem.EqNone.ne_none_str (fin_bl I q (by simp))
    | _ => exact absurd (show false = true from hs) Bool.false_ne_true
  | bl i =>
    cases rx
    cases y with
    | non => cases ry; exact PySem.EqNone.ne_bool_none (fin_bl I q (by simp))
    | bl j => cases ry; exact ne_bool (fin_bl I q (congrArg not dec_bl))
    | str j => obtain ⟨t', rfl⟩ := ry; exact PySem.EqMixed.ne_bool_str (fin_bl I q (by simp))
    | _ => exact absurd (show false = true from hs) Bool.false_ne_true
  | int i =>
    obtain ⟨t, rfl⟩ := rx
    cases y with
    | non => cases ry; exact PySem.EqNone.ne_int_none (fin_bl I q (by simp))
    | int j => obtain ⟨t', rfl⟩ := ry; exact ne_int (fin_bl I q (congrArg not dec_int))
    | str j => obtain ⟨t', rfl⟩ := ry; exact PySem.EqMixed.ne_int_str (fin_bl I q (by simp))
    | _ => exact absurd (show false = true from hs) Bool.false_ne_true
  | str i =>
    obtain ⟨t, rfl⟩ := rx
    cases y with
    | non => cases ry; exact PySem.EqNone.ne_str_none (fin_bl I q (by simp))
    | bl j => cases ry; exact PySem.EqMixed.ne_str_bool (fin_bl I q (by simp))
    | int j => obtain ⟨t', rfl⟩ := ry; exact PySem.EqMixed.ne_str_int (fin_bl I q (by simp))
    | str j => obtain ⟨t', rfl⟩ := ry; exact ne_str (fin_bl I q (congrArg not dec_str))
    | _ => exact absurd (show false = true from hs) Bool.false_ne_true
  | byt i =>
    obtain ⟨t, rfl⟩ := rx
    cases y with
    | byt j => obtain ⟨t', rfl⟩ := ry; exact PySem.W.ne_bytes (fin_bl I q (congrArg not dec_byt))
    | _ => exact absurd (show false = true from hs) Bool.false_ne_true
  | _ => cases y <;> exact absurd (show false = true from hs) Bool.false_ne_true

theorem op_lt : OpR X (compareOp .Lt) (rI0 fun i j => .bl (decide (i < j))) := opB0 fun _ _ _ _ _ _ _ q => lt_int q
theorem op_le : OpR X (compareOp .LtE) (rI0 fun i j => .bl (decide (i ≤ j))) := opB0 fun _ _ _ _ _ _ _ q => le_int q
theorem op_gt : OpR X (compareOp .Gt) (rI0 fun i j => .bl (decide (j < i))) := opB0 fun _ _ _ _ _ _ _ q => gt_int q

/-- is None, is not None: the right side a value none -/
theorem op_isN : OpR X (compareOp .Is) (fun x y H Q => y = .non ∧ Q (.bl (decide (x = .non))) H) := by
  intro pins s σ H x y v u Q I rx ry h
  obtain ⟨rfl, q⟩ := h
  cases ry
  refine is_none_gen (fin_bl I q ?_)
  cases x <;> first
    | (cases rx; rfl)
    | (obtain ⟨t, rfl⟩ := rx; rfl)
theorem op_notN : OpR X (compareOp .IsNot) (fun x y H Q => y = .non ∧ Q (.bl (!decide (x = .non))) H) := by
  intro pins s σ H x y v u Q I rx ry h
  obtain ⟨rfl, q⟩ := h
  cases ry
  refine isnot_none_gen (fin_bl I q ?_)
  cases x <;> first
    | (cases rx; rfl)
    | (obtain ⟨t, rfl⟩ := rx; rfl)

theorem op_notin_str : OpR X (compareOp .NotIn) (fun x y H Q => ∃ i j, x = .str i ∧ y = .str j ∧ Q (.bl (!(!(Builtin.Str.occurrences j i 0 j.length 1).isEmpty))) H) := by
  intro pins s σ H x y v u Q I rx ry h
  obtain ⟨i, j, rfl, rfl, q⟩ := h
  obtain ⟨t, rfl⟩ := rx
  obtain ⟨t', rfl⟩ := ry
  exact notIn_str (fin_bl I q rfl)


theorem nomark (b : Expr) {op : CmpOp} (h : op ≠ .In := by decide) (h2 : op ≠ .NotIn := by decide) : behindInMarks op b = false := by
  have e1 : (op == CmpOp.In) = false := by cases op <;> first | rfl | exact absurd rfl h
  have e2 : (op == CmpOp.NotIn) = false := by cases op <;> first | rfl | exact absurd rfl h2
  cases b <;> simp [behindInMarks, e1, e2]
/-- a comparison as a value; hm: nomark b, or (for in, not in) by with_unfolding_all rfl -/
theorem pe_cmpR {op : CmpOp} {r : R2} (ho : OpR X (compareOp op) r) (ha : PE X a ta) (hb : PE X b tb) (hm : behindInMarks op b = false) : PE X (.Compare a [op] [b] pos) (tOp r ta tb) := by
  intro pins s σ H Q I h
  exact wpAny_Compare1 (binT ha hb I h fun v u s2 x y H2 I2 rx ry q => ho pins s2 σ H2 x y v u Q I2 rx ry q) hm
/-- a reading of a value as a test -/
def tTest (t : TE) : TT := fun σ H Q => t σ H fun x H' => ∃ k, x = .bl k ∧ Q k H'
theorem pt_cmpR {op : CmpOp} {r : R2} (ho : OpR X (compareOp op) r) (ha : PE X a ta) (hb : PE X b tb) (hm : behindInMarks op b = false) : PT X (.Compare a [op] [b] pos) (tTest (tOp r ta tb)) := by
  intro pins s σ H Q I h
  refine wpAny_isTrue_Compare1 (thn (ha pins s σ H _ I h) fun v s1 ⟨x, H1, I1, r1, q1⟩ => thn (hb pins s1 σ H1 _ I1 q1) fun u s2 ⟨y, H2, I2, r2, q2⟩ =>
    thn (ho pins s2 σ H2 x y v u _ I2 r1 r2 q2) fun c s3 ⟨z, H3, I3, r3, k, e, q3⟩ => ?_) hm
  subst e
  cases r3
  exact wpAny_truthy_bool ⟨H3, I3, q3⟩
/-- a op1 b op2 c -/
def tChain (r r' : R2) (ta tb tc : TE) : TE := fun σ H Q => ta σ H fun x H1 => tb σ H1 fun y H2 => r x y H2 fun z H3 => ∃ k, z = .bl k ∧
  (if k = true then tc σ H3 fun w' H4 => r' y w' H4 Q else Q (.bl false) H3)
theorem pe_chain {op op' : CmpOp} {r r' : R2} (ho : OpR X (compareOp op) r) (ho' : OpR X (compareOp op') r') (ha : PE X a ta) (hb : PE X b tb) (hc : PE X c tc)
    (hm : lastMarks [op, op'] [b, c] = false := by with_unfolding_all rfl) : PE X (.Compare a [op, op'] [b, c] pos) (tChain r r' ta tb tc) := by
  intro pins s σ H Q I h
  refine Compare_chain (thn (ha pins s σ H _ I h) fun v s1 ⟨x, H1, I1, r1, q1⟩ => chain_link (thn (hb pins s1 σ H1 _ I1 q1) fun u s2 ⟨y, H2, I2, r2, q2⟩ =>
    thn (ho pins s2 σ H2 x y v u _ I2 r1 r2 q2) fun d s3 ⟨z, H3, I3, r3, k, e, q3⟩ => ?_)) hm
  subst e
  cases r3
  refine wpAny_truthy_bool ?_
  cases k with
  | false => exact ite_ff ⟨.bl false, H3, I3, rfl, q3⟩
  | true => exact ite_tt (chain_last (thn (hc pins s3 σ H3 _ I3 q3) fun w' s4 ⟨z', H4, I4, r4, q4⟩ => ho' pins s4 σ H4 y z' u w' Q I4 r2 r4 q4))
theorem pt_chain {op op' : CmpOp} {r r' : R2} (ho : OpR X (compareOp op) r) (ho' : OpR X (compareOp op') r') (ha : PE X a ta) (hb : PE X b tb) (hc : PE X c tc)
    (hm : lastMarks [op, op'] [b, c] = false := by with_unfolding_all rfl) : PT X (.Compare a [op, op'] [b, c] pos) (tTest (tChain r r' ta tb tc)) := by
  intro pins s σ H Q I h
  refine isTrue_chain (thn (ha pins s σ H _ I h) fun v s1 ⟨x, H1, I1, r1, q1⟩ => test_link (thn (hb pins s1 σ H1 _ I1 q1) fun u s2 ⟨y, H2, I2, r2, q2⟩ =>
    thn (ho pins s2 σ H2 x y v u _ I2 r1 r2 q2) fun d s3 ⟨z, H3, I3, r3, k, e, q3⟩ => ?_)) hm
  subst e
  cases r3
  refine wpAny_truthy_bool ?_
  cases k with
  | false =>
    obtain ⟨k', e', q'⟩ := q3
    cases e'
    exact ite_ff ⟨H3, I3, q'⟩
  | true =>
    refine ite_tt (test_last (thn (hc pins s3 σ H3 _ I3 q3) fun w' s4 ⟨z', H4, I4, r4, q4⟩ => thn (ho' pins s4 σ H4 y z' u w' _ I4 r2 r4 q4) fun d' s5 ⟨z2, H5, I5, r5, k2, e2, q5⟩ => ?_))
    subst e2
    cases r5
    exact wpAny_truthy_bool ⟨H5, I5, q5⟩

/-! ### truth -/
/-- a value's truth by the abstract heap -/
def TruV (K : PySem.W.Frag) (x : V) (H : Hp) (k : Bool) : Prop :=
  match x with
  | .non => k = false
  | .bl b => k = b
  | .int i => k = (i != 0)
  | .str y => y.length ≤ sizeLine ∧ k = ((y.length : Int) != 0)
  | .byt y => y.size ≤ sizeLine ∧ k = ((y.size : Int) != 0)
  | .ref p => (∃ xs, SqL K H p xs ∧ k = !xs.isEmpty) ∨ (∃ xs, SqT K H p xs ∧ k = !xs.isEmpty) ∨ ∃ kvs, H p = some (.dK kvs) ∧ k = !kvs.isEmpty
  | _ => False
theorem isEmpty_kv {κ : Type} {kvs : List (κ × V)} {vs : List (κ × Value)} (r : KV kvs vs) : (!vs.isEmpty) = !kvs.isEmpty := by
  cases r <;> rfl
theorem isEmpty_of {xs : List V} {its : List Value} (r : Vals xs its) : (!its.toArray.isEmpty) = !xs.isEmpty := by
  cases r <;> simp
theorem line63 : (sizeLine : Nat) < 2 ^ 63 := by rw [sizeLine_eq]; decide
theorem tru_ok : TruR X (fun x H Q => ∃ k, TruV X.K x H k ∧ Q k H) := by
  intro pins s σ H x v Q I rx h
  obtain ⟨k, e, q⟩ := h
  have hl := line63
  have hs : sizeLine = 16777216 := sizeLine_eq
  cases x with
  | non =>
    cases rx
    have e' : k = false := e
    subst e'
    exact truthy_none ⟨H, I, q⟩
  | bl b =>
    cases rx
    have e' : k = b := e
    subst e'
    exact wpAny_truthy_bool ⟨H, I, q⟩
  | int i =>
    obtain ⟨t, rfl⟩ := rx
    have e' : k = (i != 0) := e
    subst e'
    exact PySem.P.truthy_int ⟨H, I, q⟩
  | str y =>
    obtain ⟨t, rfl⟩ := rx
    obtain ⟨hy, e'⟩ : y.length ≤ sizeLine ∧ k = ((y.length : Int) != 0) := e
    subst e'
    exact PySem.P.truthy_str (by omega) ⟨H, I.tok _, q⟩
  | byt y =>
    obtain ⟨t, rfl⟩ := rx
    obtain ⟨hy, e'⟩ : y.size ≤ sizeLine ∧ k = ((y.size : Int) != 0) := e
    subst e'
    exact PySem.W.truthy_bytes (by omega) ⟨H, I.tok _, q⟩
  | ref p =>
    cases rx
    have e' : (∃ xs, SqL X.K H p xs ∧ k = !xs.isEmpty) ∨ (∃ xs, SqT X.K H p xs ∧ k = !xs.isEmpty) ∨ ∃ kvs, H p = some (.dK kvs) ∧ k = !kvs.isEmpty := e
    rcases e' with ⟨xs, hx, e'⟩ | ⟨xs, hx, e'⟩ | ⟨kvs, hx, e'⟩
    · subst e'
      obtain ⟨its, r, pl, hz⟩ := I.list hx
      have hlen := r.length
      exact wpAny_truthy_list pl.isList (by simp only [List.size_toArray]; omega) ⟨H, I.tok _, by rw [isEmpty_of r]; exact q⟩
    · subst e'
      obtain ⟨its, r, pl, hz⟩ := I.tuple hx
      have hlen := r.length
      exact truthy_tuple pl (by simp only [List.size_toArray]; omega) ⟨H, I.tok _, by rw [isEmpty_of r]; exact q⟩
    · subst e'
      obtain ⟨hz, hS, vs, r, m⟩ : kvs.length ≤ sizeLine ∧ (p == sysModules) = false ∧ ∃ vs, KV kvs vs ∧ s.heap.DictOf (mixKind X.prog X.w) p vs := I.hok p _ hx
      have hlen : kvs.length = vs.length := Paired.length r
      exact wpAny_truthy_dict hS m (by omega) ⟨H, I.tok _, by rw [isEmpty_kv r]; exact q⟩
  | _ => exact (show False from e).elim
/-- any expression whose test is its value's truth (a name, a call, a subscript, a field ..: he by fun _ => rfl) -/
theorem pt_truth (ha : PE X a ta) (he : ∀ whole, isTrue a X.env whole = (do let v ← whole; standAt a.pos; holding [v] (truthy v))) :
    PT X a (fun σ H Q => ta σ H fun x H' => ∃ k, TruV X.K x H' k ∧ Q k H') := by
  intro pins s σ H Q I h
  exact isTrue_plain (thn (ha pins s σ H _ I h) fun v s1 ⟨x, H1, I1, r1, q1⟩ => tru_ok pins s1 σ H1 x v Q I1 r1 q1) (he _)

/-! ### strs and bytes -/
theorem op_add_str : OpR X (binaryOp .Add) (fun x y H Q => ∃ i j, x = .str i ∧ y = .str j ∧ i.length + j.length ≤ sizeLine ∧ Q (.str (i ++ j)) H) := by
  intro pins s σ H x y v u Q I rx ry h
  obtain ⟨i, j, rfl, rfl, hz, q⟩ := h
  obtain ⟨t, rfl⟩ := rx
  obtain ⟨t', rfl⟩ := ry
  exact add_str (fun t' tk => ⟨.str (i ++ j), H, I.tok _, ⟨_, rfl⟩, q⟩) hz


/-! ### scalar builtins, by CallR -/
theorem vals1 {x : V} {us : List Value} (r : Vals [x] us) : ∃ u, us = [u] ∧ RelV x u := by
  cases r with
  | cons r1 r2 => cases r2; exact ⟨_, rfl, r1⟩
theorem vals2 {x y : V} {us : List Value} (r : Vals [x, y] us) : ∃ u w', us = [u, w'] ∧ RelV x u ∧ RelV y w' := by
  cases r with
  | cons r1 r2 =>
    cases r2 with
    | cons r3 r4 => cases r4; exact ⟨_, _, rfl, r1, r3⟩
theorem call_max2 (hc : X.calm = true) : CallR X (.builtin "max") (fun xs H Q => ∃ i j, xs = [.int i, .int j] ∧ Q (.int (if j > i then j else i)) H) := by
  intro pins s σ H xs us Q I r h
  obtain ⟨i, j, rfl, q⟩ := h
  obtain ⟨u, w', rfl, ⟨t, rfl⟩, ⟨t', rfl⟩⟩ := vals2 r
  refine max_two_ints (I.ok.hd hc) fun h' tk k => ⟨_, H, I.kept k, ?_, q⟩
  by_cases hj : j > i
  · rw [if_pos hj, if_pos hj]; exact ⟨_, rfl⟩
  · rw [if_neg hj, if_neg hj]; exact ⟨_, rfl⟩
theorem call_ord : CallR X (.builtin "ord") (fun xs H Q => ∃ x, xs = [.str x] ∧ x.length = 1 ∧ Q (.int (x.cps.getD 0 0 : Nat)) H) := by
  intro pins s σ H xs us Q I r h
  obtain ⟨x, rfl, hz, q⟩ := h
  obtain ⟨u, rfl, t, rfl⟩ := vals1 r
  exact ord_of_one hz ⟨.int _, H, I.tok _, ⟨_, rfl⟩, q⟩
end
end L2

namespace L2
open PySem PySem.Spec PyProof.Rows

/-! ### an instance, its attributes a map -/
structure ObjM (h : Heap) (x dx C : Addr) (mA : Str → Option Value) : Prop where
  obj : h.get? x = some (PySem.W.instObj C dx)
  ns : h.Ns1 dx mA
  ne : dx ≠ x

theorem lookIn_ns {h : Heap} {dx : Addr} {mA : Str → Option Value} (n : h.Ns1 dx mA) : ∃ od, h.get? dx = some od ∧ ∀ name, PySem.W.lookIn name od = some (mA name) := by
  obtain ⟨o, es, ep, ho, hd, hk, _, hm⟩ := n
  refine ⟨o, ho, fun name => ?_⟩
  have e := hm name
  unfold nsFind findBy at e
  rw [← Array.find?_toList] at e
  unfold PySem.W.lookIn
  rw [hd]
  dsimp only
  split
  · rename_i y q
    rw [q] at e
    exact congrArg some e
  · rename_i q
    rw [q] at e
    have a : es.toList.any (·.refKey) = false := by
      rw [List.any_eq_false]
      intro y hy
      obtain ⟨z, t, hkey⟩ := hk y (Array.mem_toList_iff.mp hy)
      simp [DictEntry.refKey, hkey]
    have a' : ¬ es.toList.any (·.refKey) = true := by rw [a]; exact Bool.false_ne_true
    rw [if_neg a']
    exact congrArg some e

theorem ObjM.look {h : Heap} {x dx C : Addr} {mA : Str → Option Value} (I : ObjM h x dx C mA) : ∃ od, PySem.W.InstAt h x (PySem.W.instObj C dx) C (some od) ∧ ∀ name, PySem.W.lookIn name od = some (mA name) :=
  let ⟨od, ho, hl⟩ := lookIn_ns I.ns
  ⟨od, ⟨I.obj, rfl, rfl, ho⟩, hl⟩

section
variable {prog : Program} {w : World} {A : Around} {E : Value → Shared → Prop} {s : Shared} {K : PySem.W.Frag} {x dx C f : Addr} {mA : Str → Option Value} {name : Str} {v : Value}





end

/-! ### the attributes as a list of pairs -/


section
variable {P : Program} {w : World} {H H' : Hp} {h h' : Heap} {a C dx : Addr} {fs fs' : List (Str × V)}
theorem ins_get (hok : HOk P w H h) (e : H a = some (.ins C dx fs)) : ∃ mA, ObjM h a dx C mA ∧ (∀ f, RelO (fs.lookup f) (mA f)) ∧ PySem.Within mA (fs.map (·.1)) ∧ fs.length ≤ 1000 ∧ H dx = some (.own a) := by
  obtain ⟨d, z, ne, ob, mA, n, r, q⟩ := (show ObjOk P w H h a (.ins C dx fs) from hok a _ e)
  exact ⟨mA, ⟨ob, n, ne⟩, r, q, z, d⟩
end

/-! ### what of the text a class must have -/
structure Cls (K : PySem.W.Frag) (C : Addr) : Prop where
  pg : PySem.W.plainGet K C Str.empty = true
  hd : PySem.W.hasDictIn K C = true
  po : PySem.W.plainOver K C = true
  sa : PySem.W.findIn K (.ref C) "__setattr__" = some (some (.builtin "object.__setattr__"))
theorem Cls.get {K : PySem.W.Frag} {C : Addr} (c : Cls K C) (f : Str) : PySem.W.plainGet K C f = true := c.pg
/-- a constant of the class -/
structure Con (K : PySem.W.Frag) (C : Addr) (f : Str) (v : V) (u : Value) : Prop where
  at_ : PySem.W.findIn K (.ref C) f = some (some u)
  rel : RelV v u
  get : PySem.W.specialIn K u "__get__" = some none
  cp : PySem.W.copiedNames.contains f = false
/-- a method: a plain def of the class or of one above it -/
structure Meth (K : PySem.W.Frag) (C : Addr) (m : Str) (f : Addr) : Prop where
  at_ : PySem.W.findIn K (.ref C) m = some (some (.ref f))
  fn : PySem.W.isFn K (.ref f) = true
  kp : PySem.W.keepIn K (.ref f) = true

section
variable {X : Cx} {pins : List (Addr × Obj)} {σ : St} {H : Hp} {s : Shared} {a C dx : Addr} {fs : List (Str × V)} {f : Str} {v : V} {A : Around} {E : Value → Shared → Prop}






end

/-! ### readings and rules -/

section
variable {X : Cx} {o e value : Expr} {f : Str} {pos pos' tpos : Pos} {ta tv : TE}

end

/-! ### isinstance -/
section
variable {X : Cx} {pins : List (Addr × Obj)} {σ : St} {H : Hp} {s : Shared} {A : Around} {E : Value → Shared → Prop} {Q : Value → Shared → Prop} {c : Value} {b : Bool}
/-- the type of a value, as the fragment's deciders take it; for an instance its class -/
inductive TyOf (K : PySem.W.Frag) (H : Hp) : V → Value → Prop where
  | non : TyOf K H .non (.type "NoneType")
  | bl (x : Bool) : TyOf K H (.bl x) (.type "bool")
  | int (i : Int) : TyOf K H (.int i) (.type "int")
  | str (x : Str) : TyOf K H (.str x) (.type "str")
  | flt (x : UInt64) : TyOf K H (.flt x) (.type "float")
  | lst {a : Addr} {xs : List V} (e : H a = some (.lst xs)) : TyOf K H (.ref a) (.type "list")
  | frz {a : Addr} {o : Obj} {xs : List V} (e : H a = some (.frz o (.lst xs))) : TyOf K H (.ref a) (.type "list")
  | tup {a : Addr} {xs : List V} (e : H a = some (.tup xs)) : TyOf K H (.ref a) (.type "tuple")
  | dK {a : Addr} {kvs : List (Key × V)} (e : H a = some (.dK kvs)) : TyOf K H (.ref a) (.type "dict")
  | dT {a : Addr} {kvs : List (List Key × V)} (e : H a = some (.dT kvs)) : TyOf K H (.ref a) (.type "dict")
  | ins {a C dx : Addr} {fs : List (Str × V)} (e : H a = some (.ins C dx fs)) (cl : Cls K C) (ha : PySem.W.findIn K (.ref C) "__class__" = some (some (.builtin "object.__class__")))
      (hn : PySem.W.specialIn K (.builtin "object.__class__") "__get__" = some (some (.builtin "getset_descriptor.__get__"))) (htk : PySem.W.takesIn K (.builtin "object.__class__") = some true)
      (hm : PySem.W.mroIn K C (.type "object") = some true) : TyOf K H (.ref a) (.ref C)
/-- isinstance(x, c) for one class c, a built-in or an own one: kitOne's answer -/
theorem isinst_ok {x : V} {u t : Value} (I : Inv X pins σ H s) (rx : RelV x u) (ty : TyOf X.K H x t) (e : PySem.W.kitOne X.K t c = some b) (h : ∀ tk, Q (.bool b) { s with toks := tk }) :
    wpAny (model X.prog X.w) A (call (.builtin "isinstance") [u, c]) Q E s := by
  cases ty with
  | non => cases (show u = Value.none from rx); exact PySem.W.kia_one PySem.W.kitx_none I.kIn True.intro e (fun z => nomatch z) h
  | bl y => cases (show u = Value.bool y from rx); exact PySem.W.kia_one PySem.W.kitx_bool I.kIn True.intro e (fun z => nomatch z) h
  | int i => obtain ⟨t, q⟩ := (show ∃ t, u = Value.int i t from rx); cases q; exact PySem.W.kia_one PySem.W.kitx_int I.kIn True.intro e (fun z => nomatch z) h
  | str y => obtain ⟨t, q⟩ := (show ∃ t, u = Value.str y t from rx); cases q; exact PySem.W.kia_one PySem.W.kitx_str I.kIn True.intro e (fun z => nomatch z) h
  | flt y => obtain ⟨t, q⟩ := (show ∃ t, u = Value.float y t from rx); cases q; exact PySem.W.kia_one PySem.W.kitx_float I.kIn True.intro e (fun z => nomatch z) h
  | @lst a xs ea =>
    cases (show u = Value.ref a from rx)
    obtain ⟨_, _, n, _, h1⟩ := (show ObjOk X.prog X.w H s.heap a (.lst xs) from I.hok a _ ea)
    exact PySem.W.kia_one PySem.W.kitx_list I.kIn ⟨_, h1, rfl⟩ e (fun z => nomatch z) h
  | @frz a ob xs ea =>
    cases (show u = Value.ref a from rx)
    obtain ⟨_, _, _, n, _, h1⟩ := (show ObjOk X.prog X.w H s.heap a (.frz ob (.lst xs)) from I.hok a _ ea)
    exact PySem.W.kia_one PySem.W.kitx_list I.kIn ⟨_, h1, rfl⟩ e (fun z => nomatch z) h
  | @tup a xs ea =>
    cases (show u = Value.ref a from rx)
    obtain ⟨_, _, _, p⟩ := (show ObjOk X.prog X.w H s.heap a (.tup xs) from I.hok a _ ea)
    obtain ⟨o, h1, h2, _⟩ := p
    exact PySem.W.kia_one PySem.W.kitx_tuple I.kIn ⟨o, h1, h2⟩ e (fun z => nomatch z) h
  | @dK a kvs ea =>
    cases (show u = Value.ref a from rx)
    obtain ⟨_, _, vs, _, p⟩ := (show ObjOk X.prog X.w H s.heap a (.dK kvs) from I.hok a _ ea)
    obtain ⟨o, es, ep, h1, h2, _⟩ := p
    exact PySem.W.kia_one PySem.W.kitx_dict I.kIn ⟨o, h1, h2.1⟩ e (fun z => nomatch z) h
  | @dT a kvs ea =>
    cases (show u = Value.ref a from rx)
    obtain ⟨_, _, xs, _, o, es, ep, h1, h2, _⟩ := (show ObjOk X.prog X.w H s.heap a (.dT kvs) from I.hok a _ ea)
    exact PySem.W.kia_one PySem.W.kitx_dict I.kIn ⟨o, h1, h2.1⟩ e (fun z => nomatch z) h
  | @ins a C dx fs ea cl ha hn htk hm =>
    cases (show u = Value.ref a from rx)
    obtain ⟨mA, O, _⟩ := ins_get I.hok ea
    obtain ⟨od, J, _⟩ := O.look
    exact PySem.W.kia_one (PySem.W.kitx_own (cl.get _) cl.hd ha hn htk hm) I.kIn J e (fun z => nomatch z) h
end
end L2

namespace L2
open PySem PySem.Spec PyProof.Rows

/-! ### room -/
structure Room (k : Nat) (A : Around) : Prop where
  hd : A.handled = none
  dp : A.depth + 3 * k + 5 < recursionLimit
  un : A.units + 16 * k + 200 < cLine
theorem Room.mono {j k : Nat} {A : Around} (r : Room k A) (h : j ≤ k) : Room j A := ⟨r.hd, by have := r.dp; omega, by have := r.un; omega⟩
theorem Room.deeper {k : Nat} {A : Around} (r : Room (k + 1) A) (env : Env) : Room k (A.deeper env) :=
  ⟨r.hd, by have := r.dp; show A.depth + 1 + 3 * k + 5 < _; omega, by have := r.un; show A.units + 3 + 16 * k + 200 < _; omega⟩
theorem Room.depth {k : Nat} {A : Around} (r : Room k A) : A.depth < recursionLimit := by have := r.dp; omega
theorem Room.units {k : Nat} {A : Around} (r : Room k A) : A.units + 64 < cLine := by have := r.un; omega

/-! ### argument lists and displays -/
def tNil : TA := fun _ H Q => Q [] H
def tCons (ta : TE) (tr : TA) : TA := fun σ H Q => ta σ H fun x H1 => tr σ H1 fun xs H2 => Q (x :: xs) H2
section
variable {X : Cx} {e : Expr} {es : List Expr} {te : TE} {t : TA} {pos : Pos}
theorem pa_nil : PA X [] tNil := fun _ _ _ _ H Q I h => Calls.spliced_nil ⟨[], H, I, .nil, h⟩
theorem pa_cons (ha : PE X e te) (hr : PA X es t) (hs : starEach (e :: es) X.env = (false, eval e X.env) :: starEach es X.env := by rfl) : PA X (e :: es) (tCons te t) := by
  intro pos pins s σ H Q I h
  rw [hs]
  show wpAny _ _ (spliced ((false, eval e X.env) :: backTo pos (starEach es X.env))) _ _ s
  refine Calls.spliced_cons (thn (ha pins s σ H _ I h) fun u s1 ⟨x, H1, I1, r1, q1⟩ => ?_)
  exact thn (hr pos pins s1 σ H1 _ I1 q1) fun us s2 ⟨xs, H2, I2, r2, q2⟩ => ⟨x :: xs, H2, I2, .cons r1 r2, q2⟩

/-- a tuple, a list of written items -/
def tTup (t : TA) : TE := fun σ H Q => t σ H fun xs H1 => xs.length ≤ sizeLine ∧ ∀ p, H1 p = none → Q (.ref p) (upd H1 p (.tup xs))
def tLst (t : TA) : TE := fun σ H Q => t σ H fun xs H1 => xs.length ≤ sizeLine ∧ ∀ p, H1 p = none → Q (.ref p) (upd H1 p (.lst xs))
theorem pe_tup {x1} (h : PA X es t) : PE X (.Tuple es x1 pos) (tTup t) := by
  intro pins s σ H Q I hq
  refine wpAny_Tuple_spliced (thn (h pos pins s σ H _ I hq) fun us s1 ⟨xs, H1, I1, r, z, q⟩ => ⟨by rw [← r.length]; exact z, ?_⟩)
  have hf : H1 s1.heap.objs.size = none := I1.hok.fresh (Nat.le_refl _)
  refine ⟨.ref s1.heap.objs.size, upd H1 s1.heap.objs.size (.tup xs), I1.laid (t' := s1.toks) (fun b u e => Heap.get?_push_of_some _ e) (Nat.le_refl _) ?_, rfl, q _ hf⟩
  exact ⟨z, us, r, ⟨_, Heap.get?_push_size _ rfl, rfl, _, rfl⟩⟩
theorem pe_lst (h : PA X es t) : PE X (.List es pos) (tLst t) := by
  intro pins s σ H Q I hq
  refine wpAny_List_spliced (thn (h pos pins s σ H _ I hq) fun us s1 ⟨xs, H1, I1, r, z, q⟩ => ⟨by rw [← r.length]; exact z, ?_⟩)
  have hf : H1 s1.heap.objs.size = none := I1.hok.fresh (Nat.le_refl _)
  refine ⟨.ref s1.heap.objs.size, upd H1 s1.heap.objs.size (.lst xs), I1.laid (t' := s1.toks) (fun b u e => Heap.get?_push_of_some _ e) (Nat.le_refl _) ?_, rfl, q _ hf⟩
  exact ⟨z, us, 0, r, Heap.get?_push_size _ rfl⟩
end

/-! ### what a def promises -/
/-- a def's promise: the bound arguments in the parameters' order, the heap, the wanted end, the wanted exception -/
abbrev Sp := List V → Hp → VK → XK → Prop
/-- how an exception lies behind a call (file 08 gives it): the callers' frames, abstract heap and state ahead of the call, the wish, the exception, the state -/
abbrev CXT := List Env → Hp → Shared → XK → Value → Shared → Prop

/-- the state at a call -/
structure Env0 (P : Program) (w : World) (K : PySem.W.Frag) (mg : Str → Option Value) (base : Heap) (A : Around) (outer : List Env) (s : Shared) (H : Hp) : Prop where
  frames : A.frames = some outer
  mod : Mod K mg base
  bs : ∀ b o, base.get? b = some o → s.heap.get? b = some o ∧ H b = none
  bsz : base.objs.size ≤ s.heap.objs.size
  funs : s.heap.FunFrames base outer
  frf : ∀ b ∈ frs outer, H b = none
  hok : HOk P w H s.heap
  bare : AllBare s.gens
/-- a call's end -/
def CE (outer : List Env) (P : Program) (w : World) (H : Hp) (s : Shared) (Q : VK) (u : Value) (s' : Shared) : Prop :=
  ∃ v H', s'.os = s.os ∧ AllBare s'.gens ∧ Un (frs outer) [] H H' s.heap s'.heap ∧ HOk P w H' s'.heap ∧ RelV v u ∧ Q v H'
def CR (CX : CXT) (outer : List Env) (P : Program) (w : World) (H : Hp) (s : Shared) (Q : VK) (E : XK) (r : Result) (s' : Shared) : Prop :=
  match r with
  | .ok (.ret u) => CE outer P w H s Q u s'
  | .ok _ => False
  | .error e => CX outer H s E e s'
structure FnOk (P : Program) (w : World) (K : PySem.W.Frag) (mg : Str → Option Value) (base : Heap) (CX : CXT) (k : Nat) (f : Addr) (fd : FuncData) (ps : List Str) (sp : Sp) : Prop where
  len : ∀ vs H Q E, sp vs H Q E → vs.length = ps.length
  run : ∀ (A : Around) (outer : List Env) (s : Shared) (H : Hp) (args : Args) (us : List Value) (vs : List V) (Q : VK) (E : XK), Room k A → Env0 P w K mg base A outer s H → BindsTo s fd args (ps.zip us) → Vals vs us → sp vs H Q E →
    codeAny (model P w) A (.call (.ref f) args) (CR CX outer P w H s Q E) s


section
variable {X : Cx} {pins : List (Addr × Obj)} {σ : St} {H : Hp} {s s' : Shared}
/-- from a body: what a callee wants -/
theorem Inv.env0 (I : Inv X pins σ H s) : Env0 X.prog X.w X.K X.mg X.base X.A X.stack s H :=
  ⟨I.ok.frames, I.ok.mod, I.bs, Nat.le_trans I.ok.bsz I.sz, I.stack, I.stkFree, I.hok, I.bare⟩
/-- behind a call -/
theorem Inv.after {Q : VK} {u : Value} (I : Inv X pins σ H s) (h : CE X.stack X.prog X.w H s Q u s') : EP X pins σ Q u s' := by
  obtain ⟨v, H', os, bare, un, hok, r, q⟩ := h
  obtain ⟨hh, g, d, t, os'⟩ := s'
  obtain rfl : os' = s.os := os
  exact ⟨v, H', I.call (h' := hh) (g' := g) (d' := d) (t' := t) (ch := []) un hok bare (fun b z => absurd z (by simp)), r, q⟩
end

/-! ### calls -/
/-- f(..): the written arguments, then the defaults dvs; E: what is wanted of an exception -/
def tCall (sp : Sp) (dvs : List V) (E : XK) (t : TA) : TE := fun σ H Q => t σ H fun vs H1 => sp (vs ++ dvs) H1 Q E

/-- how the parameters are bound: us the positional arguments, kw the keywords' values by name, ds the defaults that fill up -/
def Binds (K : PySem.W.Frag) (fd : FuncData) (ps : List Str) (ds : List Value) : Prop :=
  ∀ (s : Shared) (us : List Value), K.In s.heap → (us ++ ds).length = ps.length → BindsTo s fd ⟨us, []⟩ (ps.zip (us ++ ds))
/-- every parameter is given -/
theorem Binds.all {K : PySem.W.Frag} {fd : FuncData} {ps : List Str} (h : ∀ us : List Value, us.length = ps.length → bindArgs fd ⟨us, []⟩ = pure (ps.zip us)) : Binds K fd ps [] := fun s us _ hl => by
  rw [List.append_nil] at hl ⊢
  exact .of_eq (h us hl)

/-- an exception of a callee reaches what this body wants of exceptions -/
def Passes (CX : CXT) (X : Cx) (E : XK) : Prop := ∀ (pins : List (Addr × Obj)) (σ : St) (H : Hp) (s : Shared) (e : Value) (s' : Shared), Inv X pins σ H s → CX X.stack H s E e s' → X.xe e s'

section
variable {X : Cx} {CX : CXT} {k : Nat} {f C : Addr} {fd : FuncData} {ps : List Str} {sp : Sp} {dvs : List V} {ds : List Value} {E : XK} {x m : Str} {p pos apos : Pos} {e o : Expr} {es : List Expr} {ta : TE} {t : TA}

/-- the callee runs -/
theorem run_fn {pins : List (Addr × Obj)} {σ : St} {H : Hp} {s : Shared} {Q : VK} {us : List Value} {vs : List V} (F : FnOk X.prog X.w X.K X.mg X.base CX k f fd ps sp) (hr : Room k X.A) (hb : Binds X.K fd ps ds) (hd : Vals dvs ds) (hx : Passes CX X E)
    (I : Inv X pins σ H s) (r : Vals vs us) (h : sp (vs ++ dvs) H Q E) : wpAny (model X.prog X.w) X.A (call (.ref f) us) (EP X pins σ Q) X.xe s := by
  have r2 : Vals (vs ++ dvs) (us ++ ds) := r.append hd
  have hl : (us ++ ds).length = ps.length := by rw [← r2.length]; exact F.len _ _ _ _ h
  refine wpAny_call (codeAny_mono (F.run X.A X.stack s H ⟨us, []⟩ (us ++ ds) (vs ++ dvs) Q E hr I.env0 (hb s us I.kIn hl) r2 h) fun r s' hq => ?_)
  cases r with
  | error e => exact hx pins σ H s e s' I hq
  | ok fl =>
    cases fl with
    | ret u => exact I.after hq
    | next => exact False.elim hq
    | brk => exact False.elim hq
    | cont => exact False.elim hq

theorem pe_call (F : FnOk X.prog X.w X.K X.mg X.base CX k f fd ps sp) (hr : Room k X.A) (hg : Gl X x) (hm : X.mg x = some (.ref f)) (hk : PySem.W.keepIn X.K (.ref f) = true) (hb : Binds X.K fd ps ds) (hd : Vals dvs ds) (hx : Passes CX X E)
    (ha : PA X (e :: es) t) (hdb : (x == ("__debug__" : Str)) = false := by decide) (he : starEach (e :: es) X.env = (false, eval e X.env) :: starEach es X.env := by rfl) (hpl : (backTo pos (starEach es X.env)).any (·.1) = false := by rfl) :
    PE X (.Call (.Name x p) (e :: es) [] pos) (tCall sp dvs E t) := by
  intro pins s σ H Q I h
  refine wpAny_Call_Name_kw (ld_glob I hg hm ?_ hdb)
  refine PySem.W.callWith_K (h₀ := X.base) I.ok.mod.kin hk (thn (ha pos pins s σ H _ I h) fun us s1 ⟨vs, H1, I1, r, q⟩ => ⟨I1.kIn, ?_⟩) he hpl
  exact run_fn F hr hb hd hx I1 r q


/-- what a class must have to be made -/
structure Mk (K : PySem.W.Frag) (C f : Addr) : Prop where
  makes : PySem.W.makesIn K C = true
  init : PySem.W.findIn K (.ref C) "__init__" = some (some (.ref f))
  fn : PySem.W.isFn K (.ref f) = true
  kp : PySem.W.keepIn K (.ref C) = true

end

/-! ### keywords -/
section
variable {X : Cx} {CX : CXT} {k : Nat} {f C : Addr} {fd : FuncData} {ps ks : List Str} {sp : Sp} {E : XK} {x m : Str} {p pos apos kpos : Pos} {e o : Expr} {es : List Expr} {kws : List Keyword} {te ta : TE} {t tk : TA} {nm : Option Str}

/-- how a call with keywords binds: g puts the positional values us and the keywords' values ws (names ks) in the parameters' order, defaults among them -/
structure KBinds (K : PySem.W.Frag) (fd : FuncData) (ps ks : List Str) (g : List Value → List Value → List Value) (gV : List V → List V → List V) : Prop where
  to : ∀ (s : Shared) (us ws : List Value), K.In s.heap → (g us ws).length = ps.length → BindsTo s fd ⟨us, ks.zip ws⟩ (ps.zip (g us ws))
  rel : ∀ {vs : List V} {us : List Value} {zs : List V} {ws : List Value}, Vals vs us → Vals zs ws → Vals (gV vs zs) (g us ws)
variable {g : List Value → List Value → List Value} {gV : List V → List V → List V}
end

/-! ### a def's body keeps its promise -/
/-- names: the parameters first -/
structure FnScope (N P : List Str) (sc : Scope) : Prop where
  kind : sc.kind = .function
  co : sc.isCoroutine = false
  gen : sc.isGenerator = false
  nd : N.Nodup
  pre : N.take P.length = P
  par : ∀ x ∈ P, sc.names.lookup x = some .local ∨ sc.names.lookup x = some .cell
  nofree : ∀ y ∈ sc.names, y.2 ≠ .free

theorem bindL_out {kindOf : Str → Option NameKind} {x : Str} : ∀ {binds : List (Str × Value)} {m : Str → Option Value}, (∀ v, (x, v) ∉ binds) → bindL kindOf binds m x = m x
  | [], _, _ => rfl
  | (n, v) :: r, m, h => by
    unfold bindL
    rw [bindL_out fun w hw => h w (List.mem_cons_of_mem _ hw)]
    split
    · have : x ≠ n := by rintro rfl; exact h v List.mem_cons_self
      simp [this]
    · rfl
theorem bindC_out {kindOf : Str → Option NameKind} {x : Str} : ∀ {binds : List (Str × Value)} {m : Str → Option Value}, (∀ v, (x, v) ∉ binds) → bindC kindOf binds m x = m x
  | [], _, _ => rfl
  | (n, v) :: r, m, h => by
    unfold bindC
    rw [bindC_out fun w hw => h w (List.mem_cons_of_mem _ hw)]
    split
    · rfl
    · have : x ≠ n := by rintro rfl; exact h v List.mem_cons_self
      simp [this]
theorem bindL_get {kindOf : Str → Option NameKind} {x : Str} {v : Value} : ∀ {P : List Str} {vs : List Value} {i : Nat} {m : Str → Option Value}, P.Nodup → P[i]? = some x → vs[i]? = some v → kindOf x = some .local →
    bindL kindOf (P.zip vs) m x = some v
  | [], _, _, _, _, h, _, _ => by simp at h
  | _ :: _, [], _, _, _, _, h, _ => by simp at h
  | p :: P, w :: vs, 0, m, nd, h1, h2, hk => by
    simp at h1 h2; subst h1; subst h2
    show bindL kindOf ((p, w) :: P.zip vs) m p = _
    unfold bindL
    rw [bindL_out fun v hv => (List.nodup_cons.mp nd).1 (List.of_mem_zip hv).1, if_pos hk]
    simp
  | p :: P, w :: vs, i + 1, m, nd, h1, h2, hk => by
    show bindL kindOf ((p, w) :: P.zip vs) m x = _
    unfold bindL
    exact bindL_get (i := i) (List.nodup_cons.mp nd).2 (by simpa using h1) (by simpa using h2) hk
theorem bindC_get {kindOf : Str → Option NameKind} {x : Str} {v : Value} : ∀ {P : List Str} {vs : List Value} {i : Nat} {m : Str → Option Value}, P.Nodup → P[i]? = some x → vs[i]? = some v → kindOf x ≠ some .local →
    bindC kindOf (P.zip vs) m x = some v
  | [], _, _, _, _, h, _, _ => by simp at h
  | _ :: _, [], _, _, _, _, h, _ => by simp at h
  | p :: P, w :: vs, 0, m, nd, h1, h2, hk => by
    simp at h1 h2; subst h1; subst h2
    show bindC kindOf ((p, w) :: P.zip vs) m p = _
    unfold bindC
    rw [bindC_out fun v hv => (List.nodup_cons.mp nd).1 (List.of_mem_zip hv).1, if_neg hk]
    simp
  | p :: P, w :: vs, i + 1, m, nd, h1, h2, hk => by
    show bindC kindOf ((p, w) :: P.zip vs) m x = _
    unfold bindC
    exact bindC_get (i := i) (List.nodup_cons.mp nd).2 (by simpa using h1) (by simpa using h2) hk

/-- the names' values at the entry -/
def start (N : List Str) (vs : List V) : St := vs.map some ++ List.replicate (N.length - vs.length) none

/-- the context of a def's body, at its entry; an exception leaves the frame, then lies as CX says -/
def cxOf (CX : CXT) (P : Program) (w : World) (K : PySem.W.Frag) (mg : Str → Option Value) (base : Heap) (N : List Str) (qual : Str) (scope : Scope) (f : Addr) (cd : Value) (A : Around) (outer : List Env) (s : Shared) (H : Hp) (E : XK) : Cx where
  prog := P
  w := w
  K := K
  mg := mg
  base := base
  A := A.deeper (envOfC qual scope s.heap.objs.size f cd)
  N := N
  s₀ := s
  H₀ := H
  env := envOfC qual scope s.heap.objs.size f cd
  outer := outer
  stack := envOfC qual scope s.heap.objs.size f cd :: outer
  ex := []
  calm := true
  fn := fun _ => true
  pn := []
  xe := fun e s' => wpAny (model P w) (A.deeper (envOfC qual scope s.heap.objs.size f cd)) (leaving (envOfC qual scope s.heap.objs.size f cd) e) (fun _ s'' => CX outer H s E e s'') (fun e' s'' => CX outer H s E e' s'') s'

theorem cell_has {sc : Scope} {n : Nat} {x : Str} (h : sc.names.lookup x = some .cell) : ∃ c, (cellsFrom n sc.names []).lookup x = some c := by
  have q := PySem.W.cellsFrom_some sc.names n [] (.inl h)
  exact Option.isSome_iff_exists.mp q

theorem inv_start {CX : CXT} {P : Program} {w : World} {K : PySem.W.Frag} {mg : Str → Option Value} {base : Heap} {N ps : List Str} {qual : Str} {scope : Scope} {f : Addr} {cd : Value} {A : Around} {outer : List Env} {s s1 : Shared} {H : Hp} {E : XK} {us : List Value} {vs : List V}
    (S : FnScope N ps scope) (hd : A.handled = none) (e0 : Env0 P w K mg base A outer s H) (hl : vs.length = ps.length) (r : Vals vs us)
    (x : InCallC s s.heap.objs.size (bindL (envOfC qual scope s.heap.objs.size f cd).kindOf (ps.zip us) fun _ => none) (cellsFrom (s.heap.objs.size + 1) scope.names []) (bindC (envOfC qual scope s.heap.objs.size f cd).kindOf (ps.zip us) fun _ => none) s1) :
    Inv (cxOf CX P w K mg base N qual scope f cd A outer s H E) [] (start N vs) H s1 := by
  have hpl : ps.length ≤ N.length := by have := congrArg List.length S.pre; rw [List.length_take] at this; omega
  obtain ⟨h1, tk, rfl, hk⟩ := x.done
  have noA : ∀ b : Addr, b ∉ (cxOf CX P w K mg base N qual scope f cd A outer s H E).ex := fun b z => absurd (show b ∈ ([] : List Addr) from z) (by simp)
  refine ⟨⟨e0.mod, S.kind, rfl, rfl, Nat.le_refl _, fun y z c h1 h2 => ?_, fun y hy => ?_, fun y c _ h => ?_, fun _ => hd, Around.frames_deeper e0.frames, .inr ⟨rfl, rfl⟩, fun b z => absurd z (noA b), e0.bs, e0.bsz, fun b _ _ => noA b, fun b z => absurd z (noA b), e0.funs, e0.frf⟩,
    rfl, e0.bare, Un.kept hk, ⟨_, x.toInCall.ns, fun i y v h1 h2 h3 => ?_⟩, fun y c h => ⟨_, x.cell y c h⟩, e0.hok.fresh (Nat.le_refl _), fun y c h => ?_, fun p hp => absurd (show p ∈ ([] : List (Addr × Obj)) from hp) (by simp), e0.hok.kept hk, ?_⟩
  · exact name_of_addr x.apart (PySem.mem_of_lookup h1) (PySem.mem_of_lookup h2)
  · have hy : scope.names.lookup y = some .cell ∨ scope.names.lookup y = some .free := hy
    rcases hy with hy | hy
    · exact cell_has hy
    · exact absurd rfl (S.nofree _ (PySem.mem_of_lookup hy))
  · exact Nat.le_of_lt (x.above y c (PySem.mem_of_lookup h))
  · have hi : i < vs.length := by
      unfold start at h2
      by_cases hi : i < vs.length
      · exact hi
      · rw [List.getElem?_append_right (by simpa using hi)] at h2
        rw [List.getElem?_replicate] at h2
        split at h2 <;> cases h2
    have ha : vs[i]? = some v := by
      unfold start at h2
      rw [List.getElem?_append_left (by simpa using hi), List.getElem?_map] at h2
      cases e : vs[i]? with
      | none => rw [e] at h2; cases h2
      | some a => rw [e] at h2; cases h2; rfl
    obtain ⟨u, hu, rv⟩ := r.get ha
    have hp : ps[i]? = some y := by
      rw [← S.pre, List.getElem?_take_of_lt (by omega)]; exact h1
    have ndP : ps.Nodup := by rw [← S.pre]; exact S.nd.sublist (List.take_sublist _ _)
    refine ⟨u, rv, ?_⟩
    rcases S.par y (List.mem_of_getElem? hp) with k | k
    · exact .inl ⟨k, bindL_get ndP hp hu k⟩
    · obtain ⟨c, e⟩ := cell_has (n := s.heap.objs.size + 1) k
      refine .inr ⟨.inl k, c, e, ?_⟩
      have q := x.cell y c e
      rw [bindC_get ndP hp hu (by show scope.names.lookup y ≠ _; rw [k]; decide)] at q
      exact q
  · exact e0.hok.fresh (Nat.le_of_lt (x.above y c (PySem.mem_of_lookup h)))
  · unfold start
    show _ = N.length
    rw [List.length_append, List.length_map, List.length_replicate]
    omega

/-- THE RULE: a def (or a method) of the text, by its body. The body's reading t is chosen for each entry; it is run at the parameters' values -/
theorem fn_of {CX : CXT} {P : Program} {w : World} {K : PySem.W.Frag} {mg : Str → Option Value} {base : Heap} {k : Nat} {f : Addr} {name qual : Str} {params : Arguments} {body : List Stmt} {scope : Scope} {dV kV doc pm cdv ct oc : Value} {an od : Option Addr}
    {osl : Array (Option Value)} {N ps : List Str} {sp : Sp} (lk : K.lookup f = some ⟨oc, od, .func (PySem.W.fnOf name qual params body scope dV kV doc pm an cdv ct), osl⟩) (hcd : PySem.W.codeIn K cdv qual = true) (S : FnScope N ps scope)
    (len : ∀ vs H Q E, sp vs H Q E → vs.length = ps.length)
    (hbody : ∀ (A : Around) (outer : List Env) (s : Shared) (H : Hp) (vs : List V) (Q : VK) (E : XK), Room k (A.deeper (envOfC qual scope s.heap.objs.size f cdv)) → sp vs H Q E →
      ∃ t, PSs (cxOf CX P w K mg base N qual scope f cdv A outer s H E) body t ∧ t { nx := fun _ H' => Q .non H', rt := Q } (start N vs) H) :
    FnOk P w K mg base CX (k + 1) f (PySem.W.fnOf name qual params body scope dV kV doc pm an cdv ct) ps sp := by
  refine ⟨len, fun A outer s H args us vs Q E hr e0 hb r hsp => ?_⟩
  have hl := len _ _ _ _ hsp
  have KX : K.In s.heap := e0.mod.kin.keeps fun b o e => (e0.bs b o e).1
  have lim : s.heap.NoLimit := e0.mod.nolimit.keeps fun b o e => (e0.bs b o e).1
  have hkind : ∀ y ∈ ps.zip us, scope.names.lookup y.1 = some .local ∨ (scope.names.lookup y.1 = some .cell ∧ ((cellsFrom (s.heap.objs.size + 1) scope.names []).lookup y.1).isSome = true) := fun ⟨n, v⟩ hy => by
    rcases S.par n (List.of_mem_zip hy).1 with q | q
    · exact .inl q
    · exact .inr ⟨q, PySem.W.cellsFrom_some _ _ _ (.inl q)⟩
  refine codeAny_call_function hr.depth (KX _ _ lk) rfl S.co S.gen rfl (PySem.W.codeRec_of KX hcd) (hb _ _ _ _ ?_)
  refine wpAny_newFunctionEnv_cells S.kind hkind fun env he s1 x => ?_
  subst he
  refine ⟨lim.keeps x.toInCall.keep, codeAny_func ?_⟩
  obtain ⟨t, ht, hq⟩ := hbody A outer s H vs Q E (hr.deeper _) hsp
  have I : Inv (cxOf CX P w K mg base N qual scope f cdv A outer s H E) [] (start N vs) H s1 := inv_start S hr.hd e0 hl r x
  refine wpAny_mono (ht [] s1 (start N vs) H _ I hq) (fun fl s' hs => ?_) fun e s' hs => hs
  have fin : ∀ {σ' : St} {H' : Hp} {v : V} {u : Value}, Inv (cxOf CX P w K mg base N qual scope f cdv A outer s H E) [] σ' H' s' → RelV v u → Q v H' → CE outer P w H s Q u s' :=
    fun {σ' H' v u} J rv q => ⟨v, H', J.os, J.bare, J.base, J.hok, rv, q⟩
  cases fl with
  | ret u =>
    obtain ⟨v, σ', H', J, rv, q⟩ := hs
    exact fin J rv q
  | next =>
    obtain ⟨σ', H', J, q⟩ := hs
    exact fin (v := V.non) (u := Value.none) J rfl q
  | brk =>
    obtain ⟨_, _, _, q⟩ := hs
    exact False.elim q
  | cont =>
    obtain ⟨_, _, _, q⟩ := hs
    exact False.elim q
end L2

namespace L2
open PySem PySem.Spec PyProof.Rows
section
variable {X : Cx} {x : Str} {p pos : Pos} {e : Expr} {es : List Expr} {t : TA} {id T : String} {r : List V → Hp → VK → Prop}

def tCB (r : List V → Hp → VK → Prop) (t : TA) : TE := fun σ H Q => t σ H fun vs H1 => r vs H1 Q
/-- f(e, ..), f a built-in function -/
theorem pe_callB (hc : CallR X (.builtin id) r) (hg : Gl X x) (hm : X.mg x = none) (hv : bootBuiltins x = some (.builtin id)) (ha : PA X (e :: es) t) (hn : x ≠ "__name__" := by decide) (hdb : (x == ("__debug__" : Str)) = false := by decide)
    (he : starEach (e :: es) X.env = (false, eval e X.env) :: starEach es X.env := by rfl) (hpl : (backTo pos (starEach es X.env)).any (·.1) = false := by rfl) : PE X (.Call (.Name x p) (e :: es) [] pos) (tCB r t) := by
  intro pins s σ H Q I h
  refine wpAny_Call_Name_kw (ld_blt I hg hm hv ?_ hn hdb)
  exact PyProof.Rows.callWith_builtin1 (thn (ha pos pins s σ H _ I h) fun us s1 ⟨vs, H1, I1, r1, q1⟩ => hc pins s1 σ H1 vs us Q I1 r1 q1) he hpl
/-- T(e, ..), T a built-in type -/
theorem pe_callTy (hc : CallR X (.type T) r) (hg : Gl X x) (hm : X.mg x = none) (hv : bootBuiltins x = some (.type T)) (ha : PA X (e :: es) t) (hn : x ≠ "__name__" := by decide) (hdb : (x == ("__debug__" : Str)) = false := by decide)
    (he : starEach (e :: es) X.env = (false, eval e X.env) :: starEach es X.env := by rfl) (hpl : (backTo pos (starEach es X.env)).any (·.1) = false := by rfl) : PE X (.Call (.Name x p) (e :: es) [] pos) (tCB r t) := by
  intro pins s σ H Q I h
  refine wpAny_Call_Name_kw (ld_blt I hg hm hv ?_ hn hdb)
  exact PyProof.Rows.callWith_type1 (thn (ha pos pins s σ H _ I h) fun us s1 ⟨vs, H1, I1, r1, q1⟩ => hc pins s1 σ H1 vs us Q I1 r1 q1) he hpl
end
end L2

namespace HT
open PySem PyProof.Rows



section
open PySem.SeqAt
open PySem.AutoSeq1 (wpAny_loadPart')
open PySem.MeetsSeq PySem.MeetsSeq2 PySem.MeetsSeq3

end

section
variable {prog : Program} {w : World} {A : Around} {E : Value → Shared → Prop} {s : Shared}



/-! ### t[a:b], not the whole -/
/-- a slice's bound as a place among n (d where it is left out) -/
def sIx (n d : Nat) : Option Int → Nat
  | none => d
  | some v => if v < 0 then (v + (n : Int)).toNat else min v.toNat n
theorem sIx_none (n d : Nat) : sIx n d none = d := rfl
theorem sIx_nat (n d k : Nat) : sIx n d (some (k : Int)) = min k n := by
  show (if (k : Int) < 0 then ((k : Int) + (n : Int)).toNat else min (k : Int).toNat n) = min k n
  rw [if_neg (by omega), Int.toNat_natCast]

end
end HT

namespace L2
open PySem PySem.Spec PyProof.Rows

/-! ### the parts of a slice -/
abbrev TO := St → Hp → (Option Int → Hp → Prop) → Prop
/-- a slice's part (left out, or an int) -/
def PO (X : Cx) (e : Option Expr) (t : TO) : Prop :=
  ∀ (pins : List (Addr × Obj)) (s : Shared) (σ : St) (H : Hp) (Q : Option Int → Hp → Prop), Inv X pins σ H s → t σ H Q →
    wpAny (model X.prog X.w) X.A (evalPart e X.env) (fun u s' => ∃ o H', Inv X pins σ H' s' ∧ IsPart u o ∧ Q o H') X.xe s
def tNoPart : TO := fun _ H Q => Q none H
def tPart (t : TE) : TO := fun σ H Q => t σ H fun x H1 => ∃ i, x = .int i ∧ Q (some i) H1


section
variable {X : Cx} {e : Expr} {te : TE} {lo hi : Option Expr} {tl th : TO} {pos p2 : Pos}

theorem po_none : PO X none tNoPart := by
  intro pins s σ H Q I h
  rw [evalPart_none]
  exact wpAny_pure ⟨none, H, I, .none, h⟩
theorem po_some (h : PE X e te) : PO X (some e) (tPart te) := by
  intro pins s σ H Q I hw
  rw [evalPart_some]
  refine thn (h pins s σ H _ I hw) fun u s1 ⟨x, H1, I1, r1, q1⟩ => ?_
  obtain ⟨i, rfl, q⟩ := q1
  obtain ⟨t, rfl⟩ := r1
  exact ⟨some i, H1, I1, .int i t, q⟩

/-- what a slice of a value is, by values: the slice object stands at sl -/
def SlR (X : Cx) (r : V → Option Int → Option Int → Hp → VK → Prop) : Prop :=
  ∀ (pins : List (Addr × Obj)) (s : Shared) (σ : St) (H : Hp) (x : V) (v vl vu : Value) (lo hi : Option Int) (sl : Addr) (Q : VK), Inv X pins σ H s → RelV x v → s.heap.IsSliceOf sl vl vu .none → IsPart vl lo → IsPart vu hi → r x lo hi H Q →
    ∃ T id, typeLookup (.type T) "__getitem__" = pure (some (.builtin id)) ∧ s.TypeIs v T ∧ wpAny (model X.prog X.w) X.A (getItem v (.ref sl)) (EP X pins σ Q) X.xe s
def tSl (r : V → Option Int → Option Int → Hp → VK → Prop) (te : TE) (tl th : TO) : TE := fun σ H Q => te σ H fun x H1 => tl σ H1 fun l H2 => th σ H2 fun u H3 => r x l u H3 Q
/-- a[lo:hi], any a -/
theorem pe_slice {r : V → Option Int → Option Int → Hp → VK → Prop} (hr : SlR X r) (he : PE X e te) (hl : PO X lo tl) (hu : PO X hi th) : PE X (.Subscript e (.Slice lo hi none p2) pos) (tSl r te tl th) := by
  intro pins s σ H Q I h
  refine Subscript_ (thn (he pins s σ H _ I h) fun v s1 ⟨x, H1, I1, r1, q1⟩ => ?_)
  refine wpAny_Slice (thn (hl pins s1 σ H1 _ I1 q1) fun vl s2 ⟨l, H2, I2, pl, q2⟩ => thn (hu pins s2 σ H2 _ I2 q2) fun vu s3 ⟨u, H3, I3, pu, q3⟩ => ?_)
  rw [evalPart_none]
  refine wpAny_pure ?_
  have I4 : Inv X pins σ H3 { s3 with heap := s3.heap.push { cls := .type "slice", data := .fields #[vl, vu, .none] } } := I3.kept (t' := s3.toks) fun b ob q => Heap.get?_push_of_some _ q
  obtain ⟨T, id, hT, ht, hg⟩ := hr pins { s3 with heap := s3.heap.push { cls := .type "slice", data := .fields #[vl, vu, .none] } } σ H3 x v vl vu l u s3.heap.objs.size Q I4 r1 (Heap.IsSliceOf.new ..) pl pu q3
  show wpAny (model X.prog X.w) X.A (subscriptTail e (.Slice lo hi none p2) v (.ref s3.heap.objs.size)) (EP X pins σ Q) X.xe { s3 with heap := s3.heap.push { cls := .type "slice", data := .fields #[vl, vu, .none] } }
  exact tail_any (ops := [.ref s3.heap.objs.size, v]) ht hT hg (by with_unfolding_all rfl)

/-- the items of xs[lo:hi] -/
def cutV (xs : List V) (lo hi : Option Int) : List V := (xs.drop (HT.sIx xs.length 0 lo)).take (HT.sIx xs.length xs.length hi - HT.sIx xs.length 0 lo)
theorem cutV_length (xs : List V) (lo hi : Option Int) : (cutV xs lo hi).length ≤ xs.length := by
  unfold cutV
  rw [List.length_take, List.length_drop]
  omega

/-! ### t < u, t + u -/
end
end L2

namespace L2
open PySem PySem.Spec PyProof.Rows

/-! ### places -/
/-- the place that an index of any sign means -/
def ixN (n : Nat) (i : Int) : Option Nat := if 0 ≤ i then (if i < n then some i.toNat else none) else if -(n : Int) ≤ i then some (i + n).toNat else none
def atI {α : Type} (xs : List α) (i : Int) : Option α := (ixN xs.length i).bind fun j => xs[j]?
theorem ixN_seq {n : Nat} {i : Int} {j : Nat} (h : ixN n i = some j) : seqIndex? i n = some j ∧ j < n ∧ -(n : Int) ≤ i ∧ i < n := by
  unfold ixN at h
  by_cases h0 : 0 ≤ i
  · rw [if_pos h0] at h
    by_cases h1 : i < n
    · rw [if_pos h1] at h
      have e : i.toNat = j := Option.some.inj h
      exact ⟨by rw [seqIndex_of h0 h1, e], by omega, by omega, h1⟩
    · rw [if_neg h1] at h; cases h
  · rw [if_neg h0] at h
    by_cases h1 : -(n : Int) ≤ i
    · rw [if_pos h1] at h
      have e : (i + n).toNat = j := Option.some.inj h
      exact ⟨by rw [seqIndex_neg (by omega) h1, e], by omega, h1, by omega⟩
    · rw [if_neg h1] at h; cases h
theorem atI_get {α : Type} {xs : List α} {i : Int} {v : α} (h : atI xs i = some v) : ∃ j, seqIndex? i xs.length = some j ∧ xs[j]? = some v ∧ j < xs.length ∧ -(xs.length : Int) ≤ i ∧ i < xs.length := by
  unfold atI at h
  cases e : ixN xs.length i with
  | none => rw [e] at h; cases h
  | some j =>
    rw [e] at h
    obtain ⟨h1, h2, h3, h4⟩ := ixN_seq e
    exact ⟨j, h1, h, h2, h3, h4⟩
theorem atI_nat {α : Type} {xs : List α} {j : Nat} {v : α} (h : xs[j]? = some v) : atI xs (j : Int) = some v := by
  have hj : j < xs.length := (List.getElem?_eq_some_iff.mp h).1
  have e : ixN xs.length (j : Int) = some j := by
    unfold ixN
    rw [if_pos (by omega), if_pos (by omega)]; simp
  unfold atI; rw [e]; exact h

/-! ### what may be subscripted -/
/-- what stands as an index of a plain subscript -/
def PlainIx (b : Expr) : Prop := ∀ o i, subscripted b false o i = operate [o, i] (getItem o i)
/-- a subscript by values -/
def IxR (X : Cx) (r : R2) : Prop :=
  ∀ (value slice : Expr) (pins : List (Addr × Obj)) (s : Shared) (σ : St) (H : Hp) (x y : V) (v u : Value) (Q : VK), Inv X pins σ H s → RelV x v → RelV y u → r x y H Q →
    subscripted slice false v u = operate [v, u] (getItem v u) → wpAny (model X.prog X.w) X.A (subscriptTail value slice v u) (EP X pins σ Q) X.xe s
/-- a call of a builtin's method by values: the receiver, the arguments -/
def MtR (X : Cx) (id : String) (r : V → List V → Hp → VK → Prop) : Prop :=
  ∀ (pins : List (Addr × Obj)) (s : Shared) (σ : St) (H : Hp) (x : V) (xs : List V) (v : Value) (us : List Value) (Q : VK), Inv X pins σ H s → RelV x v → Vals xs us → r x xs H Q →
    wpAny (model X.prog X.w) X.A (call (.builtin id) (v :: us)) (EP X pins σ Q) X.xe s
section
variable {X : Cx} {a b : Expr} {ta tb : TE} {pos : Pos}
/-- a[b] -/
theorem pe_ix {r : R2} (hr : IxR X r) (ha : PE X a ta) (hb : PE X b tb) (hs : PlainIx b) : PE X (.Subscript a b pos) (tOp r ta tb) := by
  intro pins s σ H Q I h
  exact Subscript_ (binT ha hb I h fun v u s2 x y H2 I2 rx ry q => hr a b pins s2 σ H2 x y v u Q I2 rx ry q (hs _ _))

def rIxL (K : PySem.W.Frag) : R2 := fun x y H Q => ∃ p xs i v, x = .ref p ∧ y = .int i ∧ SqL K H p xs ∧ atI xs i = some v ∧ Q v H
def rIxT (K : PySem.W.Frag) : R2 := fun x y H Q => ∃ p xs i v, x = .ref p ∧ y = .int i ∧ SqT K H p xs ∧ atI xs i = some v ∧ Q v H
def rIxS : R2 := fun x y H Q => ∃ z i c, x = .str z ∧ y = .int i ∧ z.length ≤ sizeLine ∧ atI z.cps.toList i = some c ∧ Q (.str ⟨#[c]⟩) H
theorem ix_list : IxR X (rIxL X.K) := by
  intro value slice pins s σ H x y v u Q I rx ry h hs
  obtain ⟨p, xs, i, z, rfl, rfl, hq, he, q⟩ := h
  cases rx
  obtain ⟨t, rfl⟩ := ry
  obtain ⟨its, r, pl, hz⟩ := I.list hq
  obtain ⟨j, h1, h2, h3, h4, h5⟩ := atI_get he
  obtain ⟨w, ew, rw'⟩ := r.get h2
  have hl := r.length
  have hn := line63
  have fin : EP X pins σ Q w s := ⟨z, H, I, rw', q⟩
  by_cases h0 : 0 ≤ i
  · have hj : i.toNat = j := by
      rw [seqIndex_of h0 h5] at h1
      exact Option.some.inj h1
    exact item_listR pl.isList h0 (by omega) (by rw [hj]; simpa using ew) fin hs
  · have hj : (i + (its.toArray.size : Int)).toNat = j := by
      rw [seqIndex_neg (by omega) h4] at h1
      rw [List.size_toArray, ← hl]
      exact Option.some.inj h1
    exact subscriptTail_builtinR (x := w) pl.isList.typeIs slot_list_getitem.lookup
      (wpAny_getItem_list_neg (Q := fun r s' => r = w ∧ EP X pins σ Q r s') pl.isList (by omega) (by rw [List.size_toArray] <;> omega) (by omega) (by rw [hj]; simpa using ew) ⟨rfl, fin⟩) hs
theorem ix_tup : IxR X (rIxT X.K) := by
  intro value slice pins s σ H x y v u Q I rx ry h hs
  obtain ⟨p, xs, i, z, rfl, rfl, hq, he, q⟩ := h
  cases rx
  obtain ⟨t, rfl⟩ := ry
  obtain ⟨its, r, pl, hz⟩ := I.tuple hq
  obtain ⟨j, h1, h2, h3, h4, h5⟩ := atI_get he
  obtain ⟨w, ew, rw'⟩ := r.get h2
  have hl := r.length
  have hn := line63
  have fin : EP X pins σ Q w s := ⟨z, H, I, rw', q⟩
  exact subscriptTail_builtinR (x := w) pl.typeIs slot_tuple_getitem.lookup
    (getItem_tuple (j := j) (Q := fun r s' => r = w ∧ EP X pins σ Q r s') pl (by omega) (by omega) (by rw [List.size_toArray, ← hl]; exact h1) (by simpa using ew) ⟨rfl, fin⟩) hs
theorem ix_str : IxR X rIxS := by
  intro value slice pins s σ H x y v u Q I rx ry h hs
  obtain ⟨z, i, c, rfl, rfl, hz, he, q⟩ := h
  obtain ⟨t, rfl⟩ := rx
  obtain ⟨t', rfl⟩ := ry
  obtain ⟨j, h1, h2, h3, h4, h5⟩ := atI_get he
  have hl : z.cps.toList.length = z.length := by simp [Str.length]
  rw [hl] at h1 h4 h5
  have hn := line63
  exact tail_any (typeIs_str s z t) slot_str_getitem.lookup (getItem_str (c := c) (by
    have e1 : decide (i < -(2 ^ 63 : Int)) = false := decide_eq_false (by omega)
    have e2 : decide (i ≥ 2 ^ 63) = false := decide_eq_false (by omega)
    rw [e1, e2, Bool.or_false]) (by rw [h1]; simpa using h2) ⟨.str ⟨#[c]⟩, H, I.tok _, ⟨_, rfl⟩, q⟩) hs

/-! ### xs[i] = v, any sign -/
/-- the list's object behind a store -/
theorem mapSeq_set (its : List Value) (n j : Nat) (u : Value) : Obj.mapSeq (·.setIfInBounds j u) { cls := .type "list", data := .seq its.toArray n } = { cls := .type "list", data := .seq (its.set j u).toArray n } := by
  simp [Obj.mapSeq]
theorem Inv.lst {pins : List (Addr × Obj)} {σ : St} {H : Hp} {s : Shared} {p : Addr} {xs : List V} (I : Inv X pins σ H s) (h : H p = some (.lst xs)) :
    ∃ (its : List Value) (n : Nat), Vals xs its ∧ s.heap.get? p = some { cls := .type "list", data := .seq its.toArray n } ∧ xs.length ≤ sizeLine := by
  obtain ⟨z, its, n, r, e⟩ := I.hok p _ h
  exact ⟨its, n, r, e, z⟩
/-- the list at p is written by an update of its object -/
theorem Inv.lstUpd {pins : List (Addr × Obj)} {σ : St} {H : Hp} {s : Shared} {p : Addr} {xs ys : List V} {its its' : List Value} {n n' : Nat} {f : Obj → Obj} (I : Inv X pins σ H s) (h : H p = some (.lst xs))
    (ho : s.heap.get? p = some { cls := .type "list", data := .seq its.toArray n }) (hf : f { cls := .type "list", data := .seq its.toArray n } = { cls := .type "list", data := .seq its'.toArray n' }) (r : Vals ys its') (hz : ys.length ≤ sizeLine) (t : Nat) :
    Inv X pins σ (upd H p (.lst ys)) { s with heap := s.heap.update p f, toks := t } := by
  have e : (s.heap.update p f).get? p = some { cls := .type "list", data := .seq its'.toArray n' } := by
    rw [Heap.get?_update_self f ho (by rw [hf] <;> rfl), hf]
  refine I.write (x := p) (e := p) (by rw [h]; trivial) (.inl rfl) (fun b u hb q => (Heap.get?_update_other _ _ (Ne.symm hb)).trans q) ⟨_, e⟩ ?_
  exact ⟨hz, its', n', r, e⟩
def rSetL : V → V → V → Hp → (Hp → Prop) → Prop := fun o i v H Q => ∃ p xs k j, o = .ref p ∧ i = .int k ∧ H p = some (.lst xs) ∧ ixN xs.length k = some j ∧ Q (upd H p (.lst (xs.set j v)))
theorem set_list : PSet X rSetL := by
  intro pins s σ H o i v ov iv u Q I ro ri rv h
  obtain ⟨p, xs, k, j, rfl, rfl, hp, hj, q⟩ := h
  cases ro
  obtain ⟨t, rfl⟩ := ri
  obtain ⟨its, n, r, ho, hz⟩ := I.lst hp
  obtain ⟨h1, h2, h3, h4⟩ := ixN_seq hj
  have hl := r.length
  have hn := line63
  have I' : Inv X pins σ (upd H p (.lst (xs.set j v))) { s with heap := s.heap.update p (Obj.mapSeq (·.setIfInBounds j u)) } :=
    I.lstUpd hp ho (mapSeq_set its n j u) (r.set rv j) (by rw [List.length_set]; exact hz) s.toks
  by_cases h0 : 0 ≤ k
  · have hk : k.toNat = j := by
      rw [seqIndex_of h0 h4] at h1
      exact Option.some.inj h1
    exact PySem.W.ki_setAt ho h0 (by omega) (by rw [List.size_toArray, ← hl]; exact h4) (by rw [hk]; exact ⟨_, I', q⟩)
  · have hk : (k + (its.toArray.size : Int)).toNat = j := by
      rw [seqIndex_neg (by omega) h3] at h1
      rw [List.size_toArray, ← hl]
      exact Option.some.inj h1
    exact PySem.W.ki_setBack ho (by omega) (by rw [List.size_toArray, ← hl]; exact h3) (by omega) (by rw [hk]; exact ⟨_, I', q⟩)

/-! ### slices -/
theorem slice_bounds (lo hi : Option Int) (n : Nat) : (sliceBounds lo hi none n).1 = ((HT.sIx n 0 lo : Nat) : Int) ∧ (sliceBounds lo hi none n).2.1 = ((HT.sIx n n hi : Nat) : Int) ∧ (sliceBounds lo hi none n).2.2 = 1 := by
  refine ⟨?_, ?_, rfl⟩
  · cases lo with
    | none => simp [sliceBounds, HT.sIx]
    | some i =>
      simp only [sliceBounds, HT.sIx, Option.getD_none, show (1 : Int) > 0 by decide, if_true]
      by_cases h : i < 0
      · simp only [h, if_true] <;> omega
      · simp only [h, if_false] <;> omega
  · cases hi with
    | none => simp [sliceBounds, HT.sIx]
    | some i =>
      simp only [sliceBounds, HT.sIx, Option.getD_none, show (1 : Int) > 0 by decide, if_true]
      by_cases h : i < 0
      · simp only [h, if_true] <;> omega
      · simp only [h, if_false] <;> omega
theorem slicePick_cut (its : List Value) (lo hi : Option Int) : slicePick its.toArray lo hi none = ((its.drop (HT.sIx its.length 0 lo)).take (HT.sIx its.length its.length hi - HT.sIx its.length 0 lo)).toArray := by
  obtain ⟨h1, h2, h3⟩ := slice_bounds lo hi its.toArray.size
  unfold slicePick
  rw [h1, h2, h3]
  simp only [sliceRange_one, pick_run, List.size_toArray] <;> rfl
/-- xs[lo:hi] of a list: a new list -/
def rSlL (K : PySem.W.Frag) : V → Option Int → Option Int → Hp → VK → Prop := fun x lo hi H Q => ∃ a xs, x = .ref a ∧ SqL K H a xs ∧ ∀ p, H p = none → Q (.ref p) (upd H p (.lst (cutV xs lo hi)))
theorem sl_list : SlR X (rSlL X.K) := by
  intro pins s σ H x v vl vu lo hi sl Q I rx hs pl pu h
  obtain ⟨a, xs, rfl, hx, q⟩ := h
  cases rx
  obtain ⟨its, r, ht, hz⟩ := I.list hx
  have hlen := r.length
  refine ⟨"list", _, slot_list_getitem.lookup, ht.isList.typeIs, ?_⟩
  refine wpAny_getItem_list_slice ht.isList hs pl pu .none (by simp) ?_ (by rw [List.size_toArray] <;> omega)
  rw [slicePick_cut, ← hlen]
  refine ⟨.ref s.heap.objs.size, _, I.laid (t' := s.toks) (o := .lst (cutV xs lo hi)) (fun b ob q => Heap.get?_push_of_some _ q) (Nat.le_refl _) ?_, rfl, q _ (I.hok.fresh (Nat.le_refl _))⟩
  exact ⟨Nat.le_trans (cutV_length xs lo hi) hz, _, 0, (r.drop (HT.sIx xs.length 0 lo)).take (HT.sIx xs.length xs.length hi - HT.sIx xs.length 0 lo), Heap.get?_push_size _ rfl⟩

/-! ### in, not in: flat items -/

/-! ### len, list(x), tuple(x) of any list or tuple that is read -/
theorem call_len_seq : CallR X (.builtin "len") (fun xs H Q => ∃ p ys, xs = [.ref p] ∧ (SqL X.K H p ys ∨ SqT X.K H p ys) ∧ Q (.int ys.length) H) := by
  intro pins s σ H xs us Q I r h
  obtain ⟨p, ys, rfl, hq, q⟩ := h
  obtain ⟨u, rfl, rx⟩ := vals1 r
  cases rx
  have hn := line63
  rcases hq with hq | hq
  · obtain ⟨its, r', pl, hz⟩ := I.list hq
    have hlen := r'.length
    exact Calls.call_len_list pl.isList (by simp only [List.size_toArray] <;> omega) ⟨.int ys.length, H, I.tok _, ⟨s.toks + 1, by rw [List.size_toArray, hlen]⟩, q⟩
  · obtain ⟨its, r', pl, hz⟩ := I.tuple hq
    have hlen := r'.length
    exact len_tuple pl (by simp only [List.size_toArray] <;> omega) ⟨.int ys.length, H, I.tok _, ⟨s.toks + 1, by rw [List.size_toArray, hlen]⟩, q⟩
theorem call_len_str : CallR X (.builtin "len") (fun xs H Q => ∃ z, xs = [.str z] ∧ z.length ≤ sizeLine ∧ Q (.int z.length) H) := by
  intro pins s σ H xs us Q I r h
  obtain ⟨z, rfl, hz, q⟩ := h
  obtain ⟨u, rfl, t, rfl⟩ := vals1 r
  have hn := line63
  exact len_str (by omega) ⟨.int z.length, H, I.tok _, ⟨_, rfl⟩, q⟩
theorem CallR.or {f : Value} {r r' : List V → Hp → VK → Prop} (h : CallR X f r) (h' : CallR X f r') : CallR X f (fun xs H Q => r xs H Q ∨ r' xs H Q) := by
  intro pins s σ H xs us Q I rs q
  rcases q with q | q
  · exact h pins s σ H xs us Q I rs q
  · exact h' pins s σ H xs us Q I rs q
theorem call_tuple_of : CallR X (.type "tuple") (fun xs H Q => ∃ p ys, xs = [.ref p] ∧ ((SqL X.K H p ys ∧ ∀ l, H l = none → Q (.ref l) (upd H l (.tup ys))) ∨ (SqT X.K H p ys ∧ Q (.ref p) H))) := by
  intro pins s σ H xs us Q I r h
  obtain ⟨p, ys, rfl, h⟩ := h
  obtain ⟨u, rfl, rx⟩ := vals1 r
  cases rx
  rcases h with ⟨hq, q⟩ | ⟨hq, q⟩
  · obtain ⟨its, r', pl, hz⟩ := I.list hq
    have hlen := r'.length
    refine call_tuple_list pl.isList (fun h' kp => ?_) (by simp only [List.size_toArray] <;> omega)
    have I1 : Inv X pins σ H { s with heap := h' } := I.kept (t' := s.toks) kp
    have I2 : Inv X pins σ (upd H h'.objs.size (.tup ys)) { s with heap := h'.push { cls := .type "tuple", data := .seq its.toArray } } :=
      I1.laid (t' := s.toks) (fun b o e => Heap.get?_push_of_some _ e) (Nat.le_refl _) (show ObjOk X.prog X.w _ _ _ (.tup ys) from ⟨hz, its, r', IsTup.new _ _⟩)
    exact ⟨.ref h'.objs.size, _, I2, rfl, q _ (I1.hok.fresh (Nat.le_refl _))⟩
  · obtain ⟨its, r', pl, hz⟩ := I.tuple hq
    exact call_tuple_same pl ⟨.ref p, H, I, rfl, q⟩

/-! ### the call of a builtin's method: o.m(..) -/
/-- the value is of that builtin type -/
def tyV (K : PySem.W.Frag) (T : String) (x : V) (H : Hp) : Prop := match x with
  | .str _ => T = "str"
  | .int _ => T = "int"
  | .ref p => (T = "list" ∧ ∃ xs, SqL K H p xs) ∨ (T = "tuple" ∧ ∃ o, K.lookup p = some o ∧ o.cls = .type "tuple" ∧ o.dict = none) ∨
      (T = "dict" ∧ ((∃ kvs, H p = some (.dK kvs)) ∨ ∃ kvs, H p = some (.dT kvs))) ∨ (T = "set" ∧ ∃ S n, H p = some (.set S n))
  | _ => False
theorem tyV_is {pins : List (Addr × Obj)} {σ : St} {H : Hp} {s : Shared} {T : String} {x : V} {v : Value} (I : Inv X pins σ H s) (r : RelV x v) (ty : tyV X.K T x H) :
    s.TypeIs v T ∧ ∀ a, v = .ref a → ∃ ob, s.heap.get? a = some ob ∧ ob.dict = none := by
  cases x with
  | str z =>
    obtain ⟨t, rfl⟩ := r
    cases (show T = "str" from ty)
    exact ⟨typeIs_str s z t, fun _ e => nomatch e⟩
  | int i =>
    obtain ⟨t, rfl⟩ := r
    cases (show T = "int" from ty)
    exact ⟨typeIs_int s i t, fun _ e => nomatch e⟩
  | ref p =>
    cases r
    rcases ty with ⟨rfl, xs, hq⟩ | ⟨rfl, o, hk, hc, hd⟩ | ⟨rfl, hk⟩ | ⟨rfl, S, n, hk⟩
    · obtain ⟨its, _, pl, _⟩ := I.list hq
      refine ⟨pl.isList.typeIs, fun a e => ?_⟩
      cases e
      obtain ⟨o, n, e, c, hd, _⟩ := pl
      exact ⟨o, e, hd⟩
    · refine ⟨⟨o, I.kIn p o hk, hc⟩, fun a e => ?_⟩
      cases e
      exact ⟨o, I.kIn _ o hk, hd⟩
    · have z : ∃ o, s.heap.get? p = some o ∧ o.ExactDict := by
        rcases hk with ⟨kvs, hk⟩ | ⟨kvs, hk⟩
        · obtain ⟨_, _, _, _, o, _, _, e, ex, _⟩ := I.hok p _ hk
          exact ⟨o, e, ex⟩
        · obtain ⟨_, _, _, _, o, _, _, e, ex, _⟩ := I.hok p _ hk
          exact ⟨o, e, ex⟩
      obtain ⟨o, e, ex⟩ := z
      refine ⟨⟨o, e, ex.1⟩, fun a e2 => ?_⟩
      cases e2
      exact ⟨o, e, ex.2.1⟩
    · obtain ⟨o, _, _, _, e, ex, _⟩ := I.hok p _ hk
      refine ⟨⟨o, e, ex.1⟩, fun a e2 => ?_⟩
      cases e2
      exact ⟨o, e, ex.2.1⟩
  | _ => exact False.elim ty
def tBM (K : PySem.W.Frag) (T : String) (r : V → List V → Hp → VK → Prop) (to : TE) (t : TA) : TE := fun σ H Q => to σ H fun x H1 => tyV K T x H1 ∧ t σ H1 fun xs H2 => r x xs H2 Q
variable {o e : Expr} {es : List Expr} {to : TE} {t : TA} {name : Str} {apos cpos : Pos} {T id : String} {r : V → List V → Hp → VK → Prop}
theorem pe_bm (pa : PlainAttrs T) (slot : Slot T name id) (hty : typeOf (.builtin id) = pure (.type "method_descriptor")) (hm : MtR X id r) (ho : PE X o to) (ha : PA X (e :: es) t)
    (hbase : attributeBase o name X.env (eval o X.env) = eval o X.env := by rfl)
    (hfew : ((backTo cpos (starEach (e :: es) X.env)).all (fun x => !x.1) && (backToKw cpos (keywordEach [] X.env)).all (fun x => x.1.isSome)
      && decide ((e :: es).length + ([] : List Keyword).length + (if ([] : List Keyword).isEmpty then 0 else 1) < 30)) = true := by rfl)
    (hline : (apos.endLine == cpos.line) = true := by rfl) (hs : starEach (e :: es) X.env = (false, eval e X.env) :: starEach es X.env := by rfl) (hplain : (backTo cpos (starEach es X.env)).any (·.1) = false := by rfl) :
    PE X (.Call (.Attribute o name apos) (e :: es) [] cpos) (tBM X.K T r to t) := by
  intro pins s σ H Q I h
  refine wpAny_Call_method_late hbase hfew hline rfl (thn (ho pins s σ H _ I h) fun v s1 ⟨x, H1, I1, r1, ty, q1⟩ => ?_)
  obtain ⟨h1, h2⟩ := tyV_is I1 r1 ty
  refine ⟨T, id, pa, slot, hty, h1, h2, ?_⟩
  have hA := ha cpos pins s1 σ H1 _ I1 q1
  rw [hs] at hA ⊢
  refine Calls.callWith_builtin (by show (false || (backTo cpos (starEach es X.env)).any (·.1)) = false; rw [hplain] <;> rfl) (Calls.evalArgs_plain ?_)
  exact thn hA fun us s2 ⟨vs, H2, I2, r2, q2⟩ => hm pins s2 σ H2 x vs v us Q I2 r1 r2 q2
/- xs.append(e), list.index on a module's tuple .. are MtR facts of 06m -/
end
end L2

namespace L2
open PySem PySem.Spec PyProof.Rows

def MtM (X : Cx) (id : String) (r : V → List V → Hp → VK → Prop) : Prop :=
  ∀ (pins : List (Addr × Obj)) (s : Shared) (σ : St) (H : Hp) (x : V) (xs : List V) (v : Value) (us : List Value) (Q : VK), Inv X pins σ H s → RelV x v → Vals xs us → r x xs H Q →
    wpAny (model X.prog X.w) X.A (call (.builtin id) (v :: us)) (EP X pins σ Q) X.xe s

/-! ### lists of values -/
theorem Vals.one : ∀ {x : V} {us : List Value}, Vals [x] us → ∃ u, us = [u] ∧ RelV x u
  | _, _, .cons r .nil => ⟨_, rfl, r⟩
theorem Vals.rep {xs : List V} {us : List Value} (h : Vals xs us) : ∀ k : Nat, Vals (List.replicate k xs).flatten (List.replicate k us).flatten
  | 0 => .nil
  | k + 1 => by
    rw [List.replicate_succ, List.replicate_succ, List.flatten_cons, List.flatten_cons]
    exact Vals.append h (Vals.rep h k)
theorem foldl_rep (its : List Value) : ∀ (k : Nat) (acc : List Value),
    List.foldl (fun x1 x2 => x1 ++ x2) acc.toArray (List.replicate k its.toArray) = (acc ++ (List.replicate k its).flatten).toArray
  | 0, acc => by simp
  | k + 1, acc => by
    have e : acc.toArray ++ its.toArray = (acc ++ its).toArray := by simp
    have e2 : (acc ++ its) ++ (List.replicate k its).flatten = acc ++ (List.replicate (k + 1) its).flatten := by
      rw [List.replicate_succ, List.flatten_cons, List.append_assoc]
    rw [← e2, ← foldl_rep its k (acc ++ its), ← e, List.replicate_succ, List.foldl_cons]

section
variable {X : Cx} {pins : List (Addr × Obj)} {σ : St} {H : Hp} {s : Shared} {l b : Addr} {xs ys zs : List V}

/-! ### the two steps: a tracked list is rewritten, a new list is laid -/
theorem Inv.lset {its its' : List Value} {n : Nat} {f : Array Value → Array Value} {t' : Nat} (I : Inv X pins σ H s) (hH : H l = some (.lst xs))
    (e : s.heap.get? l = some { cls := .type "list", data := .seq its.toArray n }) (hf : f its.toArray = its'.toArray) (hv : Vals ys its') (hz : ys.length ≤ sizeLine) :
    Inv X pins σ (upd H l (.lst ys)) { s with heap := s.heap.update l (Obj.mapSeq f), toks := t' } := by
  have q := PySem.IsL.update e f
  rw [hf] at q
  refine I.write (x := l) (e := l) (by rw [hH]; exact trivial) (.inl rfl) (fun b' u hb hu => (Heap.get?_update_other s.heap (Obj.mapSeq f) (Ne.symm hb)).trans hu) ⟨_, q⟩ ?_
  exact ⟨hz, its', _, hv, q⟩
theorem Inv.lnew {its : List Value} {t' : Nat} (I : Inv X pins σ H s) (hv : Vals ys its) (hz : ys.length ≤ sizeLine) :
    Inv X pins σ (upd H s.heap.objs.size (.lst ys)) { s with heap := s.heap.push { cls := .type "list", data := .seq its.toArray }, toks := t' } :=
  I.laid (fun _ _ q => Heap.get?_push_of_some _ q) (Nat.le_refl _) ⟨hz, its, 0, hv, Heap.get?_push_size _ rfl⟩
theorem Inv.fresh (I : Inv X pins σ H s) : H s.heap.objs.size = none := I.hok.fresh (Nat.le_refl _)
theorem Inv.lstM (I : Inv X pins σ H s) (hH : H l = some (.lst xs)) : xs.length ≤ sizeLine ∧ ∃ (its : List Value) (n : Nat), Vals xs its ∧ xs.length = its.length ∧ s.heap.get? l = some { cls := .type "list", data := .seq its.toArray n } := by
  obtain ⟨z, its, n, r, e⟩ := I.hok l _ hH
  exact ⟨z, its, n, r, r.length, e⟩

theorem notLongL {n : Nat} (h : n ≤ sizeLine) : Builtin.List.listTooLong n = false := by
  unfold Builtin.List.listTooLong
  exact decide_eq_false (by omega)
end

section
variable {X : Cx}

/-! ### methods -/
def rAppend : V → List V → Hp → VK → Prop := fun x vs H Q => ∃ l xs y, x = .ref l ∧ vs = [y] ∧ H l = some (.lst xs) ∧ xs.length < sizeLine ∧ Q .non (upd H l (.lst (xs ++ [y])))
theorem mt_append : MtM X "list.append" rAppend := by
  intro pins s σ H x vs v us Q I rx rv h
  obtain ⟨l, xs, y, rfl, rfl, hH, hz, q⟩ := h
  cases rx
  obtain ⟨u, rfl, ru⟩ := rv.one
  obtain ⟨z, its, n, r, hl, e⟩ := I.lstM hH
  refine call_meets F.slot_list_append ⟨_, e, rfl⟩ F.entry_list_append (F.args_list_append_2 _ _) (PySem.list_append l its.toArray n u (by rw [List.size_toArray]; omega)) ⟨e, ?_⟩
  refine ⟨.non, _, I.lset (its' := its ++ [u]) hH e (by simp) (r.append (.cons ru .nil)) ?_, rfl, q⟩
  rw [List.length_append, List.length_singleton]
  omega






/-! ### list + list, list += list, list * int -/
def rCat : R2 := fun x y H Q => ∃ l b xs zs, x = .ref l ∧ y = .ref b ∧ H l = some (.lst xs) ∧ H b = some (.lst zs) ∧ xs.length + zs.length ≤ sizeLine ∧ ∀ p, H p = none → Q (.ref p) (upd H p (.lst (xs ++ zs)))
theorem op_cat : OpR X (binaryOp .Add) rCat := by
  intro pins s σ H x y v u Q I rx ry h
  obtain ⟨l, b, xs, zs, rfl, rfl, hH, hB, hz, q⟩ := h
  cases rx
  cases ry
  obtain ⟨z, its, n, r, hl, e⟩ := I.lstM hH
  obtain ⟨z2, its2, n2, r2, hl2, e2⟩ := I.lstM hB
  refine PySem.P.add_list e e2 ?_ (by rw [List.size_toArray, List.size_toArray]; omega)
  have ea : its.toArray ++ its2.toArray = (its ++ its2).toArray := by simp
  rw [ea]
  exact ⟨.ref _, _, I.lnew (t' := s.toks) (r.append r2) (by rw [List.length_append]; omega), rfl, q _ I.fresh⟩
/-- a list times an int (a negative one is nothing) -/
def rRep : R2 := fun x y H Q => ∃ l k xs, x = .ref l ∧ y = .int k ∧ H l = some (.lst xs) ∧ -(2 ^ 63) ≤ k ∧ k < 2 ^ 63 ∧ xs.length * k.toNat ≤ sizeLine ∧
  ∀ p, H p = none → Q (.ref p) (upd H p (.lst (List.replicate k.toNat xs).flatten))
theorem len_rep {α : Type} (xs : List α) (k : Nat) : (List.replicate k xs).flatten.length = k * xs.length := by
  induction k with
  | zero => simp
  | succ k ih => rw [List.replicate_succ, List.flatten_cons, List.length_append, ih, Nat.succ_mul, Nat.add_comm]
theorem op_rep : OpR X (binaryOp .Mult) rRep := by
  intro pins s σ H x y v u Q I rx ry h
  obtain ⟨l, k, xs, rfl, rfl, hH, h1, h2, hz, q⟩ := h
  cases rx
  obtain ⟨t, rfl⟩ := ry
  obtain ⟨z, its, n, r, hl, e⟩ := I.lstM hH
  have hlen : its.toArray.size * k.toNat ≤ sizeLine := by rw [List.size_toArray, ← hl]; exact hz
  have hcap : ¬ its.toArray.size * k.toNat > (2 ^ 63 - 1) / 8 := by
    have : (sizeLine : Nat) ≤ (2 ^ 63 - 1) / 8 := by decide
    omega
  have hfit : ¬ (!Builtin.List.listFitsIndex k) = true := by
    rw [fitsIndex_both h1 h2]
    exact Bool.false_ne_true
  have hlong : ¬ Builtin.List.listTooLong (its.toArray.size * k.toNat) = true := by
    rw [notLongL hlen]
    exact Bool.false_ne_true
  have hnew : List.foldl (fun x1 x2 => x1 ++ x2) #[] (List.replicate (if its.toArray.isEmpty = true then 0 else k.toNat) its.toArray) = (List.replicate k.toNat its).flatten.toArray := by
    have f0 : ∀ m : Nat, List.foldl (fun x1 x2 => x1 ++ x2) #[] (List.replicate m its.toArray) = (List.replicate m its).flatten.toArray := fun m => by
      have := foldl_rep its m []
      rw [List.nil_append] at this
      exact this
    rw [f0]
    cases its with
    | nil => simp
    | cons a r' => rw [if_neg (by simp)]
  refine wpAny_binaryOp_repeat_ref (T := "list") (U := "int") (by decide) ⟨_, e, rfl⟩ (fun s' => typeIs_int s' k t) noFill_list_mul F.fills_int_mul F.slot_int_rmul repeat_list F.slot_int_index.lookup
    (call_meets F.slot_int_rmul (typeIs_int s k t) F.entry_int_rmul (F.args_int_rmul_2 _ _) (int___rmul___int_list k t l its.toArray n)
      ⟨e, rfl, ⟨_, e, rfl⟩, call_meets F.slot_list_mul ⟨_, e, rfl⟩ F.entry_list_mul (F.args_list_mul_2 _ _) (AutoListH.list___mul___list_int_3 l its.toArray n k t hfit hcap hlong) ⟨e, ?_⟩⟩)
  rw [hnew]
  exact ⟨.ref _, _, I.lnew (t' := s.toks) (r.rep k.toNat) (by rw [len_rep, Nat.mul_comm]; exact hz), rfl, q _ I.fresh⟩

/-! ### del xs[i] -/
end

/-! ### xs[a:b] = ys -/
section
variable {prog : Program} {w : World} {A : Around} {E : Value → Shared → Prop} {s : Shared}
set_option maxRecDepth 100000 in
end

section
variable {X : Cx}
end
end L2

namespace L2
open PySem PySem.Spec PyProof.Rows

/-! ### lists of pairs as tables -/
section
variable {κ : Type} [DecidableEq κ]
def valV (kvs : List (κ × V)) (k : κ) : Option V := (kvs.find? fun kv => decide (kv.1 = k)).map (·.2)
/-- in its place, or at the end -/
def putK (kvs : List (κ × V)) (k : κ) (v : V) : List (κ × V) :=
  if (kvs.any fun kv => decide (kv.1 = k)) = true then kvs.map (fun kv => if kv.1 = k then (kv.1, v) else kv) else kvs ++ [(k, v)]

theorem valV_pos {p : κ × V} {r : List (κ × V)} {k : κ} (e : p.1 = k) : valV (p :: r) k = some p.2 := by simp [valV, List.find?_cons, e]
theorem valV_neg {p : κ × V} {r : List (κ × V)} {k : κ} (e : ¬ p.1 = k) : valV (p :: r) k = valV r k := by simp [valV, List.find?_cons, e]
theorem valV_any (k : κ) : ∀ kvs : List (κ × V), (kvs.any fun kv => decide (kv.1 = k)) = (valV kvs k).isSome
  | [] => rfl
  | p :: r => by
    rw [List.any_cons]
    by_cases e : p.1 = k
    · simp only [valV_pos e, decide_eq_true e, Bool.true_or, Option.isSome_some]
    · rw [valV_neg e, decide_eq_false e, Bool.false_or]; exact valV_any k r
theorem length_putK (kvs : List (κ × V)) (k : κ) (v : V) : (putK kvs k v).length ≤ kvs.length + 1 := by
  unfold putK
  split
  · rw [List.length_map]; omega
  · rw [List.length_append, List.length_cons, List.length_nil]; omega

theorem RelO.isSome_eq {o : Option V} {u : Option Value} (r : RelO o u) : o.isSome = u.isSome := by
  cases o with
  | none => cases u with
    | none => rfl
    | some _ => exact (show False from r).elim
  | some _ => cases u with
    | none => exact (show False from r).elim
    | some _ => rfl

/-- raw tables of the same keys -/
theorem KV.val {kvs : List (κ × V)} {vs : List (κ × Value)} (r : KV kvs vs) (k : κ) : RelO (valV kvs k) (valueAt vs k) := by
  unfold KV at r
  induction r with
  | nil => exact True.intro
  | @cons p q ps qs h t ih =>
    obtain ⟨h1, h2⟩ := h
    by_cases e : p.1 = k
    · have e' : q.1 = k := h1.symm.trans e
      have b : valueAt (q :: qs) k = some q.2 := by simp [valueAt, List.find?_cons, e']
      rw [valV_pos e, b]; exact h2
    · have e' : ¬ q.1 = k := fun z => e (h1.trans z)
      have b : valueAt (q :: qs) k = valueAt qs k := by simp [valueAt, List.find?_cons, e']
      rw [valV_neg e, b]; exact ih
theorem KV.any {kvs : List (κ × V)} {vs : List (κ × Value)} (r : KV kvs vs) (k : κ) : (kvs.any fun kv => decide (kv.1 = k)) = vs.any fun kv => decide (kv.1 = k) := by
  unfold KV at r
  induction r with
  | nil => rfl
  | cons h t ih => rw [List.any_cons, List.any_cons, ih, h.1]
theorem KV.repl {kvs : List (κ × V)} {vs : List (κ × Value)} (r : KV kvs vs) (k : κ) {y : V} {u : Value} (ry : RelV y u) :
    KV (kvs.map fun kv => if kv.1 = k then (kv.1, y) else kv) (vs.map fun kv => if kv.1 = k then (kv.1, u) else kv) := by
  unfold KV at r ⊢
  induction r with
  | nil => exact .nil
  | @cons p q ps qs h t ih =>
    rw [List.map_cons, List.map_cons]
    refine .cons ?_ ih
    obtain ⟨h1, h2⟩ := h
    by_cases e : p.1 = k
    · rw [if_pos e, if_pos (h1.symm.trans e)]; exact ⟨h1, ry⟩
    · rw [if_neg e, if_neg (fun z => e (h1.trans z))]; exact ⟨h1, h2⟩
theorem KV.put {kvs : List (κ × V)} {vs : List (κ × Value)} (r : KV kvs vs) (k : κ) {y : V} {u : Value} (ry : RelV y u) : KV (putK kvs k y) (stored vs k u) := by
  unfold putK stored
  rw [r.any k]
  by_cases e : (vs.any fun kv => decide (kv.1 = k)) = true
  · rw [if_pos e, if_pos e]; exact r.repl k ry
  · rw [if_neg e, if_neg e]; exact Paired.snoc r ⟨rfl, ry⟩
theorem KV.length {kvs : List (κ × V)} {vs : List (κ × Value)} (r : KV kvs vs) : kvs.length = vs.length := Paired.length r
end


/-! ### a tracked dict, its keys ints and texts or tuples of these -/
theorem kV_is {P : Program} {w : World} {k : Key} {u : Value} (r : RelV (kV k) u) : (mixKind P w).is k u = true := by
  cases k with
  | inl i => obtain ⟨t, e⟩ := (show ∃ t, u = Value.int i t from r); subst e; exact mixKind_int P w i t
  | inr x => obtain ⟨t, e⟩ := (show ∃ t, u = Value.str x t from r); subst e; exact mixKind_str P w x t
theorem items_are {P : Program} {w : World} : ∀ {ks : List Key} {us : List Value}, Vals (ks.map kV) us → ItemsAre (mixKind P w) ks us
  | [], _, r => by rw [List.map_nil] at r; cases r; exact .nil
  | k :: ks, _, r => by
    rw [List.map_cons] at r
    cases r with
    | cons h t => exact .cons (kV_is h) (items_are t)

/-- raw entries of a dict with tuple keys -/
abbrev KT (H : Hp) : List (List Key × V) → List (List Key × Addr × Value) → Prop := Paired fun p q => p.1 = q.1 ∧ H q.2.1 = some (.tup (p.1.map kV)) ∧ RelV p.2 q.2.2
theorem KT.val {H : Hp} {kvs : List (List Key × V)} {xs : List (List Key × Addr × Value)} (r : KT H kvs xs) (k : List Key) : RelO (valV kvs k) ((atKey xs k).map (·.2)) := by
  induction r with
  | nil => exact True.intro
  | @cons p q ps qs h t ih =>
    obtain ⟨h1, _, h2⟩ := h
    by_cases e : p.1 = k
    · have e' : q.1 = k := h1.symm.trans e
      have b : atKey (q :: qs) k = some q.2 := by simp [atKey, List.find?_cons, e']
      rw [valV_pos e, b]; exact h2
    · have e' : ¬ q.1 = k := fun z => e (h1.trans z)
      have b : atKey (q :: qs) k = atKey qs k := by simp [atKey, List.find?_cons, e']
      rw [valV_neg e, b]; exact ih
theorem KT.repl {H : Hp} {kvs : List (List Key × V)} {xs : List (List Key × Addr × Value)} (r : KT H kvs xs) (k : List Key) {y : V} {u : Value} (ry : RelV y u) :
    KT H (kvs.map fun kv => if kv.1 = k then (kv.1, y) else kv) (xs.map (putAt k u)) := by
  induction r with
  | nil => exact .nil
  | @cons p q ps qs h t ih =>
    rw [List.map_cons, List.map_cons]
    refine .cons ?_ ih
    obtain ⟨h1, h2, h3⟩ := h
    unfold putAt
    by_cases e : p.1 = k
    · rw [if_pos e, if_pos (h1.symm.trans e)]; exact ⟨h1, h2, ry⟩
    · rw [if_neg e, if_neg (fun z => e (h1.trans z))]; exact ⟨h1, h2, h3⟩
theorem KT.put {H : Hp} {kvs : List (List Key × V)} {xs : List (List Key × Addr × Value)} (r : KT H kvs xs) (k : List Key) {b : Addr} {y : V} {u : Value} (hb : H b = some (.tup (k.map kV))) (ry : RelV y u) :
    KT H (putK kvs k y) (storedH xs k b u) := by
  have e : (kvs.any fun kv => decide (kv.1 = k)) = (atKey xs k).isSome := by
    rw [valV_any, (r.val k).isSome_eq, Option.isSome_map]
  unfold putK storedH
  rw [e]
  by_cases q : (atKey xs k).isSome = true
  · rw [if_pos q, if_pos q]; exact r.repl k ry
  · rw [if_neg q, if_neg q]; exact Paired.snoc r ⟨rfl, hb, ry⟩
theorem KT.keeps {H H' : Hp} {kvs : List (List Key × V)} {xs : List (List Key × Addr × Value)} (r : KT H kvs xs) (ht : ∀ b ys, H b = some (.tup ys) → H' b = some (.tup ys)) : KT H' kvs xs :=
  Paired.mapP r fun _ _ z => ⟨z.1, ht _ _ z.2.1, z.2.2⟩

section
variable {P : Program} {w : World} {H : Hp} {h : Heap} {a : Addr}
theorem rd_of {u : HO} (ok : HOk P w H h) (e : Rd H a u) : ObjOk P w H h a u := e.ok ok
theorem dk_rd {kvs : List (Key × V)} (ok : HOk P w H h) (e : Rd H a (.dK kvs)) : kvs.length ≤ sizeLine ∧ (a == sysModules) = false ∧ ∃ vs, KV kvs vs ∧ h.DictOf (mixKind P w) a vs :=
  show ObjOk P w H h a (.dK kvs) from rd_of ok e
theorem dk_of {kvs : List (Key × V)} (ok : HOk P w H h) (e : H a = some (.dK kvs)) : kvs.length ≤ sizeLine ∧ (a == sysModules) = false ∧ ∃ vs, KV kvs vs ∧ h.DictOf (mixKind P w) a vs := dk_rd ok (.inl e)
/-- a tracked tuple of ints and texts is a key -/
theorem key_of {ks : List Key} (ok : HOk P w H h) (e : H a = some (.tup (ks.map kV))) : (tupleKind (mixKind P w)).is h ks a := by
  obtain ⟨_, its, r, o, h1, h2, n, h3⟩ := (show ObjOk P w H h a (.tup (ks.map kV)) from ok a _ e)
  exact ⟨o, its.toArray, n, h1, h2, h3, by simpa using items_are r⟩
theorem dt_rd {kvs : List (List Key × V)} (ok : HOk P w H h) (e : Rd H a (.dT kvs)) : kvs.length ≤ sizeLine ∧ (a == sysModules) = false ∧
    ∃ xs, KT H kvs xs ∧ h.DictOfH (tupleKind (mixKind P w)) a xs := by
  obtain ⟨z, y, xs, r, o, es, ep, h1, h2, h3, h4, h5⟩ := (show ObjOk P w H h a (.dT kvs) from rd_of ok e)
  refine ⟨z, y, xs, r, o, es, ep, h1, h2, h3, h4, fun x hx => ?_, h5⟩
  have all : ∀ {l : List (List Key × V)} {m : List (List Key × Addr × Value)}, KT H l m → ∀ x ∈ m, (tupleKind (mixKind P w)).is h x.1 x.2.1 := by
    intro l m q
    induction q with
    | nil => intro x hx; exact nomatch hx
    | @cons p q ps qs hq t ih =>
      intro x hx
      rcases List.mem_cons.mp hx with e | hx
      · subst e
        exact key_of ok (by rw [← hq.1]; exact hq.2.1)
      · exact ih x hx
  exact all r x hx
theorem dt_of {kvs : List (List Key × V)} (ok : HOk P w H h) (e : H a = some (.dT kvs)) : kvs.length ≤ sizeLine ∧ (a == sysModules) = false ∧
    ∃ xs, KT H kvs xs ∧ h.DictOfH (tupleKind (mixKind P w)) a xs := dt_rd ok (.inl e)
end

/-- what the dict at a holds at the key y -/
def DGet (H : Hp) (a : Addr) (y : V) (r : Option V) : Prop :=
  (∃ kvs k, Rd H a (.dK kvs) ∧ y = kV k ∧ r = valV kvs k) ∨ ∃ kvs k b, Rd H a (.dT kvs) ∧ y = .ref b ∧ H b = some (.tup (k.map kV)) ∧ r = valV kvs k
/-- the heap behind a[y] = v -/
def DPut (H : Hp) (a : Addr) (y v : V) (H' : Hp) : Prop :=
  (∃ kvs k, H a = some (.dK kvs) ∧ y = kV k ∧ kvs.length < sizeLine ∧ H' = upd H a (.dK (putK kvs k v))) ∨
  ∃ kvs k b, H a = some (.dT kvs) ∧ y = .ref b ∧ H b = some (.tup (k.map kV)) ∧ kvs.length < sizeLine ∧ H' = upd H a (.dT (putK kvs k v))
theorem DPut.k {H : Hp} {a : Addr} {kvs : List (Key × V)} {k : Key} {v : V} (e : H a = some (.dK kvs)) (hl : kvs.length < sizeLine) : DPut H a (kV k) v (upd H a (.dK (putK kvs k v))) := .inl ⟨kvs, k, e, rfl, hl, rfl⟩


section
variable {X : Cx} {pins : List (Addr × Obj)} {σ : St} {H : Hp} {s : Shared} {a : Addr} {y v : V} {u r : Value} {o : Option V} {A : Around} {E : Value → Shared → Prop}

theorem Inv.big (I : Inv X pins σ H s) : sysModules < s.heap.objs.size := by
  have h : mainGlobals < s.heap.objs.size := (I.mod.glob.keeps I.bk).lt
  exact Nat.lt_trans (by decide) h

/-- y in d -/
theorem d_in {Q : Value → Shared → Prop} (hu : A.units + 1 < cLine) (I : Inv X pins σ H s) (g : DGet H a y o) (ry : RelV y u) (h : ∀ s', Inv X pins σ H s' → Q (.bool o.isSome) s') :
    wpAny (model X.prog X.w) A (compareOp .In u (.ref a)) Q E s := by
  rcases g with ⟨kvs, k, e, ey, l⟩ | ⟨kvs, k, b, e, ey, eb, l⟩
  · subst ey
    obtain ⟨z, hd, vs, rel, dd⟩ := dk_rd I.hok e
    refine wpAny_in_of (kV_is ry) hd dd.mapOf ?_
    rw [← (rel.val k).isSome_eq, ← l]
    exact h _ (I.tok _)
  · subst ey
    cases (show u = Value.ref b from ry)
    obtain ⟨z, hd, xs, rel, dd⟩ := dt_rd I.hok e
    refine wpAny_in_heap (tupleKind_room_in1 hu) (key_of I.hok eb) hd dd ?_
    have q := (rel.val k).isSome_eq
    rw [Option.isSome_map] at q
    rw [← q, ← l]
    exact h _ (I.tok _)
/-- a dict's object is replaced -/
theorem d_write {h' : Heap} {t' : Nat} {ob : HO} (I : Inv X pins σ H s) (mu : Mut (H a)) (hs : Heap.SameBut a s.heap h') (he : ∃ q, h'.get? a = some q) (new : ObjOk X.prog X.w (upd H a ob) h' a ob) :
    Inv X pins σ (upd H a ob) { s with heap := h', toks := t' } :=
  I.write (x := a) (e := a) mu (.inl rfl) (fun b q hb z => (hs.2 b hb).trans z) he new
theorem dk_new {P : Program} {w : World} {H' : Hp} {h' : Heap} {kvs : List (Key × V)} {vs : List (Key × Value)} (z : kvs.length ≤ sizeLine) (hd : (a == sysModules) = false) (rel : KV kvs vs) (dd : h'.DictOf (mixKind P w) a vs) :
    ObjOk P w H' h' a (.dK kvs) := ⟨z, hd, vs, rel, dd⟩
/-- d[y] = v -/
theorem d_setItem {H' : Hp} {Q : Unit → Shared → Prop} (hu : A.units + 1 < cLine) (I : Inv X pins σ H s) (g : DPut H a y v H') (ry : RelV y u) (rv : RelV v r) (h : ∀ s', Inv X pins σ H' s' → Q () s') :
    wpAny (model X.prog X.w) A (setItem (.ref a) u r) Q E s := by
  rcases g with ⟨kvs, k, e, ey, l, eH⟩ | ⟨kvs, k, b, e, ey, eb, l, eH⟩
  · subst ey eH
    obtain ⟨z, hd, vs, rel, dd⟩ := dk_of I.hok e
    have hz : vs.length ≤ sizeLine := by rw [← rel.length]; exact z
    have hl : (putK kvs k v).length ≤ sizeLine := by have := length_putK kvs k v; omega
    refine wpAny_setItem_pairs (hsz := hz) (kV_is ry) dd fun h' dd' hs => h _ ?_
    have he : ∃ q, h'.get? a = some q := let ⟨q, _, _, hq, _⟩ := dd'; ⟨q, hq⟩
    exact d_write I (by rw [e]; exact True.intro) hs he (dk_new hl hd (rel.put k rv) dd')
  · subst ey eH
    cases (show u = Value.ref b from ry)
    obtain ⟨z, hd, xs, rel, dd⟩ := dt_of I.hok e
    have hz : xs.length ≤ sizeLine := by rw [← Paired.length rel]; exact z
    have hl : (putK kvs k v).length ≤ sizeLine := by have := length_putK kvs k v; omega
    refine wpAny_setItem_heap (hsz := hz) (tupleKind_room_in1 hu) (key_of I.hok eb) dd fun h' dd' hs => h _ ?_
    obtain ⟨q, es, ep, hq, h2, h3, h4, _, h5⟩ := dd'
    refine d_write I (by rw [e]; exact True.intro) hs ⟨q, hq⟩ ⟨hl, hd, _, (rel.put k eb rv).keeps fun c ys ec => ?_, q, es, ep, hq, h2, h3, h4, h5⟩
    rw [upd_ne (ne_of ec e (fun z => nomatch z))]
    exact ec
end

section
variable {X : Cx} {pins : List (Addr × Obj)} {σ : St} {H : Hp} {s : Shared} {a : Addr} {kvs : List (Key × V)} {k : Key} {u : Value} {A : Around} {E : Value → Shared → Prop}
end


/-! ### readings and rules -/


/-- d[y] = v -/
def sDPut (td ty tv : TE) : TS := fun D σ H => tv σ H fun v H1 => td σ H1 fun x H2 => ty σ H2 fun y H3 => ∃ a H4, x = .ref a ∧ DPut H3 a y v H4 ∧ D.nx σ H4

section
variable {X : Cx} {o i e value : Expr} {pos pos' tpos : Pos} {td ty tv : TE}
theorem ps_dput (hu : X.A.units + 1 < cLine) (ho : PE X o td) (hi : PE X i ty) (hv : PE X value tv) (hs : swapsWith value (some (.Subscript o i pos')) pos.line X.env = pure false) :
    PS X (.Assign [.Subscript o i pos'] value pos) (sDPut td ty tv) := by
  intro pins s σ H D I h
  refine wpAny_Assign_Subscript (thn (hv pins s σ H _ I h) fun r s1 ⟨v, H1, I1, rv, q1⟩ => thn (ho pins s1 σ H1 _ I1 q1) fun u s2 ⟨x, H2, I2, rx, q2⟩ => thn (hi pins s2 σ H2 _ I2 q2) fun iv s3 ⟨y, H3, I3, ry, a, H4, ex, g, q3⟩ => ?_) hs
  subst ex
  obtain rfl : u = Value.ref a := rx
  exact d_setItem hu I3 g ry rv fun s4 I4 => ⟨σ, H4, I4, q3⟩
end


/-! ### displays -/
theorem dk_empty {P : Program} {w : World} {H : Hp} (h : Heap) (hb : sysModules < h.objs.size) : ObjOk P w H (h.push { cls := .type "dict", data := .dict #[] }) h.objs.size (.dK []) :=
  ⟨Nat.zero_le _, beq_eq_false_iff_ne.mpr (Ne.symm (Nat.ne_of_lt hb)), [], .nil, Heap.DictOf.new h⟩
/-- {}, to be a dict of the kind that is wanted -/
def tDNewK : TE := fun _ H Q => ∀ p, H p = none → Q (.ref p) (upd H p (.dK []))
section
variable {X : Cx} {pos : Pos}
theorem pe_dnewK : PE X (.Dict [] [] pos) tDNewK := fun pins s σ H Q I h =>
  wpAny_Dict_empty ⟨.ref s.heap.objs.size, _, I.laid (a := s.heap.objs.size) (o := .dK []) (t' := s.toks) (fun _ _ q => Heap.get?_push_of_some _ q) (Nat.le_refl _) (dk_empty s.heap I.big), rfl, h _ (I.hok.fresh (Nat.le_refl _))⟩
end




/-! ### methods -/
/-- a method call o.m(e) of a built-in, with one argument: what must be seen of the text -/
structure M1 (X : Cx) (o : Expr) (m : Str) (apos : Pos) (e : Expr) (cpos : Pos) : Prop where
  base : attributeBase o m X.env (eval o X.env) = eval o X.env
  few : ((backTo cpos (starEach [e] X.env)).all (fun x => !x.1) && (backToKw cpos (keywordEach [] X.env)).all (fun x => x.1.isSome)
    && decide (([e] : List Expr).length + ([] : List Keyword).length + (if ([] : List Keyword).isEmpty then 0 else 1) < 30)) = true
  line : (apos.endLine == cpos.line) = true
  trees : backTo cpos (starEach [e] X.env) = [(false, eval e X.env)]
structure M2 (X : Cx) (o : Expr) (m : Str) (apos : Pos) (e f : Expr) (cpos : Pos) : Prop where
  base : attributeBase o m X.env (eval o X.env) = eval o X.env
  few : ((backTo cpos (starEach [e, f] X.env)).all (fun x => !x.1) && (backToKw cpos (keywordEach [] X.env)).all (fun x => x.1.isSome)
    && decide (([e, f] : List Expr).length + ([] : List Keyword).length + (if ([] : List Keyword).isEmpty then 0 else 1) < 30)) = true
  line : (apos.endLine == cpos.line) = true
  trees : backTo cpos (starEach [e, f] X.env) = [(false, eval e X.env), (false, eval f X.env)]


section
variable {X : Cx} {pins : List (Addr × Obj)} {σ : St} {H : Hp} {s : Shared} {a : Addr} {y d : V} {u r : Value} {o : Option V} {A : Around} {E : Value → Shared → Prop}
end

section
variable {X : Cx} {o e f : Expr} {apos cpos : Pos} {td ty tx : TE}
end

/-! ### dict(d): a copy -/
section
variable {X : Cx} {pins : List (Addr × Obj)} {σ : St} {H : Hp} {s : Shared} {a : Addr} {kvs : List (Key × V)} {A : Around} {E : Value → Shared → Prop}
end


section
variable {X : Cx} {pins : List (Addr × Obj)} {σ : St} {H : Hp} {s : Shared} {a : Addr} {y : V} {u : Value} {A : Around} {E : Value → Shared → Prop}
end
end L2

namespace Att
open PySem PySem.W PySem.Calls PyProof.Rows

/-! ### the script -/
theorem ints_of_wellAll {P : Params} {h : Heap} : ∀ (ns : List Int) (vs : List Value), WellAll P h vs (ns.map WData.int) → IntsAre vs ns := by
  intro ns
  induction ns with
  | nil =>
    intro vs w
    rw [List.map_nil] at w
    cases w
    exact .nil
  | cons n ns ih =>
    intro vs w
    rw [List.map_cons] at w
    cases w with
    | cons a b =>
      cases a
      exact .cons _ _ (ih _ b)

theorem script_of {l : OpenLaw} {n : Nat} (hn : l.most = some n) {P : Params} {h : Heap} {args : List WData} {vals : List Value}
    (hpre : l.row.toRowW.claim.pre args = true) (hwl : WellAll P h vals args) :
    ∃ a vs ns, vals = [Value.ref a] ∧ args = [WData.list (ns.map WData.int)] ∧ h.get? a = some { cls := .type "list", data := .seq vs.toArray } ∧ IntsAre vs ns ∧ ns.length ≤ n := by
  have hsh : WShape.hasAll [] args [.list .int] = true := (pre_splitW hpre).1
  have hc : l.pre.holds [] { args := args } = true := (pre_splitW hpre).2
  obtain ⟨d, r, rfl, h1, h2⟩ := hasAllW_cons hsh
  obtain rfl := hasAllW_nil h2
  obtain ⟨xs, rfl, h3⟩ := hasW_list h1
  obtain ⟨ns, rfl⟩ := items_int h3
  have hlen : ns.length ≤ n := by
    unfold OpenLaw.pre at hc
    have h4 : (WTm.not (.lt (.lit (.int (n : Int))) (.len (.arg 0)))).holds [] { args := [.list (ns.map .int)] } = true := by
      have h4 := (holds_andW hc).1
      rw [hn] at h4
      exact h4
    have h5 := condW_of h4 (w_not (w_lt w_lit (w_len_list (w_arg rfl))))
    rw [List.length_map] at h5
    refine Nat.le_of_not_lt fun q => ?_
    have q' : (n : Int) < ((ns.length : Nat) : Int) := by omega
    first
      | (rw [decide_eq_true q'] at h5; exact absurd h5 (by decide))
      | (simp at h5; omega)
  cases hwl with
  | cons w1 w2 =>
    cases w2
    cases w1 with
    | list ho hall => exact ⟨_, _, ns, rfl, rfl, ho, ints_of_wellAll ns _ hall, hlen⟩

theorem post_true (l : OpenLaw) (args : List WData) : l.row.toRowW.claim.post args (.bool true) args = true :=
  postW_of (r := l.row.toRowW) (X := (true == true))
    (show WShape.has [] (.bool true) .bool = true by first | rfl | decide | simp [WShape.has, WShape.arms, WShape.armsAll])
    (show (WTm.eq .res (.lit (.bool true))).value [] { args := args, res := some (.bool true), after := args } = some (.bool (true == true)) from w_eq_bool (w_res rfl) w_lit) rfl

/-! ### the attachment: holds_open's last premise (the goal 'hc' behind k_head) from a wpAny of the law's body -/

/-- the same from a codeAny of the CALL (for a layer whose function contracts speak of calls) -/
theorem attach_call {l : OpenLaw} {n : Nat} {q : Program} {loose : List Str} {XP : (Str → Option Value) → Heap → Prop} {YP : World → Heap → Prop} {d : DefRec}
    (hn : l.most = some n) (hdf : d.params.defaults = [])
    (call : ∀ (w : World) (s₀ s₁ : Shared) (mg mb : Str → Option Value) (fa : Addr) (o : Obj) (pm cd doc : Value) (a : Addr) (vs : List Value) (ns : List Int),
      Ground q loose [] XP w s₀ mg mb s₁.heap → YP w s₁.heap →
      s₁.heap.get? fa = some o → o.data = .func (docDef d.name d.params d.body d.scope pm cd doc) → s₁.heap.CodeRec cd d.name → mg d.name = some (.ref fa) →
      s₁.heap.get? a = some { cls := .type "list", data := .seq vs.toArray } → IntsAre vs ns → ns.length ≤ n → s₁.gens = #[] →
      codeAny (model l.prog w) callerA (.call (.ref fa) ⟨[.ref a], []⟩) (fun r s' => r = .ok (.ret (.bool true)) ∧ OldK s₁.heap s'.heap ∧ s'.os = s₁.os ∧ AllBare s'.gens) s₁) :
    WalkO q loose XP YP l.row.toRowW d [] (fun f vs => PySem.call f vs) := by
  intro w s₀ s₁ mg mb G Y fa o pm cd doc dV kV ho hd hcd hD hmg hg args vals as hpre hlay hrd hwl hlo
  obtain rfl : dV = .none := Dflts.none hD hdf
  obtain rfl : kV = .none := Dflts.noKw hD
  obtain ⟨a, vs, ns, rfl, rfl, hobj, hints, hlen⟩ := script_of hn hpre hwl
  refine enter_call (codeAny_mono (call w s₀ s₁ mg mb fa o pm cd doc a vs ns G Y ho (fd_plain hd) hcd hmg hobj hints hlen hg) fun r s' hq => ?_)
  obtain ⟨rfl, h2, h3, h4⟩ := hq
  exact ⟨.inl ⟨.bool true, .bool true, [], rfl, fun _ => rfl, .bool true, post_true l _, fun _ => ⟨List.Pairwise.nil, fun _ hm => (nomatch hm)⟩⟩, h2, h3, h4⟩


/-! ### rules over ANY heap (no ledger) from facts about the written part K: the library's own take a ledger (News) for what they write -/
section
variable {prog : Program} {w : World} {A : Around} {E : Value → Shared → Prop} {s : Shared} {K : Frag}





/-! the whole heap as the ledger: makes every rule that writes through a ledger a rule over any heap -/

end
end Att

namespace L2
open PySem PySem.Spec PyProof.Rows

theorem vals_ints : ∀ {vs : List Value} {ns : List Int}, IntsAre vs ns → Vals (ns.map V.int) vs
  | _, _, .nil => .nil
  | _, _, .cons n t h => .cons ⟨t, rfl⟩ (vals_ints h)

/-- nothing is tracked but the script, known to the object (or it is an object of the module) -/
def Only (H : Hp) : Prop := ∀ b, H b = none ∨ ∃ o xs, H b = some (.frz o (.lst xs))

/-- THE HEAD: the law's promise, at the heap behind the top. F, the promise of the law's def, may use that base is part of the heap (so K.In base, base.Ns mainGlobals mg stand in Mod) -/
theorem law_call {P : Program} {w : World} {K : PySem.W.Frag} {mg mb : Str → Option Value} {CX : CXT} {k : Nat} {fa a : Addr} {fd : FuncData} {x : Str} {sp : Sp} {s₁ : Shared} {vs : List Value} {ns : List Int}
    (KX : K.In s₁.heap) (hns : s₁.heap.Ns mainGlobals mg) (hb : s₁.heap.Ns builtinsNs mb) (hbb : ∀ x : Str, x ≠ "__name__" → mb x = bootBuiltins x) (hlim : s₁.heap.NoLimit) (hg : s₁.gens = #[])
    (ha : s₁.heap.get? a = some { cls := .type "list", data := .seq vs.toArray }) (hi : IntsAre vs ns) (hl : ns.length ≤ sizeLine) (hr : Room k callerA)
    (F : ∀ base : Heap, K.In base → base.Ns mainGlobals mg → FnOk P w K mg base CX k fa fd [x] sp) (hbind : ∀ (s : Shared) (u : Value), BindsTo s fd ⟨[u], []⟩ [(x, u)])
    (hsp : ∀ H : Hp, Only H → SqL K H a (ns.map V.int) → sp [.ref a] H (fun v _ => v = .bl true) fun _ _ _ => False)
    (hCX : ∀ H e s', CX [] H s₁ (fun _ _ _ => False) e s' → False) :
    codeAny (model P w) callerA (.call (.ref fa) ⟨[.ref a], []⟩) (fun r s' => r = .ok (.ret (.bool true)) ∧ OldK s₁.heap s'.heap ∧ s'.os = s₁.os ∧ AllBare s'.gens) s₁ := by
  have rv := vals_ints hi
  have lenV := hi.length
  -- from an abstract heap in which nothing but the script may be tracked
  have core : ∀ H : Hp, Only H → SqL K H a (ns.map V.int) → HOk P w H s₁.heap → (∀ b, H b ≠ none → b = a) → (H a ≠ none → K.lookup a = none) →
      codeAny (model P w) callerA (.call (.ref fa) ⟨[.ref a], []⟩) (fun r s' => r = .ok (.ret (.bool true)) ∧ OldK s₁.heap s'.heap ∧ s'.os = s₁.os ∧ AllBare s'.gens) s₁ := by
    intro H hO hS hok hA hK
    have base_of : ∀ {b : Addr} {o : Obj}, s₁.heap.get? b = some o → H b = none → (hidT s₁.heap H).get? b = some o := fun e n => hidT_get e n
    have noA : ∀ {b : Addr} {o : Obj} {es : Array DictEntry} {ep : Nat}, s₁.heap.get? b = some o → o.data = .dict es ep → H b = none := fun {b o es ep} e d => by
      cases q : H b with
      | none => rfl
      | some u =>
        have e' : b = a := hA b (by rw [q]; simp)
        subst e'
        rw [ha] at e; cases e
        have d' : Data.seq vs.toArray _ = Data.dict es ep := d
        cases d'
    have nsK : ∀ {b : Addr} {m : Str → Option Value}, s₁.heap.Ns b m → (hidT s₁.heap H).Ns b m := fun {b m} ⟨o, es, ep, e, d, r⟩ => ⟨o, es, ep, base_of e (noA e d), d, r⟩
    have hKb : K.In (hidT s₁.heap H) := fun b o e => base_of (KX b o e) (by
      cases q : H b with
      | none => rfl
      | some u =>
        have e' : b = a := hA b (by rw [q]; simp)
        subst e'
        rw [hK (by rw [q]; simp)] at e; cases e)
    have hM : Mod K mg (hidT s₁.heap H) := ⟨hKb, nsK hns, ⟨mb, nsK hb, hbb⟩, let ⟨mc, h1, h2⟩ := hlim; ⟨mc, nsK h1, h2⟩⟩
    have e0 : Env0 P w K mg (hidT s₁.heap H) callerA [] s₁ H := ⟨rfl, hM, fun b o e => of_hidT e, Nat.le_of_eq (hidT_size _ _), trivial, fun b hb => absurd (show b ∈ ([] : List Addr) from hb) (by simp), hok, .of_eq hg⟩
    refine codeAny_mono ((F _ hKb (nsK hns)).run callerA [] s₁ H ⟨[.ref a], []⟩ [.ref a] [.ref a] _ _ hr e0 (hbind s₁ (.ref a)) (.cons rfl .nil) (hsp H hO hS)) fun r s' h => ?_
    cases r with
    | error e => exact (hCX H e s' h).elim
    | ok fl =>
      cases fl with
      | next => exact False.elim h
      | brk => exact False.elim h
      | cont => exact False.elim h
      | ret u =>
        obtain ⟨v, H', os, bare, un, hok', r', q⟩ := h
        have q' : v = .bl true := q
        subst q'
        obtain rfl : u = Value.bool true := r'
        refine ⟨rfl, OldK.of_keep fun b o e => ?_, os, bare⟩
        cases q : H b with
        | none => exact un.keep b o e q (by intro z; exact absurd (show b ∈ ([] : List Addr) from z) (by simp)) (by simp)
        | some u =>
          rcases hO b with z | ⟨ob, xs, z⟩
          · rw [q] at z; cases z
          · have z2 := un.frzs b ob _ z
            obtain ⟨e1, _⟩ := hok b _ z
            obtain ⟨e2, _⟩ := hok' b _ z2
            rw [e] at e1; cases e1
            exact e2
  cases hk : K.lookup a with
  | some o =>
    -- the script is one of the module's own objects
    have e := KX a o hk
    rw [ha] at e
    cases e
    refine core (fun _ => none) (fun _ => .inl rfl) (.inr ⟨_, vs.toArray, _, hk, rfl, rfl, rfl, by rw [List.size_toArray, lenV]; exact hl, by simpa using rv⟩) (fun b u z => by have z' : (none : Option HO) = some u := z; cases z') (fun b z => absurd rfl z) fun z => absurd rfl z
  | none =>
    refine core (fun b => if b = a then some (.frz { cls := .type "list", data := .seq vs.toArray } (.lst (ns.map V.int))) else none) (fun b => ?_) (.inl (.inr ⟨{ cls := .type "list", data := .seq vs.toArray }, if_pos rfl⟩)) (fun b u z => ?_) (fun b z => ?_) fun _ => hk
    · by_cases hb : b = a
      · exact .inr ⟨_, _, if_pos hb⟩
      · exact .inl (if_neg hb)
    · by_cases hb : b = a
      · have z' := (if_pos hb).symm.trans z
        cases z'
        subst hb
        exact ⟨ha, by rw [List.length_map]; exact hl, vs, _, rv, ha⟩
      · have z' := (if_neg hb).symm.trans z
        cases z'
    · by_cases hb : b = a
      · exact hb
      · exact absurd (if_neg hb) z
end L2

namespace L2
open PySem PySem.Spec PyProof.Rows


/-- the goal that k_head leaves (case hc), from the law's promise. F gives the function object fd (K's own) once, then the promise over every base -/
theorem walk_of {l : PySem.W.OpenLaw} {n k : Nat} {q : Program} {loose : List Str} {XP : (Str → Option Value) → Heap → Prop} {YP : World → Heap → Prop} {d : DefRec} {K : Params → PySem.W.Frag} {CX : World → CXT} {sp : World → Sp} {x : Str}
    (hn : l.most = some n) (hn2 : n ≤ sizeLine) (hdf : d.params.defaults = []) (hr : Room k callerA)
    (hY : ∀ (w : World) (h : Heap), YP w h → (K w.params).In h)
    (F : ∀ (w : World) (mg : Str → Option Value) (fa : Addr) (h : Heap), (K w.params).In h → h.Ns mainGlobals mg → mg d.name = some (.ref fa) →
      ∃ fd : FuncData, (∀ (s : Shared) (u : Value), BindsTo s fd ⟨[u], []⟩ [(x, u)]) ∧
        ∀ base : Heap, (K w.params).In base → base.Ns mainGlobals mg → FnOk l.prog w (K w.params) mg base (CX w) k fa fd [x] (sp w))
    (hsp : ∀ (w : World) (H : Hp) (a : Addr) (ns : List Int), ns.length ≤ n → Only H → SqL (K w.params) H a (ns.map V.int) → sp w [.ref a] H (fun v _ => v = .bl true) fun _ _ _ => False)
    (hCX : ∀ (w : World) (H : Hp) (s : Shared) (e : Value) (s' : Shared), CX w [] H s (fun _ _ _ => False) e s' → False) :
    PySem.W.WalkO q loose XP YP l.row.toRowW d [] (fun f vs => PySem.call f vs) := by
  refine Att.attach_call hn hdf fun w s₀ s₁ mg mb fa o pm cd doc a vs ns G Y ho hd hcd hmg hobj hints hlen hg => ?_
  have KX := hY w _ Y
  obtain ⟨fd, hb, hF⟩ := F w mg fa _ KX G.T.g hmg
  exact law_call KX G.T.g G.T.b G.T.builtins G.T.nolimit hg hobj hints (Nat.le_trans hlen hn2) hr hF hb (fun H hO hS => hsp w H a ns hlen hO hS) fun H e s' => hCX w H s₁ e s'
end L2

/- THE LAST THEOREM (shape; LID, My.* are yours):
   My.Adr: a structure of the addresses that your layer names (classes, functions); My.Txt K t: a structure (Prop) of the equations over K;
   My.txt_mk : {K} {implicit addresses ..} (e1 : nsIn K mainGlobals "law" = some (some (.ref f))) (e2 : K.lookup f = some ⟨oc, od, .func (fnOf "law" "law" params body scope dV kV doc pm an cdv ct), sl⟩) (e3 : codeIn K cdv "law" = true) .. : ∃ t, My.Txt K t

set_option maxRecDepth 100000 in
set_option maxHeartbeats 0 in
theorem PySem.Challenge.cw_LID_holds : PySem.Challenge.rw_LID.Holds := by
  w_on; o_law; k_head; (case hw => w_witness2)
  k_fill
  refine L2.walk_of (l := PySem.Challenge.rw_LID) (n := 63) (k := 40) (x := "script") (CX := fun w => ..) (sp := fun _ => My.sp_law) rfl (by decide) rfl ⟨rfl, by decide, by decide⟩ (fun w h Y => PySem.W.kIn_of Y) ?F ?S ?C
  case F =>
    intro w mg fa h KX G hmg
    have T : ∃ t, My.Txt (L2.KOf KX) t := by
      dsimp only [L2.KOf]                          -- K must stand as «<heap const> w.params» for k_is
      refine' My.txt_mk ?e1 ?e2 ?e3 ..
      (case e1 => PySem.W.k_is)                    -- in the order: a name -> its address -> its object -> its parts
      (case e2 => PySem.W.k_is)
      ..
    obtain ⟨t, T⟩ := T
    have e0 := hmg.symm.trans (PySem.W.mg_of KX G T.law)
    cases e0                                       -- fa is the law's own address
    exact ⟨_, fun s u => .of_eq rfl, fun base kb nb => My.law_fn T kb nb⟩     -- if «.of_eq rfl» comes too early: refine' ⟨_, ?b, fun base kb nb => My.law_fn T kb nb⟩; exact fun s u => .of_eq rfl
  case S => exact fun w H a ns hl hO hS => ..
  case C => exact ..
(the tactic k_is has no namespace: write k_is) -/

/-! SHORT WORDS over the layer: a def of the text, its body, what a loop and a test want. -/
namespace L2
open PySem PySem.Spec PyProof.Rows

/-! ### the text by places -/
def defArgs (s : Stmt) : Arguments := match s with
  | .FunctionDef _ a _ _ _ _ _ _ _ _ => a
  | _ => { posonlyargs := [], args := [], vararg := none, kwonlyargs := [], kw_defaults := [], kwarg := none, defaults := [] }
def defBody (s : Stmt) : List Stmt := match s with
  | .FunctionDef _ _ b _ _ _ _ _ _ _ => b
  | _ => []
def defScope (s : Stmt) : Scope := match s with
  | .FunctionDef _ _ _ _ _ _ sc _ _ _ => sc
  | _ => { kind := .function, names := [], isGenerator := false, isCoroutine := false }

/-! ### no exception leaves a def -/
abbrev CX0 : CXT := fun _ _ _ _ _ _ => False
abbrev E0 : XK := fun _ _ _ => False
theorem pass0 {X : Cx} : Passes CX0 X E0 := fun _ _ _ _ _ _ _ h => h.elim

/-! ### a def (or method) of the text as it stands behind the top -/
structure Fun (K : PySem.W.Frag) (x qual : Str) (st : Stmt) (f : Addr) (fd : FuncData) : Prop where
  ex : ∃ (oc : Value) (od : Option Addr) (kV doc pm : Value) (an : Option Addr) (cdv ct : Value) (osl : Array (Option Value)),
    fd = PySem.W.fnOf x qual (defArgs st) (defBody st) (defScope st) .none kV doc pm an cdv ct ∧ K.lookup f = some ⟨oc, od, .func fd, osl⟩ ∧ PySem.W.codeIn K cdv qual = true
  kp : PySem.W.keepIn K (.ref f) = true
section
variable {P : Program} {w : World} {K : PySem.W.Frag} {mg : Str → Option Value} {base : Heap}
/-- THE RULE for a def: its body as a term of rules, and the reading of that term -/
theorem Fun.ok {x qual : Str} {st : Stmt} {f : Addr} {fd : FuncData} {N ps : List Str} {k : Nat} {sp : Sp} (F : Fun K x qual st f fd) (S : FnScope N ps (defScope st)) (len : ∀ vs H Q E, sp vs H Q E → vs.length = ps.length)
    (hbody : ∀ (cdv : Value) (A : Around) (outer : List Env) (s : Shared) (H : Hp) (vs : List V) (Q : VK) (E : XK), Room k (A.deeper (envOfC qual (defScope st) s.heap.objs.size f cdv)) → sp vs H Q E →
      ∃ t, PSs (cxOf CX0 P w K mg base N qual (defScope st) f cdv A outer s H E).nox (defBody st) t ∧ t { nx := fun _ H' => Q .non H', rt := Q } (start N vs) H) : FnOk P w K mg base CX0 (k + 1) f fd ps sp := by
  obtain ⟨oc, od, kV, doc, pm, an, cdv, ct, osl, rfl, lk, hcd⟩ := F.ex
  refine fn_of lk hcd S len fun A outer s H vs Q E hr hsp => ?_
  obtain ⟨t, h, q⟩ := hbody cdv A outer s H vs Q E hr hsp
  exact ⟨t, h.nox, q⟩
/-- how its arguments bind (no defaults): h is «fun _ _ _ _ _ _ us hl => match us, hl with | [_, _], _ => rfl», one _ a parameter -/
theorem Fun.binds {x qual : Str} {st : Stmt} {f : Addr} {fd : FuncData} {ps : List Str} (F : Fun K x qual st f fd)
    (h : ∀ (kV doc pm : Value) (an : Option Addr) (cdv ct : Value) (us : List Value), us.length = ps.length → bindArgs (PySem.W.fnOf x qual (defArgs st) (defBody st) (defScope st) .none kV doc pm an cdv ct) ⟨us, []⟩ = pure (ps.zip us)) : Binds K fd ps [] := by
  obtain ⟨oc, od, kV, doc, pm, an, cdv, ct, osl, rfl, lk, hcd⟩ := F.ex
  exact .all (h kV doc pm an cdv ct)
theorem fun_mk {x qual : Str} {st : Stmt} {f : Addr} {oc : Value} {od an : Option Addr} {osl : Array (Option Value)} {kV doc pm cdv ct : Value} (l : K.lookup f = some ⟨oc, od, .func (PySem.W.fnOf x qual (defArgs st) (defBody st) (defScope st) .none kV doc pm an cdv ct), osl⟩)
    (c : PySem.W.codeIn K cdv qual = true) (k : PySem.W.keepIn K (.ref f) = true) : Fun K x qual st f (PySem.W.fnOf x qual (defArgs st) (defBody st) (defScope st) .none kV doc pm an cdv ct) := ⟨⟨oc, od, kV, doc, pm, an, cdv, ct, osl, rfl, l, c⟩, k⟩
end
theorem hu_of {A : Around} {k : Nat} (hr : Room k A) : A.units + 1 < cLine := Nat.lt_of_le_of_lt (Nat.add_le_add_left (by decide : 1 ≤ 64) _) hr.units
theorem small1000 {n : Nat} (h : n ≤ 1000) : n < sizeLine := Nat.lt_of_le_of_lt h (by decide)

/-! ### expressions in short: the name that stands in the i-th slot -/
section
variable {X : Cx}
theorem pv (i : Nat) {x : Str} {pos : Pos} (hN : X.N[i]? = some x := by rfl) (hv : Vis X.env.scope x := by first | exact Or.inl rfl | exact Or.inr (Or.inl rfl) | exact Or.inr (Or.inr rfl)) (hd : (x == ("__debug__" : Str)) = false := by decide)
    (hcd : (x == ("__classdict__" : Str)) = false := by decide) : PE X (.Name x pos) (tVar i) := pe_var hN hv hd hcd
end

/-! ### tests -/
theorem iteF {A B : Prop} (h : B) : if false = true then A else B := by
  rw [if_neg Bool.false_ne_true]
  exact h
theorem iteT {A B : Prop} (h : A) : if true = true then A else B := by
  rw [if_pos rfl]
  exact h
theorem ite2 {c A B : Prop} [Decidable c] (h1 : c → A) (h2 : ¬ c → B) : if c then A else B := by
  by_cases h : c
  · rw [if_pos h]
    exact h1 h
  · rw [if_neg h]
    exact h2 h

/-! ### heaps -/
/-- all that was tracked is as it was -/
def Same (H H' : Hp) : Prop := ∀ b o, H b = some o → H' b = some o
theorem Same.refl (H : Hp) : Same H H := fun _ _ h => h
theorem Same.trans {H H1 H2 : Hp} (a : Same H H1) (b : Same H1 H2) : Same H H2 := fun c o h => b c o (a c o h)
theorem Same.seq {K : PySem.W.Frag} {H H' : Hp} {a : Addr} {xs : List V} (e : Same H H') (h : SqL K H a xs) : SqL K H' a xs := by
  rcases h with (h | ⟨o, h⟩) | h
  · exact .inl (.inl (e _ _ h))
  · exact .inl (.inr ⟨o, e _ _ h⟩)
  · exact .inr h

/-! ### a dict's pairs: keys that differ -/
section
variable {κ : Type} [DecidableEq κ]
theorem valV_not {kvs : List (κ × V)} {k : κ} (h : valV kvs k = none) : ¬ k ∈ kvs.map (·.1) := by
  intro m
  obtain ⟨p, hp, e⟩ := List.mem_map.mp m
  have q : (kvs.any fun kv => decide (kv.1 = k)) = true := List.any_eq_true.mpr ⟨p, hp, decide_eq_true e⟩
  rw [valV_any, h] at q
  exact absurd q (by simp)
theorem valV_in {kvs : List (κ × V)} {k : κ} {v : V} (h : valV kvs k = some v) : k ∈ kvs.map (·.1) := by
  have q : (kvs.any fun kv => decide (kv.1 = k)) = true := by
    rw [valV_any, h]
    all_goals rfl
  obtain ⟨p, hp, e⟩ := List.any_eq_true.mp q
  exact List.mem_map.mpr ⟨p, hp, of_decide_eq_true e⟩
end
end L2

set_option Elab.async false
set_option linter.all false
set_option maxRecDepth 100000
set_option maxHeartbeats 4000000
/-! list comprehensions over the hand layer: one clause, at most one test, no exception leaves -/
namespace L2
open PySem PySem.Spec PyProof.Rows

theorem forIn_yield_fold {α β : Type} {f : α → β → Sem (ForInStep β)} (g : β → α → β) : ∀ (l : List α) (c : β), (∀ x ∈ l, ∀ c, f x c = pure (.yield (g c x))) → forIn l c f = pure (l.foldl g c)
  | [], c, _ => rfl
  | x :: l, c, h => by
    rw [List.forIn_cons, h x List.mem_cons_self, pure_bind]
    exact forIn_yield_fold g l (g c x) fun y hy => h y (List.mem_cons_of_mem _ hy)

/-- the cells that a block closes over -/
def closF (cells : List (Str × Addr)) (c : List (Str × Addr)) (x : Str × NameKind) : List (Str × Addr) :=
  if x.2 == .free then (match cells.lookup x.1 with | some a => (x.1, a) :: c | none => c) else c
def closOf (env : Env) (sc : Scope) : List (Str × Addr) := sc.names.foldl (closF env.cells) []
theorem closureFor_is {scope : Scope} {env : Env} (h : ∀ x ∈ scope.names, x.2 = .free → ∃ c, env.cells.lookup x.1 = some c) : closureFor scope env = pure (closOf env scope) := by
  simp only [closureFor]
  rw [forIn_yield_fold (closF env.cells) scope.names [] (fun x hx c => ?_)]
  · rfl
  · obtain ⟨n, k⟩ := x
    unfold closF
    cases hk : (k == NameKind.free) with
    | true =>
      have e : k = .free := by simpa using hk
      obtain ⟨a, ha⟩ := h (n, k) hx e
      have ha' : env.cells.lookup n = some a := ha
      simp only [hk, if_true, cellOf, ha', pure_bind]
    | false => simp only [hk, Bool.false_eq_true, if_false]
theorem lookup_pair {β : Type} (x n : Str) (a : β) (l : List (Str × β)) : List.lookup x ((n, a) :: l) = if x = n then some a else List.lookup x l := by
  by_cases h : x = n
  · have hb : (x == n) = true := beq_iff_eq.mpr h
    simp only [List.lookup_cons, hb, if_pos h]
  · have hb : (x == n) = false := beq_eq_false_iff_ne.mpr h
    simp only [List.lookup_cons, hb, if_neg h]
theorem clos_sub {cells : List (Str × Addr)} : ∀ (names : List (Str × NameKind)) (acc : List (Str × Addr)), (∀ x c, acc.lookup x = some c → cells.lookup x = some c) →
    ∀ x c, (names.foldl (closF cells) acc).lookup x = some c → cells.lookup x = some c
  | [], acc, h => h
  | (n, k) :: r, acc, h => clos_sub r _ fun x c e => by
    unfold closF at e
    by_cases hk : ((n, k).2 == NameKind.free) = true
    · rw [if_pos hk] at e
      dsimp only at e
      cases q : cells.lookup n with
      | none => rw [q] at e; exact h x c e
      | some a =>
        rw [q] at e
        dsimp only at e
        rw [lookup_pair] at e
        by_cases hx : x = n
        · rw [if_pos hx] at e; rw [hx, q]; exact e
        · rw [if_neg hx] at e; exact h x c e
    · rw [if_neg hk] at e; exact h x c e
theorem clos_mono {cells : List (Str × Addr)} : ∀ (names : List (Str × NameKind)) (acc : List (Str × Addr)) (x : Str), (∃ c, acc.lookup x = some c) → ∃ c, (names.foldl (closF cells) acc).lookup x = some c
  | [], acc, x, h => h
  | (n, k) :: r, acc, x, h => clos_mono r _ x (by
    obtain ⟨c, h⟩ := h
    unfold closF
    by_cases hk : ((n, k).2 == NameKind.free) = true
    · rw [if_pos hk]
      dsimp only
      cases q : cells.lookup n with
      | none => exact ⟨c, h⟩
      | some a =>
        dsimp only
        rw [lookup_pair]
        by_cases hx : x = n
        · exact ⟨a, by rw [if_pos hx]⟩
        · exact ⟨c, by rw [if_neg hx]; exact h⟩
    · rw [if_neg hk]; exact ⟨c, h⟩)
theorem clos_has {cells : List (Str × Addr)} {x : Str} {c : Addr} (hc : cells.lookup x = some c) : ∀ (names : List (Str × NameKind)) (acc : List (Str × Addr)), (x, NameKind.free) ∈ names → ∃ c, (names.foldl (closF cells) acc).lookup x = some c
  | [], acc, h => by cases h
  | (n, k) :: r, acc, h => by
    rcases List.mem_cons.mp h with e | e
    · cases e
      refine clos_mono r _ x ⟨c, ?_⟩
      unfold closF
      rw [if_pos (by rfl)]
      dsimp only
      rw [hc]
      dsimp only
      rw [lookup_pair, if_pos rfl]
    · exact clos_has hc r _ e
theorem clos_at {env : Env} {sc : Scope} {x : Str} {c : Addr} (hc : env.cells.lookup x = some c) (hm : (x, NameKind.free) ∈ sc.names) : (closOf env sc).lookup x = some c := by
  obtain ⟨c', h⟩ := clos_has hc sc.names [] hm
  have e := clos_sub sc.names [] (fun x c e => by cases e) x c' h
  rw [hc] at e; cases e
  exact h
theorem clos_of {env : Env} {sc : Scope} {x : Str} {c : Addr} (h : (closOf env sc).lookup x = some c) : env.cells.lookup x = some c :=
  clos_sub sc.names [] (fun x c e => by cases e) x c h

/-- the kinds in a block -/
def relK (env : Env) (x : Str) (k : NameKind) : NameKind := if (k == .free && env.scope.kind == .function && env.kindOf x == some .cell) then .cell else k
theorem relabel_lookup {env : Env} (x : Str) : ∀ names : List (Str × NameKind),
    (names.map fun (n, k) => if (k == NameKind.free && env.scope.kind == .function && env.kindOf n == some .cell) then (n, NameKind.cell) else (n, k)).lookup x = (names.lookup x).map (relK env x)
  | [] => rfl
  | (n, k) :: r => by
    have ih := relabel_lookup (env := env) x r
    rw [List.map_cons]
    have e : (if (k == NameKind.free && env.scope.kind == .function && env.kindOf n == some .cell) = true then (n, NameKind.cell) else (n, k)) = (n, relK env n k) := by
      unfold relK
      split <;> rfl
    dsimp only
    rw [e, lookup_pair, lookup_pair]
    by_cases hx : x = n
    · rw [if_pos hx, if_pos hx, hx]; rfl
    · rw [if_neg hx, if_neg hx]; exact ih
theorem comp_lookup {env : Env} {scope : Scope} {cl : List (Str × Addr)} {C : Addr} (x : Str) : (compEnvC scope cl C env).scope.names.lookup x = (scope.names.lookup x).map (relK env x) := relabel_lookup x scope.names

/-- where a block's names get their values -/
def srcSt (src : List (Option Nat)) (σ : St) : St := src.map fun o => o.bind fun i => (σ[i]?).join
/-- what is asked of a block's names: sc, N the def's scope and names, N' the block's names, src where those of the def stand in N -/
structure CompOk (sc : Scope) (N N' : List Str) (src : List (Option Nat)) (scope : Scope) : Prop where
  nd : N'.Nodup
  len : src.length = N'.length
  kind : scope.kind = .function
  nocell : ∀ y ∈ scope.names, y.2 ≠ .cell
  names : ∀ y ∈ scope.names, y.2 = .local → scope.names.lookup y.1 = some .local
  free : ∀ y ∈ scope.names, y.2 = .free → sc.names.lookup y.1 = some .cell ∨ sc.names.lookup y.1 = some .free
  srcs : ((src.zip N').all fun (o, x) => match o with | none => true | some i => N[i]? == some x && scope.names.lookup x == some .free) = true
theorem CompOk.at {sc : Scope} {N N' : List Str} {src : List (Option Nat)} {scope : Scope} (O : CompOk sc N N' src scope) {j i : Nat} {x : Str} (h1 : src[j]? = some (some i)) (h2 : N'[j]? = some x) : N[i]? = some x ∧ scope.names.lookup x = some .free := by
  have hz : (src.zip N')[j]? = some (some i, x) := by rw [List.getElem?_zip_eq_some]; exact ⟨h1, h2⟩
  have q := List.all_eq_true.mp O.srcs _ (List.mem_of_getElem? hz)
  have q' : (N[i]? == some x && scope.names.lookup x == some .free) = true := q
  rw [Bool.and_eq_true] at q'
  exact ⟨eq_of_beq q'.1, eq_of_beq q'.2⟩

def Cx.comp (X : Cx) (N' : List Str) (scope : Scope) (C : Addr) (s : Shared) (H : Hp) (fp : List Addr) : Cx :=
  { X with N := N', s₀ := s, H₀ := H, env := compEnvC scope (closOf X.env scope) C X.env, outer := X.stack, ex := fp, fn := fun _ => false, pn := [], xe := fun _ _ => False }

theorem Un.adopt {fs ex : List Addr} {H H1 : Hp} {h h1 : Heap} {D : Addr} {o : HO} (u : Un fs ex H H1 h h1) (hD : h.get? D = none) (hH : H D = none) : Un fs ex H (upd H1 D o) h h1 where
  keep := u.keep
  slot := u.slot
  free := fun b ob q n hx => by
    have hb : b ≠ D := fun z => by rw [z, hD] at q; cases q
    rw [upd_ne hb]; exact u.free b ob q n hx
  there := u.there
  tups := fun b xs q => by rw [upd_ne (ne_of_none q hH)]; exact u.tups b xs q
  frzs := fun b ob xs q => by rw [upd_ne (ne_of_none q hH)]; exact u.frzs b ob xs q
  tbls := fun b ps q => by rw [upd_ne (ne_of_none q hH)]; exact u.tbls b ps q
theorem HOk.adopt {P : Program} {w : World} {H : Hp} {h : Heap} {D : Addr} {o : HO} (x : HOk P w H h) (n : H D = none) (new : ObjOk P w (upd H D o) h D o) : HOk P w (upd H D o) h := fun b u e => by
  by_cases hb : b = D
  · subst hb; rw [upd_same] at e; cases e; exact new
  · rw [upd_ne hb] at e
    exact (x b u e).stay (fun c v _ q => q) (fun c q => by rw [upd_ne (ne_of_none q n)]; exact q) fun c xs q => by rw [upd_ne (ne_of_none q n)]; exact q

/-- a test of a clause -/
def PFi (X : Cx) (ifs : List Expr) (tf : TT) : Prop :=
  ∀ (pins : List (Addr × Obj)) (s : Shared) (σ : St) (H : Hp) (Q : Bool → Hp → Prop), Inv X pins σ H s → tf σ H Q →
    wpAny (model X.prog X.w) X.A (forIn ifs true fun c r => if r = true then do let ok ← isTrue c X.env (eval c X.env); pure (ForInStep.yield ok) else pure (ForInStep.yield r)) (TP X pins σ Q) X.xe s
def tfNil : TT := fun _ H Q => Q true H
theorem pf_nil {X : Cx} : PFi X [] tfNil := by
  intro pins s σ H Q I h
  rw [List.forIn_nil]
  exact wpAny_pure ⟨H, I, h⟩

/-- what a comprehension's block asks: W the word by the turn, a measure, what is gathered, the block's names -/
def CompW (src : List (Option Nat)) (J : It) (g : TG) (tf : TT) (te : TE) (Q : VK) (σ : St) (H : Hp) : Prop :=
  ∃ W : Nat → Nat → List V → St → Hp → Prop, (∃ m, W 0 m [] (srcSt src σ) H) ∧ ∀ i m ys σ' H', W i m ys σ' H' → ys.length ≤ sizeLine ∧
  ((J.stop i H' ∧ ∀ p, H' p = none → Q (.ref p) (upd H' p (.lst ys))) ∨
   (J.go i H' ∧ ∃ Nx : List V → St → Hp → Prop, (∀ ys2 σ2 H2, Nx ys2 σ2 H2 → ∃ m', m' < m ∧ W (i + 1) m' ys2 σ2 H2) ∧
     ∀ x H2, J.yld i H' x H2 → g x σ' H2 fun σ2 H3 => tf σ2 H3 fun b H4 => if b = true then te σ2 H4 fun y H5 => Nx (ys ++ [y]) σ2 H5 else Nx ys σ2 H4))
/-- [elt for tg in iter if ..] -/
def tComp (src : List (Option Nat)) (wi : TI) (g : TG) (tf : TT) (te : TE) : TE := fun σ H Q => wi σ H fun J H1 => CompW src J g tf te Q σ H1

section
variable {X : Cx} {tg elt iter : Expr} {ifs : List Expr} {scope sc : Scope} {N N' : List Str} {src : List (Option Nat)} {g : TG} {tf : TT} {te : TE} {wi : TI} {pos : Pos}

theorem loop_own {prog : Program} {w : World} {A : Around} {R : Result → Shared → Prop} {s : Shared} {it acc : Value} {env : Env} (I : Nat → Shared → Prop)
    (turn : ∀ n s, I n s → wpAny (model prog w) A (pyNext it) (fun r s₁ => match r with
      | none => R (.ok .next) s₁
      | some v => wpAny (model prog w) A (letOwnedTupleGo tg it v) (fun _ s₂ => wpAny (model prog w) A (assign tg env v) (fun _ s₃ =>
          wpAny (model prog w) A (forIn ifs true fun c r => if r = true then do let ok ← isTrue c env (eval c env); pure (ForInStep.yield ok) else pure (ForInStep.yield r)) (fun ok s₄ =>
            if ok = true then wpAny (model prog w) A (eval elt env) (fun x s₅ =>
              wpAny (model prog w) A (call (.builtin "list.append") [acc, x]) (fun _ s₆ => ∃ m, m < n ∧ I m s₆) (fun _ _ => False) s₅) (fun _ _ => False) s₄
            else ∃ m, m < n ∧ I m s₄) (fun _ _ => False) s₃) (fun _ _ => False) s₂) (fun _ _ => False) s₁) (fun _ _ => False) s)
    (n : Nat) (h : I n s) : codeAny (model prog w) A (.compLoop (.ListComp elt [⟨tg, iter, ifs, 0⟩] scope pos) 0 it acc env) R s := by
  refine codeAny_loop rfl I (fun n s hI => ?_) n h
  show wpAny _ A ((compTurn (.ListComp elt [⟨tg, iter, ifs, 0⟩] scope pos) 0 it acc env).onRaise (fun x => do noteFrame x env; theTreesLotGoes x)) _ _ s
  refine wpAny_noted ?_
  rw [compTurn_list]
  refine wpAny_bind (wpAny_standAt (wpAny_bind (wpAny_mono (turn n s hI) (fun r s₁ h₁ => ?_) fun _ _ h' => h'.elim)))
  cases r with
  | none => exact wpAny_pure h₁
  | some v =>
    refine wpAny_bind (wpAny_mono h₁ (fun _ s₂ h₂ => ?_) fun _ _ h' => h'.elim)
    refine wpAny_bind (wpAny_mono h₂ (fun _ s₃ h₃ => wpAny_bind (wpAny_mono h₃ (fun ok s₄ h₄ => ?_) fun _ _ h' => h'.elim)) fun _ _ h' => h'.elim)
    cases ok with
    | false => exact wpAny_pure ⟨rfl, h₄⟩
    | true =>
      exact wpAny_bind (wpAny_bind (wpAny_mono h₄ (fun x s₅ h₅ => wpAny_bind (wpAny_mono h₅ (fun _ s₆ h₆ => wpAny_pure (wpAny_pure ⟨rfl, h₆⟩)) fun _ _ h' => h'.elim)) fun _ _ h' => h'.elim))

/-- the block's context is good -/
theorem comp_ok {pins : List (Addr × Obj)} {σ : St} {H : Hp} {s : Shared} {fp : List Addr} {C : Addr} (O : CompOk sc N N' src scope) (hsc : X.env.scope = sc) (I : Inv X pins σ H s) (hf : ∀ b ∈ fp, FpOk X pins H b)
    (ho : ∀ b ∈ fp, ∃ o, s.heap.get? b = some o) (hC : s.heap.objs.size ≤ C) : (X.comp N' scope C s H fp).Ok := by
  have hk : ∀ x, ((compEnvC scope (closOf X.env scope) C X.env).kindOf x = some .cell ∨ (compEnvC scope (closOf X.env scope) C X.env).kindOf x = some .free) → (x, NameKind.free) ∈ scope.names := fun x h => by
    have h : (compEnvC scope (closOf X.env scope) C X.env).scope.names.lookup x = some .cell ∨ (compEnvC scope (closOf X.env scope) C X.env).scope.names.lookup x = some .free := h
    rw [comp_lookup] at h
    cases q : scope.names.lookup x with
    | none => rw [q] at h; rcases h with h | h <;> cases h
    | some k =>
      have hm := PySem.mem_of_lookup q
      rw [q] at h
      cases k with
      | free => exact hm
      | cell => exact absurd rfl (O.nocell _ hm)
      | _ =>
        exfalso
        rcases h with h | h <;> (have h' := Option.some.inj h; unfold relK at h'; simp at h')
  refine ⟨I.ok.mod, O.kind, I.ok.glob, I.ok.blt, hC, fun x y c h1 h2 => I.ok.inj x y c (clos_of h1) (clos_of h2), fun x h => ?_, fun x c h => (by cases h), I.ok.hd, I.ok.frames, .inl rfl, fun b hb => ?_, I.bs, Nat.le_trans I.ok.bsz I.sz, fun b o e hb => ?_, fun b hb z => ?_, I.stack, I.stkFree⟩
  · have hm := hk x h
    have hx := O.free _ hm rfl
    rw [← hsc] at hx
    obtain ⟨c, hc⟩ := I.ok.has x hx
    exact ⟨c, clos_at hc hm⟩
  · refine ⟨?_, fun x c h => (hf b hb).2.2.2.2.1 x c (clos_of h)⟩
    obtain ⟨o, e⟩ := ho b hb
    exact Nat.ne_of_lt (Nat.lt_of_lt_of_le (Heap.lt_size e) hC)
  · rcases (hf b hb).2.2.2.1 with z | z
    · exact I.ok.noex b o e z
    · exact absurd (Nat.lt_of_lt_of_le (Nat.lt_of_lt_of_le (Heap.lt_size e) I.ok.bsz) z) (Nat.lt_irrefl _)
  · rcases List.mem_cons.mp (I.stkSub b z) with e | e
    · exact (hf b hb).2.1 e
    · exact (hf b hb).2.2.1 e

/-- the block's first state -/
theorem comp_inv {pins : List (Addr × Obj)} {σ : St} {H : Hp} {s : Shared} {fp : List Addr} {C : Addr} {h' : Heap} {tk : Nat} (O : CompOk sc N N' src scope) (hsc : X.env.scope = sc) (hN : X.N = N) (I : Inv X pins σ H s) (hf : ∀ b ∈ fp, FpOk X pins H b)
    (ho : ∀ b ∈ fp, ∃ o, s.heap.get? b = some o) (hC : s.heap.objs.size ≤ C) (k : ∀ b o, s.heap.get? b = some o → h'.get? b = some o) {m' : Str → Option Value} (hn : h'.Ns C m') :
    Inv (X.comp N' scope C s H fp) [] (srcSt src σ) H { s with heap := h', toks := tk } := by
  have cells : ∀ x c, X.env.cells.lookup x = some c → ∀ v, s.heap.IsCell c v → h'.IsCell c v := fun x c _ v ⟨o, e, d⟩ => ⟨o, k c o e, d⟩
  refine ⟨comp_ok O hsc I hf ho hC, rfl, I.bare, Un.kept k, ⟨_, hn, fun j x v e1 e2 e3 => ?_⟩, fun x c e => ?_, I.hok.fresh hC, fun x c e => I.freeC x c (clos_of e), fun p hp => (by cases hp), I.hok.kept k, ?_⟩
  · have e2 : (srcSt src σ)[j]? = some (some v) := e2
    have e1 : N'[j]? = some x := e1
    unfold srcSt at e2
    rw [List.getElem?_map] at e2
    cases q : src[j]? with
    | none => rw [q] at e2; cases e2
    | some o =>
      rw [q] at e2
      have e2 : (o.bind fun i => (σ[i]?).join) = some v := Option.some.inj e2
      cases o with
      | none => cases e2
      | some i =>
        have e2 : (σ[i]?).join = some v := e2
        obtain ⟨y2, hlk⟩ := O.at q e1
        have y3 := PySem.mem_of_lookup hlk
        have e4 : σ[i]? = some (some v) := by
          cases r : σ[i]? with
          | none => rw [r] at e2; cases e2
          | some w => rw [r] at e2; cases w with
            | none => cases e2
            | some w' => have : w' = v := Option.some.inj e2; rw [this]
        have hx := O.free _ y3 rfl
        rw [← hsc] at hx
        obtain ⟨m, hm, hl⟩ := I.loc
        obtain ⟨u, ru, lu⟩ := hl i x v (by rw [hN]; exact y2) e4 (.inr hx)
        refine ⟨u, ru, .inr ?_⟩
        obtain ⟨c, hc, hcell⟩ : ∃ c, X.env.cells.lookup x = some c ∧ s.heap.IsCell c (some u) := by
          rcases lu with ⟨z, _⟩ | ⟨_, c, hc, hz⟩
          · exfalso
            have z : X.env.scope.names.lookup x = some .local := z
            rcases hx with hx | hx <;> (rw [hx] at z; cases z)
          · exact ⟨c, hc, hz⟩
        refine ⟨?_, c, clos_at hc y3, cells x c hc _ hcell⟩
        show (compEnvC scope (closOf X.env scope) C X.env).scope.names.lookup x = some .cell ∨ (compEnvC scope (closOf X.env scope) C X.env).scope.names.lookup x = some .free
        rw [comp_lookup, hlk]
        show some (relK X.env x .free) = some .cell ∨ some (relK X.env x .free) = some .free
        unfold relK
        split
        · exact .inl rfl
        · exact .inr rfl
  · obtain ⟨v, z⟩ := I.cell x c (clos_of e)
    exact ⟨v, cells x c (clos_of e) v z⟩
  · show (srcSt src σ).length = N'.length
    unfold srcSt
    rw [List.length_map]
    exact O.len

/-- the block, from the iterator on -/
theorem comp_block {pins : List (Addr × Obj)} {σ : St} {H : Hp} {s : Shared} {fp : List Addr} {it : Addr} {tn : Nat → Heap → Prop} {J : It} {E : Value → Shared → Prop} {RR : Value → Addr → Result → Shared → Prop} {Fin : List V → Hp → Prop} (O : CompOk sc N N' src scope) (hsc : X.env.scope = sc) (hN : X.N = N) (hcalm : X.calm = true)
    (hg : ∀ C s H fp, PG (X.comp N' scope C s H fp) tg g) (hft : ∀ C s H fp, PFi (X.comp N' scope C s H fp) ifs tf) (he : ∀ C s H fp, PE (X.comp N' scope C s H fp) elt te)
    (I : Inv X pins σ H s) (T : Turn X.prog X.w X.K tg J fp it tn) (t0 : tn 0 s.heap) (hf : ∀ b ∈ fp, FpOk X pins H b)
    (W : Nat → Nat → List V → St → Hp → Prop) (m0 : Nat) (w0 : W 0 m0 [] (srcSt src σ) H)
    (hW : ∀ i m ys σ' H', W i m ys σ' H' → ys.length ≤ sizeLine ∧ ((J.stop i H' ∧ Fin ys H') ∨
      (J.go i H' ∧ ∃ Nx : List V → St → Hp → Prop, (∀ ys2 σ2 H2, Nx ys2 σ2 H2 → ∃ m', m' < m ∧ W (i + 1) m' ys2 σ2 H2) ∧
        ∀ x H2, J.yld i H' x H2 → g x σ' H2 fun σ2 H3 => tf σ2 H3 fun b H4 => if b = true then te σ2 H4 fun y H5 => Nx (ys ++ [y]) σ2 H5 else Nx ys σ2 H4)))
    (hRR : ∀ (D C : Addr) (s' : Shared) (σ' : St) (H' : Hp) (ys : List V) (its : List Value) (n : Nat), s.heap.objs.size ≤ D → s.heap.objs.size ≤ C → Inv (X.comp N' scope C s H fp) [] σ' H' s' → s'.heap.get? D = some { cls := .type "list", data := .seq its.toArray n } → Vals ys its → ys.length ≤ sizeLine →
      H' D = none → D ≠ C → Fin ys H' → RR (.ref D) C (.ok .next) s') :
    wpAny (model X.prog X.w) X.A (newList []) (fun acc s₃ => wpAny (model X.prog X.w) X.A (newFunctionEnv scope X.env.globals (closOf X.env scope) [] X.env.qual none .none (some X.env)) (fun cenv s₄ =>
      codeAny (model X.prog X.w) X.A (.compStart (.ListComp elt [⟨tg, iter, ifs, 0⟩] scope pos) 0 (.ref it) acc { cenv with scope := relabel scope X.env }) (RR acc cenv.locals) s₄) E s₃) E s := by
  refine wpAny_newObj_type (wpAny_newFunctionEnv O.nocell (by intro y hy; cases hy) (fun h₁ hns₁ hsb₁ => ?_) O.kind)
  dsimp only at hns₁ hsb₁ ⊢
  generalize hH2 : s.heap.push { cls := .type "list", dict := none, data := .seq ([] : List Value).toArray } = P2 at hns₁ hsb₁ ⊢
  have hCs : P2.objs.size = s.heap.objs.size + 1 := by rw [← hH2, Heap.size_push]
  have hDC : s.heap.objs.size ≠ P2.objs.size := by rw [hCs]; exact Nat.ne_of_lt (Nat.lt_succ_self _)
  have hCle : s.heap.objs.size ≤ P2.objs.size := by rw [hCs]; exact Nat.le_succ _
  have below : ∀ b, b < s.heap.objs.size → b ≠ P2.objs.size ∧ b ≠ s.heap.objs.size := fun b hb => ⟨by rw [hCs]; exact Nat.ne_of_lt (Nat.lt_succ_of_lt hb), Nat.ne_of_lt hb⟩
  have old : ∀ b o, s.heap.get? b = some o → h₁.get? b = some o := fun b o e => hsb₁.extBut b o (below b (Heap.lt_size e)).1 (Heap.get?_push_of_some _ (hH2 ▸ Heap.get?_push_of_some _ e))
  have hacc : h₁.get? s.heap.objs.size = some { cls := .type "list", data := .seq ([] : List Value).toArray 0 } := hsb₁.extBut _ _ hDC (Heap.get?_push_of_some _ (hH2 ▸ Heap.get?_push_size _ rfl))
  have fpo : ∀ b ∈ fp, ∃ o, s.heap.get? b = some o := fun b hb => let ⟨o, e, _⟩ := T.obj 0 _ t0 b hb; ⟨o, e⟩
  have fplt : ∀ b ∈ fp, b < s.heap.objs.size := fun b hb => let ⟨o, e⟩ := fpo b hb; Heap.lt_size e
  generalize hD : s.heap.objs.size = D at *
  generalize hC : P2.objs.size = C at *
  have ok1 : ∀ tk, Inv (X.comp N' scope C s H fp) [] (srcSt src σ) H { s with heap := h₁, toks := tk } := fun tk => comp_inv O hsc hN I hf fpo (by rw [hD]; exact hCle) old hns₁
  have okX : (X.comp N' scope C s H fp).Ok := (ok1 0).ok
  -- what holds of the iterator's objects in the block
  have stat : ∀ {H' : Hp} {pl : List (Addr × Obj)}, (∀ b ∈ fp, H' b = none) → (∀ p ∈ pl, p.1 ∉ fp) → ∀ b ∈ fp, FpOk (X.comp N' scope C s H fp) pl H' b := fun {H' pl} hn hp b hb =>
    ⟨hn b hb, (okX.exf b hb).1, okX.exfs b hb, .inl hb, (okX.exf b hb).2, fun p hm => by
      have hm : p ∈ pl := by simpa [Cx.comp] using hm
      exact fun z => hp p hm (z ▸ hb)⟩
  have Dfs : D ∉ (X.comp N' scope C s H fp).fs := fun hb => by
    obtain ⟨_, o, ho, _⟩ := okX.funs.mem hb
    have ho : s.heap.get? D = some o := ho
    have h1 := Heap.lt_size ho
    rw [hD] at h1
    exact Nat.lt_irrefl _ h1
  have Dcell : ∀ x c, (X.comp N' scope C s H fp).env.cells.lookup x = some c → c ≠ D := fun x c e z => by
    obtain ⟨v, o, ho, _⟩ := I.cell x c (clos_of e)
    have h1 := Heap.lt_size ho
    rw [hD, z] at h1
    exact Nat.lt_irrefl _ h1
  have loop : ∀ tk, codeAny (model X.prog X.w) X.A (.compLoop (.ListComp elt [⟨tg, iter, ifs, 0⟩] scope pos) 0 (.ref it) (.ref D) (compEnvC scope (closOf X.env scope) C X.env)) (RR (.ref D) C) { s with heap := h₁, toks := tk } := by
    intro tk
    refine loop_own (fun n s' => ∃ i ys σ' H' its c, Inv (X.comp N' scope C s H fp) [] σ' H' s' ∧ tn i s'.heap ∧ (∀ b ∈ fp, H' b = none) ∧ s'.heap.get? D = some { cls := .type "list", data := .seq (its : List Value).toArray c } ∧ Vals ys its ∧ H' D = none ∧ W i n ys σ' H') ?_ m0
      ⟨0, [], srcSt src σ, H, [], 0, ok1 tk, T.keep 0 _ _ t0 fun b _ o e => old b o e, fun b hb => (hf b hb).1, hacc, .nil, I.hok.fresh (by rw [hD]; exact Nat.le_refl _), w0⟩
    rintro n s3 ⟨i, ys, σ3, H3, its, c3, I3, st3, fr3, d3, v3, nD3, w3⟩
    obtain ⟨hlen, alt⟩ := hW i n ys σ3 H3 w3
    rcases alt with ⟨stop, fin⟩ | ⟨go, Nx, hNx, step⟩
    · have I3' : Inv (X.comp N' scope C s H fp) [(D, { cls := .type "list", data := .seq its.toArray c3 })] σ3 H3 s3 := I3.pins_of fun p hp => by
        have e : p = (D, { cls := .type "list", data := .seq its.toArray c3 }) := by simpa using hp
        subst e
        exact ⟨d3, nD3, hDC, Dfs, fun v z => by cases z⟩
      refine thn (T.done (X.comp N' scope C s H fp) rfl rfl rfl hcalm i _ s3 σ3 H3 _ I3' (stat fr3 fun p hp z => by
        have e : p = (D, { cls := .type "list", data := .seq its.toArray c3 }) := by simpa using hp
        rw [e] at z
        exact Nat.lt_irrefl _ (fplt D z)) st3 stop) fun r s4 ⟨hr, I4⟩ => ?_
      subst hr
      obtain ⟨d4, nD4, _⟩ := I4.pin (D, { cls := .type "list", data := .seq its.toArray c3 }) (by simp [Cx.comp])
      exact hRR D C s4 σ3 H3 ys its c3 (by omega) (by omega) (I4.pins_of fun p hp => (by cases hp)) d4 v3 hlen nD4 hDC fin
    · have I3' : Inv (X.comp N' scope C s H fp) [(D, { cls := .type "list", data := .seq its.toArray c3 })] σ3 H3 s3 := I3.pins_of fun p hp => by
        have e : p = (D, { cls := .type "list", data := .seq its.toArray c3 }) := by simpa using hp
        subst e
        exact ⟨d3, nD3, hDC, Dfs, fun v z => by cases z⟩
      have hpD : ∀ p ∈ [((D, { cls := .type "list", data := .seq its.toArray c3 }) : Addr × Obj)], p.1 ∉ fp := fun p hp z => by
        have e : p = (D, { cls := .type "list", data := .seq its.toArray c3 }) := by simpa using hp
        rw [e] at z
        exact Nat.lt_irrefl _ (fplt D z)
      refine thn (T.item (X.comp N' scope C s H fp) rfl rfl rfl hcalm i _ s3 σ3 H3 _ I3' (stat fr3 hpD) st3 go) fun r s4 ⟨u, hr, h4⟩ => ?_
      subst hr
      refine thn h4 fun _ s5 ⟨x, H5, I5, r5, y5, st5, fr5⟩ => ?_
      have I5' := I5.pinned (stat fr5 hpD) (T.obj _ _ st5)
      have pinD : (D, ({ cls := .type "list", data := .seq its.toArray c3 } : Obj)) ∈ (X.comp N' scope C s H fp).pn ++ ([((D, { cls := .type "list", data := .seq its.toArray c3 }) : Addr × Obj)] ++ pinsAt fp s5.heap) := by simp [Cx.comp]
      have back : ∀ {σ7 : St} {H7 : Hp} {s7 : Shared}, Inv (X.comp N' scope C s H fp) ([((D, { cls := .type "list", data := .seq its.toArray c3 }) : Addr × Obj)] ++ pinsAt fp s5.heap) σ7 H7 s7 →
          tn (i + 1) s7.heap ∧ ∀ b ∈ fp, H7 b = none := fun {σ7 H7 s7} I7 => ⟨T.keep _ _ _ st5 fun b hb o e => (I7.pin (b, o) (List.mem_append_right _ (List.mem_append_right _ (mem_pinsAt hb e)))).1, fun b hb => by
        obtain ⟨o, e, d⟩ := T.obj _ _ st5 b hb
        exact (I7.pin (b, o) (List.mem_append_right _ (List.mem_append_right _ (mem_pinsAt hb e)))).2.1⟩
      refine thn (hg C s H fp _ s5 σ3 H5 x u _ I5' r5 (step x H5 y5)) fun _ s6 ⟨σ6, H6, I6, q6⟩ => ?_
      refine thn (hft C s H fp _ s6 σ6 H6 _ I6 q6) fun b s7 ⟨H7, I7, q7⟩ => ?_
      cases b with
      | false =>
        obtain ⟨m', hm', w7⟩ := hNx ys σ6 H7 (by simpa using q7)
        obtain ⟨b1, b2⟩ := back I7
        obtain ⟨d7, nD7, _⟩ := I7.pin _ pinD
        exact ⟨m', hm', i + 1, ys, σ6, H7, its, c3, I7.pins_of fun p hp => (by cases hp), b1, b2, d7, v3, nD7, w7⟩
      | true =>
        have q7 : te σ6 H7 fun y H5 => Nx (ys ++ [y]) σ6 H5 := by simpa using q7
        rw [if_pos rfl]
        refine thn (he C s H fp _ s7 σ6 H7 _ I7 q7) fun u8 s8 ⟨y, H8, I8, r8, n8⟩ => ?_
        obtain ⟨m', hm', w8⟩ := hNx _ _ _ n8
        obtain ⟨b1, b2⟩ := back I8
        obtain ⟨d8, nD8, _⟩ := I8.pin _ pinD
        have hl := v3.length
        refine wpAny_list_append_plain (items := its.toArray) ⟨c3, d8⟩ (fun h9 ⟨c9, d9⟩ sb9 => ?_) (by rw [List.size_toArray, ← hl]; exact hlen)
        have I8' : Inv (X.comp N' scope C s H fp) [] σ6 H8 s8 := I8.pins_of fun p hp => by cases hp
        have I9 : Inv (X.comp N' scope C s H fp) [] σ6 H8 { s8 with heap := h9 } := I8'.turned (t' := s8.toks) (it := D) (fun b o hb e => (sb9.2 b hb).trans e) nD8 hDC (.inr (by show s.heap.objs.size ≤ D; omega)) Dcell (fun p hp => by
          have hp : p ∈ ([] : List (Addr × Obj)) := by simpa [Cx.comp] using hp
          cases hp)
        refine ⟨m', hm', i + 1, ys ++ [y], σ6, H8, its ++ [u8], c9, I9, T.keep _ _ _ b1 fun b hb o e => (sb9.2 b (fun z => Nat.lt_irrefl _ (z ▸ fplt b hb))).trans e, b2, ?_, v3.append (.cons r8 .nil), nD8, w8⟩
        show h9.get? D = _
        rw [d9]
        simp
  exact codeAny_compStart_list (loop _) (T.self _ 0 _ _ _ (T.keep 0 _ _ t0 fun b _ o e => old b o e) (loop _))

/-- the gathered list is taken up, in the def's own context -/
theorem comp_back {pins : List (Addr × Obj)} {σ σ' : St} {H H' : Hp} {s s' : Shared} {fp : List Addr} {C D : Addr} {ys : List V} {its : List Value} {n : Nat} (I : Inv X pins σ H s) (hf : ∀ b ∈ fp, FpOk X pins H b)
    (J : Inv (X.comp N' scope C s H fp) [] σ' H' s') (hD : s.heap.objs.size ≤ D) (d : s'.heap.get? D = some { cls := .type "list", data := .seq its.toArray n }) (v : Vals ys its) (hl : ys.length ≤ sizeLine) (nD : H' D = none) :
    Inv X pins σ (upd H' D (.lst ys)) s' := by
  have u : Un (frs X.stack) fp H H' s.heap s'.heap := J.base
  refine I.call' (ch := fp) J.os (u.adopt (Heap.get?_none_of_le hD) (I.hok.fresh hD)) (J.hok.adopt nD ⟨hl, its, n, v, d⟩) J.bare fun b hb => ?_
  obtain ⟨_, f1, _, f3, f4, f5⟩ := hf b hb
  exact ⟨f3, f1, f4, f5⟩
/-- .. and the block's frame is let go -/
theorem comp_gone {pins : List (Addr × Obj)} {σ σ2 : St} {H H2 : Hp} {s s2 : Shared} {C : Addr} {h' : Heap} (I : Inv X pins σ H s) (I2 : Inv X pins σ2 H2 s2) (hC : s.heap.objs.size ≤ C) (nC : H2 C = none) (sb : Heap.SameBut C s2.heap h') : Inv X pins σ2 H2 { s2 with heap := h' } := by
  obtain ⟨_, f1, _, f3, f4, f5⟩ := I.fpOk (H' := H2) hC nC
  exact I2.turned (t' := s2.toks) (it := C) (fun b o hb e => (sb.2 b hb).trans e) nC f1 f3 f4 f5

theorem pe_comp (O : CompOk sc N N' src scope) (hsc : X.env.scope = sc) (hN : X.N = N) (hcalm : X.calm = true) (hi : PI X tg iter wi)
    (hg : ∀ C s H fp, PG (X.comp N' scope C s H fp) tg g) (hft : ∀ C s H fp, PFi (X.comp N' scope C s H fp) ifs tf) (he : ∀ C s H fp, PE (X.comp N' scope C s H fp) elt te)
    (hs : ∀ x, foldedSetIterable iter X.env x = pure x := by intro _; rfl) : PE X (.ListComp elt [⟨tg, iter, ifs, 0⟩] scope pos) (tComp src wi g tf te) := by
  intro pins s σ H Q I h
  rw [eval_ListComp]
  have hclos : closureFor scope X.env = pure (closOf X.env scope) := closureFor_is fun x hx hk => I.ok.has x.1 (by
    have := O.free x hx hk
    rw [← hsc] at this
    exact this)
  refine wpAny_comprehension_free (use := none) rfl hs hclos O.kind O.names (thn (hi pins s σ H _ I h) fun v s1 h1 => thn h1 fun itv s2 h2 => ?_)
  obtain ⟨it, fp, tn, J, H2, e, I2, T, st2, f2, W, ⟨m0, w0⟩, turn⟩ := h2
  subst e
  refine comp_block (RR := fun acc C => compPost (model X.prog X.w) X.A X.xe none (EP X pins σ Q) acc C) (Fin := fun ys H' => ∀ p, H' p = none → Q (.ref p) (upd H' p (.lst ys))) O hsc hN hcalm hg hft he I2 T st2 f2 W m0 w0 turn ?_
  intro D C s' σ' H' ys its n hD hC Jv d vv hl nD hDC fin
  have I3 := comp_back I2 f2 Jv hD d vv hl nD
  obtain ⟨m, hm, _⟩ := Jv.loc
  have nC : H' C = none := Jv.free
  refine ⟨m, hm, fun h' sb => ⟨.ref D, _, comp_gone I2 I3 hC (by rw [upd_ne (Ne.symm hDC)]; exact nC) sb, rfl, fin D nD⟩⟩

/-- name = [..]: the stores exchanged -/
theorem ps_setc {k : Nat} {y : Str} {py spos : Pos} (O : CompOk sc N N' src scope) (hsc : X.env.scope = sc) (hN : X.N = N) (hcalm : X.calm = true) (hi : PI X tg iter wi)
    (hg : ∀ C s H fp, PG (X.comp N' scope C s H fp) tg g) (hft : ∀ C s H fp, PFi (X.comp N' scope C s H fp) ifs tf) (he : ∀ C s H fp, PE (X.comp N' scope C s H fp) elt te)
    (nd : X.N.Nodup) (hk : X.N[k]? = some y) (hx : Loc X.env.scope y)
    (hsw : swapsWith (.ListComp elt [⟨tg, iter, ifs, 0⟩] scope pos) (some (.Name y py)) spos.line X.env = pure true := by rfl)
    (hf : X.fn y = true ∨ X.env.scope.names.lookup y = some .local := by first | exact .inl rfl | exact .inr rfl | assumption)
    (hs : ∀ x, foldedSetIterable iter X.env x = pure x := by intro _; rfl) : PS X (.Assign [.Name y py] (.ListComp elt [⟨tg, iter, ifs, 0⟩] scope pos) spos) (tAsg (tComp src wi g tf te) (gName k)) := by
  intro pins s σ H D₀ I h
  rw [exec_Assign_Name_used _ _ _ _ hsw]
  refine wpAny_bind (wpAny_standAt (wpAny_bind ?_))
  show wpAny _ X.A (do let _ ← comprehension (.ListComp elt [⟨tg, iter, ifs, 0⟩] scope pos) scope X.env _ (newList []) false (eval iter X.env) (some (assign (.Name y py) X.env))) _ _ s
  have hclos : closureFor scope X.env = pure (closOf X.env scope) := closureFor_is fun x hx hk => I.ok.has x.1 (by
    have := O.free x hx hk
    rw [← hsc] at this
    exact this)
  refine wpAny_bind (wpAny_mono (wpAny_comprehension_free (use := some (assign (.Name y py) X.env)) (Q := fun _ s' => SP X pins D₀ .next s') rfl hs hclos O.kind O.names (thn (hi pins s σ H _ I h) fun v s1 h1 => thn h1 fun itv s2 h2 => ?_))
    (fun _ s' hq => wpAny_pure (wpAny_pure hq)) fun _ _ e => e)
  obtain ⟨it, fp, tn, J, H2, e, I2, T, st2, f2, W, ⟨m0, w0⟩, turn⟩ := h2
  subst e
  refine comp_block (RR := fun acc C => compPost (model X.prog X.w) X.A X.xe (some (assign (.Name y py) X.env)) (fun _ s' => SP X pins D₀ .next s') acc C) (Fin := fun ys H' => ∀ p, H' p = none → gName k (.ref p) σ (upd H' p (.lst ys)) D₀.nx) O hsc hN hcalm hg hft he I2 T st2 f2 W m0 w0 turn ?_
  intro D C s' σ' H' ys its n hD hC Jv d vv hl nD hDC fin
  have I3 := comp_back I2 f2 Jv hD d vv hl nD
  obtain ⟨m, hm, _⟩ := Jv.loc
  have nC : H' C = none := Jv.free
  show wpAny _ X.A (assign (.Name y py) X.env (.ref D)) _ _ s'
  refine wpAny_assign_Name (store_ok2 I3 nd hk hx (v := .ref D) rfl (fun s4 I4 ⟨a, sa, ha⟩ => ?_) hf)
  have aC : C ≠ a := by
    rcases ha with e | e
    · rw [e]
      intro z
      exact Nat.lt_irrefl _ (Nat.lt_of_lt_of_le I2.lt (z ▸ hC))
    · intro z
      obtain ⟨v, o, ho, _⟩ := I2.cell y a e
      exact Nat.lt_irrefl _ (Nat.lt_of_lt_of_le (Heap.lt_size ho) (z ▸ hC))
  refine ⟨m, Heap.Ns.sameBut hm sa aC, fun h' sb => ⟨_, _, comp_gone I2 I4 hC (by rw [upd_ne (Ne.symm hDC)]; exact nC) sb, fin D nD⟩⟩
end

/-- two statements, with a word between them -/
def tCut (t u : TS) : TS := fun D σ H => ∃ R : St → Hp → Prop, t { D with nx := R } σ H ∧ ∀ σ' H', R σ' H' → u D σ' H'
theorem pss_cut {X : Cx} {st : Stmt} {rest : List Stmt} {t u : TS} (h1 : PS X st t) (h2 : PSs X rest u) : PSs X (st :: rest) (tCut t u) := by
  intro pins s σ H D I ⟨R, h, hu⟩
  refine wpAny_execs_cons (thn (h1 pins s σ H { D with nx := R } I h) fun f s1 q => ?_)
  cases f with
  | next =>
    obtain ⟨σ', H', I', q⟩ := q
    exact h2 pins s1 σ' H' D I' (hu σ' H' q)
  | ret v => exact q
  | brk => exact q
  | cont => exact q

/-! ### the forms one uses -/
section
variable {K : PySem.W.Frag} {src : List (Option Nat)} {g : TG} {tf : TT} {te : TE} {Q : VK} {a : Addr} {xs : List V} {σ : St} {H : Hp}
/-- over n turns -/
theorem comp_n {J : It} (n : Nat) (Pv : Nat → List V → St → Hp → Prop) (h0 : Pv 0 [] (srcSt src σ) H) (hz : n ≤ sizeLine) (hl : ∀ i ys σ H, i ≤ n → Pv i ys σ H → ys.length ≤ i)
    (hst : ∀ ys σ H, Pv n ys σ H → J.stop n H) (hgo : ∀ i ys σ H, i < n → Pv i ys σ H → J.go i H)
    (hs : ∀ i ys σ H, i < n → Pv i ys σ H → ∀ x H2, J.yld i H x H2 → g x σ H2 fun σ2 H3 => tf σ2 H3 fun b H4 => if b = true then te σ2 H4 fun y H5 => Pv (i + 1) (ys ++ [y]) σ2 H5 else Pv (i + 1) ys σ2 H4)
    (hd : ∀ ys σ H, Pv n ys σ H → ∀ p, H p = none → Q (.ref p) (upd H p (.lst ys))) : CompW src J g tf te Q σ H := by
  refine ⟨fun i m ys σ H => m = n - i ∧ i ≤ n ∧ Pv i ys σ H, ⟨n, by simp, Nat.zero_le _, h0⟩, ?_⟩
  rintro i m ys σ' H' ⟨rfl, hi, p⟩
  have hy := hl i ys σ' H' hi p
  refine ⟨by omega, ?_⟩
  by_cases hlt : i < n
  · exact .inr ⟨hgo i ys σ' H' hlt p, Pv (i + 1), fun ys2 σ2 H2 z => ⟨n - (i + 1), by omega, rfl, hlt, z⟩, fun x H2 y => hs i ys σ' H' hlt p x H2 y⟩
  · have e : i = n := by omega
    subst e
    exact .inl ⟨hst ys σ' H' p, hd ys σ' H' p⟩
/-- over a list that stays -/
theorem comp_list (Pv : Nat → List V → St → Hp → Prop) (h0 : Pv 0 [] (srcSt src σ) H) (hz : xs.length ≤ sizeLine) (hl : ∀ i ys σ H, i ≤ xs.length → Pv i ys σ H → SqL K H a xs ∧ ys.length ≤ i)
    (hs : ∀ i x ys σ H, xs[i]? = some x → Pv i ys σ H → g x σ H fun σ2 H3 => tf σ2 H3 fun b H4 => if b = true then te σ2 H4 fun y H5 => Pv (i + 1) (ys ++ [y]) σ2 H5 else Pv (i + 1) ys σ2 H4)
    (hd : ∀ ys σ H, Pv xs.length ys σ H → ∀ p, H p = none → Q (.ref p) (upd H p (.lst ys))) : CompW src (Itl K a) g tf te Q σ H :=
  comp_n xs.length Pv h0 hz (fun i ys σ H hi p => (hl i ys σ H hi p).2) (fun ys σ H p => ⟨xs, (hl _ ys σ H (Nat.le_refl _) p).1, Nat.le_refl _⟩) (fun i ys σ H hi p => ⟨xs, xs[i], (hl i ys σ H (Nat.le_of_lt hi) p).1, by simp [hi]⟩)
    (fun i ys σ H hi p x H2 y => by
      obtain ⟨e, y⟩ := y
      subst e
      exact hs i x ys σ _ (y xs (hl i ys σ _ (Nat.le_of_lt hi) p).1) p) hd
theorem comp_tup (Pv : Nat → List V → St → Hp → Prop) (h0 : Pv 0 [] (srcSt src σ) H) (hz : xs.length ≤ sizeLine) (hl : ∀ i ys σ H, i ≤ xs.length → Pv i ys σ H → SqT K H a xs ∧ ys.length ≤ i)
    (hs : ∀ i x ys σ H, xs[i]? = some x → Pv i ys σ H → g x σ H fun σ2 H3 => tf σ2 H3 fun b H4 => if b = true then te σ2 H4 fun y H5 => Pv (i + 1) (ys ++ [y]) σ2 H5 else Pv (i + 1) ys σ2 H4)
    (hd : ∀ ys σ H, Pv xs.length ys σ H → ∀ p, H p = none → Q (.ref p) (upd H p (.lst ys))) : CompW src (Itt K a) g tf te Q σ H :=
  comp_n xs.length Pv h0 hz (fun i ys σ H hi p => (hl i ys σ H hi p).2) (fun ys σ H p => ⟨xs, (hl _ ys σ H (Nat.le_refl _) p).1, Nat.le_refl _⟩) (fun i ys σ H hi p => ⟨xs, xs[i], (hl i ys σ H (Nat.le_of_lt hi) p).1, by simp [hi]⟩)
    (fun i ys σ H hi p x H2 y => by
      obtain ⟨e, y⟩ := y
      subst e
      exact hs i x ys σ _ (y xs (hl i ys σ _ (Nat.le_of_lt hi) p).1) p) hd
theorem comp_range {lo : Int} {n : Nat} (Pv : Nat → List V → St → Hp → Prop) (h0 : Pv 0 [] (srcSt src σ) H) (hz : n ≤ sizeLine) (hl : ∀ i ys σ H, i ≤ n → Pv i ys σ H → ys.length ≤ i)
    (hs : ∀ i ys σ H, i < n → Pv i ys σ H → g (.int (lo + i)) σ H fun σ2 H3 => tf σ2 H3 fun b H4 => if b = true then te σ2 H4 fun y H5 => Pv (i + 1) (ys ++ [y]) σ2 H5 else Pv (i + 1) ys σ2 H4)
    (hd : ∀ ys σ H, Pv n ys σ H → ∀ p, H p = none → Q (.ref p) (upd H p (.lst ys))) : CompW src (Itr lo n) g tf te Q σ H :=
  comp_n n Pv h0 hz hl (fun _ _ _ _ => Nat.le_refl _) (fun _ _ _ _ hi _ => hi)
    (fun i ys σ H hi p x H2 y => by
      obtain ⟨e, y⟩ := y
      subst e y
      exact hs i ys σ _ hi p) hd
/-! without a test -/
theorem noTest {te : TE} {A : V → St → Hp → Prop} {B : St → Hp → Prop} : (fun σ2 H3 => tfNil σ2 H3 fun b H4 => if b = true then te σ2 H4 (fun y H5 => A y σ2 H5) else B σ2 H4) = fun (σ2 : St) (H3 : Hp) => te σ2 H3 fun y H5 => A y σ2 H5 := by
  funext σ2 H3
  show (if true = true then (te σ2 H3 fun y H5 => A y σ2 H5) else B σ2 H3) = _
  rw [if_pos rfl]
theorem comp_list0 (Pv : Nat → List V → St → Hp → Prop) (h0 : Pv 0 [] (srcSt src σ) H) (hz : xs.length ≤ sizeLine) (hl : ∀ i ys σ H, i ≤ xs.length → Pv i ys σ H → SqL K H a xs ∧ ys.length ≤ i)
    (hs : ∀ i x ys σ H, xs[i]? = some x → Pv i ys σ H → g x σ H fun σ2 H3 => te σ2 H3 fun y H5 => Pv (i + 1) (ys ++ [y]) σ2 H5)
    (hd : ∀ ys σ H, Pv xs.length ys σ H → ∀ p, H p = none → Q (.ref p) (upd H p (.lst ys))) : CompW src (Itl K a) g tfNil te Q σ H :=
  comp_list Pv h0 hz hl (fun i x ys σ H e p => by rw [noTest]; exact hs i x ys σ H e p) hd
theorem comp_tup0 (Pv : Nat → List V → St → Hp → Prop) (h0 : Pv 0 [] (srcSt src σ) H) (hz : xs.length ≤ sizeLine) (hl : ∀ i ys σ H, i ≤ xs.length → Pv i ys σ H → SqT K H a xs ∧ ys.length ≤ i)
    (hs : ∀ i x ys σ H, xs[i]? = some x → Pv i ys σ H → g x σ H fun σ2 H3 => te σ2 H3 fun y H5 => Pv (i + 1) (ys ++ [y]) σ2 H5)
    (hd : ∀ ys σ H, Pv xs.length ys σ H → ∀ p, H p = none → Q (.ref p) (upd H p (.lst ys))) : CompW src (Itt K a) g tfNil te Q σ H :=
  comp_tup Pv h0 hz hl (fun i x ys σ H e p => by rw [noTest]; exact hs i x ys σ H e p) hd
theorem comp_range0 {lo : Int} {n : Nat} (Pv : Nat → List V → St → Hp → Prop) (h0 : Pv 0 [] (srcSt src σ) H) (hz : n ≤ sizeLine) (hl : ∀ i ys σ H, i ≤ n → Pv i ys σ H → ys.length ≤ i)
    (hs : ∀ i ys σ H, i < n → Pv i ys σ H → g (.int (lo + i)) σ H fun σ2 H3 => te σ2 H3 fun y H5 => Pv (i + 1) (ys ++ [y]) σ2 H5)
    (hd : ∀ ys σ H, Pv n ys σ H → ∀ p, H p = none → Q (.ref p) (upd H p (.lst ys))) : CompW src (Itr lo n) g tfNil te Q σ H :=
  comp_range Pv h0 hz hl (fun i ys σ H e p => by rw [noTest]; exact hs i ys σ H e p) hd
end
end L2

set_option Elab.async false
set_option linter.all false
set_option maxRecDepth 100000
set_option maxHeartbeats 4000000
/-! more rules over the hand layer: data of any depth and its ==, texts, walks along texts and enumerate, sorted, isinstance -/
namespace L2
open PySem PySem.Spec PyProof.Rows

/-! ### data of any depth -/
mutual
/-- the value reads as this datum -/
def Dt (K : PySem.W.Frag) (H : Hp) : PyData → V → Prop
  | .none, v => v = .non
  | .bool b, v => v = .bl b
  | .int i, v => v = .int i
  | .str x, v => v = .str x
  | .list ds, v => ∃ a xs, v = .ref a ∧ SqL K H a xs ∧ DtAll K H ds xs
  | .tuple ds, v => ∃ a xs, v = .ref a ∧ SqT K H a xs ∧ DtAll K H ds xs
  | .dict _, _ => False
def DtAll (K : PySem.W.Frag) (H : Hp) : List PyData → List V → Prop
  | [], xs => xs = []
  | d :: ds, xs => ∃ x r, xs = x :: r ∧ Dt K H d x ∧ DtAll K H ds r
end
theorem Same.tupS {K : PySem.W.Frag} {H H' : Hp} {a : Addr} {xs : List V} (e : Same H H') (h : SqT K H a xs) : SqT K H' a xs := by
  rcases h with (h | ⟨o, h⟩) | h
  · exact .inl (.inl (e _ _ h))
  · exact .inl (.inr ⟨o, e _ _ h⟩)
  · exact .inr h
mutual
theorem Dt.same {K : PySem.W.Frag} {H H' : Hp} (e : Same H H') : ∀ (d : PyData) (v : V), Dt K H d v → Dt K H' d v
  | .none, _, h => h
  | .bool _, _, h => h
  | .int _, _, h => h
  | .str _, _, h => h
  | .list ds, _, ⟨a, xs, h1, h2, h3⟩ => ⟨a, xs, h1, e.seq h2, DtAll.same e ds xs h3⟩
  | .tuple ds, _, ⟨a, xs, h1, h2, h3⟩ => ⟨a, xs, h1, e.tupS h2, DtAll.same e ds xs h3⟩
  | .dict _, _, h => h
theorem DtAll.same {K : PySem.W.Frag} {H H' : Hp} (e : Same H H') : ∀ (ds : List PyData) (xs : List V), DtAll K H ds xs → DtAll K H' ds xs
  | [], _, h => h
  | d :: ds, _, ⟨x, r, h1, h2, h3⟩ => ⟨x, r, h1, Dt.same e d x h2, DtAll.same e ds r h3⟩
end
theorem DtAll.strs {K : PySem.W.Frag} {H : Hp} : ∀ (ls : List Str), DtAll K H (ls.map PyData.str) (ls.map V.str)
  | [] => rfl
  | x :: ls => ⟨.str x, ls.map V.str, rfl, rfl, DtAll.strs ls⟩
section
variable {X : Cx} {pins : List (Addr × Obj)} {σ : St} {H : Hp} {s : Shared}
mutual
theorem Dt.reads (I : Inv X pins σ H s) : ∀ (d : PyData) (v : V) (u : Value), Dt X.K H d v → RelV v u → ∃ as, Reads s.heap u d as
  | .none, _, u, h, r => by
    cases (show _ = V.non from h); cases (show u = Value.none from r); exact ⟨_, .none⟩
  | .bool b, _, u, h, r => by
    cases (show _ = V.bl b from h); cases (show u = Value.bool b from r); exact ⟨_, .bool b⟩
  | .int i, _, u, h, r => by
    cases (show _ = V.int i from h); obtain ⟨t, e⟩ := (show ∃ t, u = Value.int i t from r); cases e; exact ⟨_, .int i t⟩
  | .str x, _, u, h, r => by
    cases (show _ = V.str x from h); obtain ⟨t, e⟩ := (show ∃ t, u = Value.str x t from r); cases e; exact ⟨_, .str x t⟩
  | .list ds, _, u, ⟨a, xs, h1, h2, h3⟩, r => by
    subst h1
    cases (show u = Value.ref a from r)
    obtain ⟨its, rv, ⟨o, n, e, c, _, d⟩, _⟩ := I.list h2
    obtain ⟨as, q⟩ := DtAll.reads I ds xs its h3 rv
    exact ⟨_, .list e c d (by simpa using q)⟩
  | .tuple ds, _, u, ⟨a, xs, h1, h2, h3⟩, r => by
    subst h1
    cases (show u = Value.ref a from r)
    obtain ⟨its, rv, ⟨o, e, c, n, d⟩, _⟩ := I.tuple h2
    obtain ⟨as, q⟩ := DtAll.reads I ds xs its h3 rv
    exact ⟨_, .tuple e c d (by simpa using q)⟩
  | .dict _, _, _, h, _ => False.elim h
theorem DtAll.reads (I : Inv X pins σ H s) : ∀ (ds : List PyData) (xs : List V) (us : List Value), DtAll X.K H ds xs → Vals xs us → ∃ as, ReadsAll s.heap us ds as
  | [], _, us, h, r => by
    cases (show _ = [] from h)
    cases r
    exact ⟨_, .nil⟩
  | d :: ds, _, us, ⟨x, rr, h1, h2, h3⟩, r => by
    subst h1
    cases r with
    | cons r1 r2 =>
      obtain ⟨as, q1⟩ := Dt.reads I d x _ h2 r1
      obtain ⟨bs, q2⟩ := DtAll.reads I ds rr _ h3 r2
      exact ⟨_, .cons q1 q2⟩
end
end
section
variable {X : Cx}
def rNeD (K : PySem.W.Frag) : R2 := fun x y H Q => ∃ d e, Dt K H d x ∧ Dt K H e y ∧ SeqAt.shaped d = true ∧ SeqAt.shaped e = true ∧ Q (.bl (!PyData.eqv d e)) H
theorem op_neD (hu : X.A.units + 64 < cLine) : OpR X (compareOp .NotEq) (rNeD X.K) := by
  intro pins s σ H x y v u Q I rx ry h
  obtain ⟨d, e, h1, h2, h3, h4, q⟩ := h
  obtain ⟨as, r1⟩ := Dt.reads I d x v h1 rx
  obtain ⟨bs, r2⟩ := Dt.reads I e y u h2 ry
  exact SeqAt.compareNe_shaped r1 r2 h3 h4 hu ⟨.bl _, H, I, rfl, q⟩

/-! ### texts -/
theorem strsAre_of : ∀ {ys : List Str} {us : List Value}, Vals (ys.map V.str) us → StrsAre us ys
  | [], us, r => by rw [List.map_nil] at r; cases r; exact .nil
  | y :: ys, us, r => by
    rw [List.map_cons] at r
    cases r with
    | cons r1 r2 =>
      obtain ⟨t, e⟩ := r1
      subst e
      exact .cons y t (strsAre_of r2)
/-- sep.join(xs), xs a list or a tuple of texts -/
def rJoin (K : PySem.W.Frag) : V → List V → Hp → VK → Prop := fun x vs H Q => ∃ sep p ys, x = .str sep ∧ vs = [.ref p] ∧ (SqL K H p (ys.map V.str) ∨ SqT K H p (ys.map V.str)) ∧ (ys.map (·.length)).sum + ys.length * sep.length ≤ 16777216 ∧ Q (.str (Txt.join sep ys)) H
theorem mt_join : MtR X "str.join" (rJoin X.K) := by
  intro pins s σ H x xs v us Q I rx rs h
  obtain ⟨sep, p, ys, rfl, rfl, hq, hz, q⟩ := h
  obtain ⟨t, rfl⟩ := rx
  obtain ⟨u, rfl, ru⟩ := vals1 rs
  cases ru
  rcases hq with hq | hq
  · obtain ⟨its, r, pl, _⟩ := I.list hq
    exact join_list pl.isList (by simpa using strsAre_of r) hz fun t' k => ⟨.str _, H, I.tok _, ⟨_, rfl⟩, q⟩
  · obtain ⟨its, r, pl, _⟩ := I.tuple hq
    exact join_tuple pl (by simpa using strsAre_of r) hz fun t' k => ⟨.str _, H, I.tok _, ⟨_, rfl⟩, q⟩
theorem isPart_some {vl : Value} {lo : Option Int} (h : IsPart vl lo) : ∃ o : Option (Int × Tok), vl = partValue o ∧ lo = o.map (·.1) := by
  cases h with
  | none => exact ⟨none, rfl, rfl⟩
  | int i t => exact ⟨some (i, t), rfl, rfl⟩
/-- t[lo:hi] of a text -/
def rSlS : V → Option Int → Option Int → Hp → VK → Prop := fun x lo hi H Q => ∃ z, x = .str z ∧ z.length ≤ sizeLine ∧ Q (.str (Txt.slice z lo hi)) H
theorem sl_str : SlR X rSlS := by
  intro pins s σ H x v vl vu lo hi sl Q I rx hs pl pu h
  obtain ⟨z, rfl, hz, q⟩ := h
  obtain ⟨t, rfl⟩ := rx
  obtain ⟨ol, rfl, rfl⟩ := isPart_some pl
  obtain ⟨ou, rfl, rfl⟩ := isPart_some pu
  refine ⟨"str", _, F.slot_str_getitem.lookup, typeIs_str _ _ _, wpAny_getItem_str_slice (l := ol) (u := ou) (st := none) ?_ rfl (post_val_or_str ⟨Nat.le_trans (Txt.slice_le z _ _) hz, fun t' k => ⟨.str _, H, I.tok _, ⟨_, rfl⟩, q⟩⟩)⟩
  exact hs
end

/-! ### records that turn, objects that are taken up -/
section
variable {X : Cx} {pins : List (Addr × Obj)} {σ : St} {H : Hp} {s : Shared} {h' : Heap}
theorem Inv.turnedAll {t' : Nat} {ch : List Addr} (I : Inv X pins σ H s) (hf : ∀ b ∈ ch, FpOk X pins H b) (k : ∀ b o, b ∉ ch → s.heap.get? b = some o → h'.get? b = some o) (th : ∀ b ∈ ch, ∃ o, h'.get? b = some o) : Inv X pins σ H { s with heap := h', toks := t' } := by
  have nch : ∀ b u, H b = some u → b ∉ ch := fun b u e z => by rw [(hf b z).1] at e; cases e
  refine I.step (g' := s.gens) (d' := s.drawn) (ch := ch) (fun b hb => ?_) (fun b o _ _ hc e _ => k b o hc e) (fun b o _ _ hc e _ => ⟨o.slots, k b o hc e⟩) (fun _ _ _ _ n => n)
    (fun b o hc e => ⟨o, k b o hc e⟩) (fun _ _ e => e) (fun _ _ _ e => e) (fun b ps e => ⟨#[], by rw [e]; simp⟩) (fun m hm => ?_) (fun b u e => ?_) I.bare
  · obtain ⟨_, f1, _, f3, f4, f5⟩ := hf b hb
    exact ⟨f3, f1, f4, f5⟩
  · obtain ⟨o, es, ep, ho, r⟩ := hm
    exact ⟨o, es, ep, k _ o (fun z => (hf _ z).2.1 rfl) ho, r⟩
  · refine (I.hok b u e).stay (fun c v hc q => k c v ?_ q) (fun _ q => q) fun _ _ q => q
    rcases hc with z | z
    · rw [z]; exact nch b u e
    · exact nch c _ z
theorem Un.adopt2 {fs ex : List Addr} {H H1 : Hp} {h h1 : Heap} {D : Addr} {o : HO} (u : Un fs ex H H1 h h1) (hD : h.get? D = none) (hH : H1 D = none) : Un fs ex H (upd H1 D o) h h1 where
  keep := u.keep
  slot := u.slot
  free := fun b ob q n hx => by
    have hb : b ≠ D := fun z => by rw [z, hD] at q; cases q
    rw [upd_ne hb]; exact u.free b ob q n hx
  there := u.there
  tups := fun b xs q => by rw [upd_ne (ne_of_none (u.tups b xs q) hH)]; exact u.tups b xs q
  frzs := fun b ob xs q => by rw [upd_ne (ne_of_none (u.frzs b ob xs q) hH)]; exact u.frzs b ob xs q
  tbls := fun b ps q => by
    obtain ⟨m, e⟩ := u.tbls b ps q
    exact ⟨m, by rw [upd_ne (ne_of_none e hH)]; exact e⟩
/-- an object that is there and not tracked is taken up -/
theorem Inv.takeUp {T : Addr} {o : HO} (I : Inv X pins σ H s) (n : H T = none) (h0 : X.s₀.heap.objs.size ≤ T) (hL : T ≠ X.env.locals) (hc : ∀ x c, X.env.cells.lookup x = some c → c ≠ T) (hp : ∀ p ∈ X.pn ++ pins, p.1 ≠ T)
    (new : ObjOk X.prog X.w (upd H T o) s.heap T o) : Inv X pins σ (upd H T o) s := by
  refine ⟨I.ok, I.os, I.bare, I.base.adopt2 (Heap.get?_none_of_le h0) n, I.loc, I.cell, ?_, fun x c e => ?_, fun p hpp => ?_, I.hok.adopt n new, I.len⟩
  · rw [upd_ne (Ne.symm hL)]; exact I.free
  · rw [upd_ne (hc x c e)]; exact I.freeC x c e
  · obtain ⟨e, n', ne, nf, d⟩ := I.pin p hpp
    exact ⟨e, by rw [upd_ne (hp p hpp)]; exact n', ne, nf, d⟩
end

/-! ### for over a text -/
/-- the signs of a text, one by one -/
def Its (x : Str) : It := ⟨fun i _ => i < x.length, fun i H v H' => H' = H ∧ ∃ c, x.cps[i]? = some c ∧ v = .str ⟨#[c]⟩, fun i _ => i = x.length⟩
theorem turn_walks {P : Program} {w : World} {K : PySem.W.Frag} {tg : Expr} {it : Addr} {x : Str} {tn : Nat → Heap → Prop} (hW : ∀ A : Around, A.handled = none → Walks P w A it [it] [it] x.cps.size (SignAt x) tn)
    (ho : ∀ i h, tn i h → ∃ o, h.get? it = some o ∧ ∀ v, o.data ≠ .cell v) (hself : ∀ (A : Around) (i : Nat) (s : Shared) (Q : Value → Shared → Prop) (E : Value → Shared → Prop), tn i s.heap → Q (.ref it) s → wpAny (model P w) A (pyIter (.ref it)) Q E s) :
    Turn P w K tg (Its x) [it] it tn where
  mem := by simp
  obj := fun i h st b hb => by
    have e : b = it := by simpa using hb
    subst e
    exact ho i h st
  keep := fun i h h' st k => (hW {} rfl).frame i h h' st k
  item := by
    intro X hP hw hK hc i pins s σ H E I hf st hg
    subst hP hw hK
    obtain ⟨f0, f1, f2, f3, f4, f5⟩ := hf it (by simp)
    refine (hW X.A (I.ok.hd hc)).item i s _ _ hg st fun v h' tk hv st' kk => ?_
    obtain ⟨c, u, hcx, rfl⟩ := hv
    have I1 : Inv X pins σ H { s with heap := h', toks := tk } := I.turned (fun b o hb e => kk b o (by simpa using hb) e) f0 f1 f3 f4 f5
    refine ⟨_, rfl, ?_⟩
    have fin : ∃ x' H', Inv X pins σ H' { s with heap := h', toks := tk } ∧ RelV x' (.str ⟨#[c]⟩ u) ∧ (Its x).yld i H x' H' ∧ tn (i + 1) h' ∧ ∀ b ∈ [it], H' b = none :=
      ⟨.str ⟨#[c]⟩, H, I1, ⟨u, rfl⟩, ⟨rfl, c, hcx, rfl⟩, st', fun b hb => (hf b hb).1⟩
    unfold letOwnedTupleGo
    cases tg <;> exact wpAny_pure fin
  done := by
    intro X hP hw hK hc i pins s σ H E I hf st hg
    subst hP hw hK
    obtain ⟨f0, f1, f2, f3, f4, f5⟩ := hf it (by simp)
    exact (hW X.A (I.ok.hd hc)).done s _ _ (by have e : i = x.length := hg; subst e; exact st) fun h' tk kk => ⟨rfl, I.turned (fun b o hb e => kk b o (by simpa using hb) e) f0 f1 f3 f4 f5⟩
  self := hself
section
variable {X : Cx} {tg : Expr}
def iStr (te : TE) : TI := fun σ H R => te σ H fun x H1 => ∃ z, x = .str z ∧ R (Its z) H1
theorem pi_str {e : Expr} {te : TE} (he : PE X e te) : PI X tg e (iStr te) := by
  intro pins s σ H R I h
  refine thn (he pins s σ H _ I h) fun v s1 ⟨x, H1, I1, r1, q1⟩ => ?_
  obtain ⟨z, e, q⟩ := q1
  subst e
  obtain ⟨t, rfl⟩ := r1
  have fr : H1 s1.heap.objs.size = none := I1.hok.fresh (Nat.le_refl _)
  cases ha : z.cps.all (· < 128)
  · refine wpAny_pyIter_wide ha ?_
    refine ⟨s1.heap.objs.size, [s1.heap.objs.size], fun i h => h.IsStrIter s1.heap.objs.size "str_iterator" z t i, _, H1, rfl, I1.kept (t' := s1.toks) fun b o e => Heap.get?_push_of_some _ e,
      turn_walks (fun A hA => Walks.strWide hA _ z t) (fun i h ⟨o, ho, _, hd⟩ => ⟨o, ho, fun v z => by rw [hd] at z; cases z⟩) (fun _ _ _ _ _ st hQ => wpAny_pyIter_striter_wide st hQ), ⟨_, Heap.get?_push_size _ rfl, rfl, rfl⟩, fun b hb => ?_, q⟩
    have e : b = s1.heap.objs.size := by simpa using hb
    subst e
    exact I1.fpOk (Nat.le_refl _) fr
  · refine wpAny_pyIter_ascii ha ?_
    refine ⟨s1.heap.objs.size, [s1.heap.objs.size], fun i h => h.IsStrIter s1.heap.objs.size "str_ascii_iterator" z t i, _, H1, rfl, I1.kept (t' := s1.toks) fun b o e => Heap.get?_push_of_some _ e,
      turn_walks (fun A hA => Walks.strAscii hA _ z t) (fun i h ⟨o, ho, _, hd⟩ => ⟨o, ho, fun v z => by rw [hd] at z; cases z⟩) (fun _ _ _ _ _ st hQ => wpAny_pyIter_striter_ascii st hQ), ⟨_, Heap.get?_push_size _ rfl, rfl, rfl⟩, fun b hb => ?_, q⟩
    have e : b = s1.heap.objs.size := by simpa using hb
    subst e
    exact I1.fpOk (Nat.le_refl _) fr
end
/-- what a for-statement asks, by a word for n turns -/
abbrev ForW (J : It) (g : TG) (tb : TS) (D : Ends) (σ : St) (H : Hp) : Prop :=
  ∃ W : Nat → Nat → St → Hp → Prop, (∃ m, W 0 m σ H) ∧ ∀ i m σ H, W i m σ H →
    (J.stop i H ∧ D.nx σ H) ∨ (J.go i H ∧ ∃ N : St → Hp → Prop, (∀ σ' H', N σ' H' → ∃ m', m' < m ∧ W (i + 1) m' σ' H') ∧ ∀ x H', J.yld i H x H' → g x σ H' fun σ2 H2 => tb { D with nx := N, ct := N, bk := D.nx } σ2 H2)
theorem for_n {J : It} {g : TG} {tb : TS} {D : Ends} {σ : St} {H : Hp} (n : Nat) (Pv : Nat → St → Hp → Prop) (h0 : Pv 0 σ H) (hst : ∀ σ H, Pv n σ H → J.stop n H) (hgo : ∀ i σ H, i < n → Pv i σ H → J.go i H)
    (hs : ∀ i σ H, i < n → Pv i σ H → ∀ x H', J.yld i H x H' → g x σ H' fun σ2 H2 => tb { D with nx := Pv (i + 1), ct := Pv (i + 1), bk := D.nx } σ2 H2) (hd : ∀ σ H, Pv n σ H → D.nx σ H) : ForW J g tb D σ H := by
  refine ⟨fun i m σ H => m = n - i ∧ i ≤ n ∧ Pv i σ H, ⟨n, by simp, Nat.zero_le _, h0⟩, ?_⟩
  rintro i m σ H ⟨rfl, hi, p⟩
  by_cases hlt : i < n
  · exact .inr ⟨hgo i σ H hlt p, Pv (i + 1), fun σ' H' p' => ⟨n - (i + 1), by omega, rfl, hlt, p'⟩, fun x H' y => hs i σ H hlt p x H' y⟩
  · have e : i = n := by omega
    subst e
    exact .inl ⟨hst σ H p, hd σ H p⟩
theorem for_str {x : Str} {g : TG} {tb : TS} {D : Ends} {σ : St} {H : Hp} (Pv : Nat → St → Hp → Prop) (h0 : Pv 0 σ H)
    (hs : ∀ i c σ H, x.cps[i]? = some c → Pv i σ H → g (.str ⟨#[c]⟩) σ H fun σ2 H2 => tb { D with nx := Pv (i + 1), ct := Pv (i + 1), bk := D.nx } σ2 H2) (hd : ∀ σ H, Pv x.length σ H → D.nx σ H) : ForW (Its x) g tb D σ H :=
  for_n x.length Pv h0 (fun _ _ _ => rfl) (fun _ _ _ hi _ => hi) (fun i σ H hi p v H' y => by
    obtain ⟨e, c, hc, ev⟩ := y
    subst e ev
    exact hs i c σ _ hc p) hd

/-! ### for over enumerate(a list) -/
end L2

set_option Elab.async false
set_option linter.all false
set_option maxRecDepth 100000
set_option maxHeartbeats 4000000
namespace L2
open PySem PySem.Spec PyProof.Rows

/-! ### enumerate -/
section
variable {X : Cx} {elts : List Expr} {x1 : Nat} {tpos : Pos}

/-! ### sorted(a dict of texts) -/

/-! ### t[lo:hi] of a tuple, the whole too -/
end
namespace AxT
variable {prog : Program} {w : World} {A : Around} {E : Value → Shared → Prop} {s : Shared}
open HT
end AxT
section
variable {X : Cx}

/-! ### calls of the text's own defs, by one fact each -/
/-- a def of the text: its promise, and how it is called -/
structure Cal (P : Program) (w : World) (K : PySem.W.Frag) (mg : Str → Option Value) (base : Heap) (k : Nat) (x : Str) (ps : List Str) (sp : Sp) : Prop where
  ex : ∃ (f : Addr) (fd : FuncData), FnOk P w K mg base CX0 k f fd ps sp ∧ mg x = some (.ref f) ∧ PySem.W.keepIn K (.ref f) = true ∧ Binds K fd ps []
theorem pe_callC {k : Nat} {x : Str} {ps : List Str} {sp : Sp} {e : Expr} {es : List Expr} {t : TA} {p pos : Pos} (C : Cal X.prog X.w X.K X.mg X.base k x ps sp) (hr : Room k X.A) (ha : PA X (e :: es) t) (hg : Gl X x := by rfl)
    (hdb : (x == ("__debug__" : Str)) = false := by decide) (he : starEach (e :: es) X.env = (false, eval e X.env) :: starEach es X.env := by rfl) (hpl : (backTo pos (starEach es X.env)).any (·.1) = false := by rfl) :
    PE X (.Call (.Name x p) (e :: es) [] pos) (tCall sp [] E0 t) := by
  obtain ⟨f, fd, F, hm, hk, hb⟩ := C.ex
  exact pe_call F hr hg hm hk hb .nil pass0 ha hdb he hpl
theorem Cal.mk' {P : Program} {w : World} {K : PySem.W.Frag} {mg : Str → Option Value} {base : Heap} {k : Nat} {x qual : Str} {st : Stmt} {f : Addr} {fd : FuncData} {ps : List Str} {sp : Sp} (F : Fun K x qual st f fd) (G : FnOk P w K mg base CX0 k f fd ps sp) (hm : mg x = some (.ref f))
    (b : Binds K fd ps []) : Cal P w K mg base k x ps sp := ⟨f, fd, G, hm, F.kp, b⟩

/-! ### an item of a dict of the text's top -/

/-! ### isinstance(x, T), T a builtin type -/
theorem call_isinst : CallR X (.builtin "isinstance") (fun xs H Q => ∃ y T t b, xs = [y, .ty T] ∧ TyOf X.K H y t ∧ PySem.W.kitOne X.K t (.type T) = some b ∧ Q (.bl b) H) := by
  intro pins s σ H xs us Q I r h
  obtain ⟨y, T, t, b, rfl, ty, kt, q⟩ := h
  obtain ⟨u, w', rfl, ru, rw'⟩ := vals2 r
  cases (show w' = Value.type T from rw')
  exact isinst_ok I ru ty kt fun tk => ⟨.bl b, H, I.tok _, rfl, q⟩
end
end L2

set_option Elab.async false
set_option linter.all false
set_option maxRecDepth 100000
set_option maxHeartbeats 4000000
namespace L2
open PySem PySem.Spec PyProof.Rows
/-! rules that name the fragment: for a comprehension's block -/
section
variable {X : Cx} {a : Expr} {ta : TE} {K : PySem.W.Frag}
def tTru (K : PySem.W.Frag) (ta : TE) : TT := fun σ H Q => ta σ H fun x H' => ∃ k, TruV K x H' k ∧ Q k H'
theorem pt_truthK (ha : PE X a ta) (he : ∀ whole, isTrue a X.env whole = (do let v ← whole; standAt a.pos; holding [v] (truthy v))) (hK : X.K = K := by rfl) : PT X a (tTru K ta) := by
  subst hK
  exact pt_truth ha he
def rIsi (K : PySem.W.Frag) : List V → Hp → VK → Prop := fun xs H Q => ∃ y T t b, xs = [y, .ty T] ∧ TyOf K H y t ∧ PySem.W.kitOne K t (.type T) = some b ∧ Q (.bl b) H
theorem call_isinstK (hK : X.K = K := by rfl) : CallR X (.builtin "isinstance") (rIsi K) := by
  subst hK
  exact call_isinst
end
end L2
/-! texts, lists of texts, heaps: what every law's text wants -/
namespace An
open PySem L2

abbrev cs (x : Str) : List Nat := x.cps.toList
theorem cs_inj {x y : Str} (h : cs x = cs y) : x = y := by
  obtain ⟨a⟩ := x
  obtain ⟨b⟩ := y
  have : a = b := by simpa using h
  rw [this]
theorem cs_append (x y : Str) : cs (x ++ y) = cs x ++ cs y := by
  show (x.cps ++ y.cps).toList = _
  simp
theorem length_cs (x : Str) : x.length = (cs x).length := by simp [Str.length]
theorem len_append (x y : Str) : (x ++ y).length = x.length + y.length := by rw [length_cs, length_cs, length_cs, cs_append, List.length_append]
theorem cs_joinNil : ∀ xs : List Str, cs (Str.join "" xs) = xs.flatMap cs
  | [] => rfl
  | [x] => by show cs x = _; simp
  | x :: y :: r => by
    show cs (x ++ "" ++ Str.join "" (y :: r)) = _
    have : cs ("" : Str) = [] := by decide +kernel
    rw [cs_append, cs_append, cs_joinNil (y :: r), this, List.append_nil]
    simp
theorem eqv_strs : ∀ (a b : List Str), PyData.eqvAll (a.map .str) (b.map .str) = decide (a = b)
  | [], [] => rfl
  | [], _ :: _ => rfl
  | _ :: _, [] => rfl
  | x :: a, y :: b => by
    show ((x == y) && PyData.eqvAll (a.map .str) (b.map .str)) = _
    rw [eqv_strs a b, Bool.eq_iff_iff]
    simp
/-! ### texts that are small and good -/
structure Ok (n : Nat) (x : Str) : Prop where
  len : x.length ≤ n
  ok : PyData.strOk x = true
theorem strOk_iff (x : Str) : PyData.strOk x = true ↔ ∀ c ∈ cs x, c < 1114112 := by
  unfold PyData.strOk
  rw [← Array.all_toList, List.all_eq_true]
  simp
theorem lay_strs : ∀ ls : List Str, (∀ p ∈ ls, PyData.strOk p = true) → PyData.canLayAll0 (ls.map .str) = true ∧ PyData.depthAll (ls.map .str) = 0
  | [], _ => ⟨rfl, rfl⟩
  | x :: ls, h => by
    obtain ⟨h1, h2⟩ := lay_strs ls fun p hp => h p (List.mem_cons_of_mem _ hp)
    refine ⟨?_, ?_⟩
    · show (PyData.strOk x && PyData.canLayAll0 (ls.map .str)) = true
      rw [h x List.mem_cons_self, h1]; rfl
    · show max 0 (PyData.depthAll (ls.map .str)) = 0
      rw [h2]; rfl
theorem mem_slice {x : Str} {lo hi : Option Int} {c : Nat} (h : c ∈ cs (Txt.slice x lo hi)) : c ∈ cs x := by
  unfold Txt.slice at h
  split at h
  · exact h
  · have h : c ∈ (Builtin.Str.strSliceIndices lo hi 1 x.length).filterMap (x.cps[·]?) := by simpa using h
    obtain ⟨i, _, e⟩ := List.mem_filterMap.mp h
    have e2 : (cs x)[i]? = some c := by rw [← e]; simp
    exact List.mem_of_getElem? e2
theorem same_upd {H : Hp} {l : Addr} {o : HO} (h : H l = none) : Same H (upd H l o) := fun b u e => by rw [upd_ne (ne_of_none e h)]; exact e
theorem Same.updF {H H2 : Hp} {l : Addr} {o : HO} (e : Same H H2) (n : H l = none) : Same H (upd H2 l o) := fun b u q => by rw [upd_ne (ne_of_none q n)]; exact e b u q
theorem le_line {n : Nat} (h : n ≤ 16777216) : n ≤ sizeLine := by rw [sizeLine_eq]; exact h
theorem lt_line {n : Nat} (h : n < 16777216) : n < sizeLine := by rw [sizeLine_eq]; exact h
theorem lineN (n : Nat) (h : n ≤ 16777216 := by decide) : n ≤ sizeLine := le_line h
theorem sum_le {n : Nat} : ∀ (ys : List Str), (∀ y ∈ ys, y.length ≤ n) → (ys.map (·.length)).sum ≤ ys.length * n
  | [], _ => by simp
  | y :: ys, h => by
    have h1 := sum_le ys fun z hz => h z (List.mem_cons_of_mem _ hz)
    have h2 := h y List.mem_cons_self
    rw [List.map_cons, List.sum_cons, List.length_cons, Nat.succ_mul]
    omega
theorem mem_snoc {α : Type} {p : α → Prop} {l : List α} {x : α} (h : ∀ y ∈ l, p y) (hx : p x) : ∀ y ∈ l ++ [x], p y := fun y hy => by
  rcases List.mem_append.mp hy with z | z
  · exact h y z
  · rw [List.mem_singleton.mp z]; exact hx
/-! ### an item by a place that is an int -/
theorem at_map {α : Type} {f : α → V} {xs : List α} {i : Int} (h0 : 0 ≤ i) (h1 : i < xs.length) : ∃ x, xs[i.toNat]? = some x ∧ atI (xs.map f) i = some (f x) := by
  obtain ⟨j, rfl⟩ := Int.eq_ofNat_of_zero_le h0
  have hj : j < xs.length := by omega
  refine ⟨xs[j], by simp [hj], atI_nat ?_⟩
  rw [List.getElem?_map, List.getElem?_eq_getElem hj]; rfl
theorem cut_to {xs : List V} {i : Int} (h0 : 0 ≤ i) : cutV xs none (some i) = xs.take i.toNat := by
  obtain ⟨j, rfl⟩ := Int.eq_ofNat_of_zero_le h0
  unfold cutV
  rw [HT.sIx_none, HT.sIx_nat, List.drop_zero]
  show xs.take (min j xs.length - 0) = xs.take j
  by_cases h : j ≤ xs.length
  · rw [Nat.min_eq_left h]; rfl
  · rw [Nat.min_eq_right (by omega), Nat.sub_zero, List.take_length, List.take_of_length_le (by omega)]
theorem cut_from {xs : List V} {i : Int} (h0 : 0 ≤ i) : cutV xs (some i) none = xs.drop i.toNat := by
  obtain ⟨j, rfl⟩ := Int.eq_ofNat_of_zero_le h0
  unfold cutV
  rw [HT.sIx_none, HT.sIx_nat]
  show (xs.drop (min j xs.length)).take (xs.length - min j xs.length) = xs.drop j
  by_cases h : j ≤ xs.length
  · rw [Nat.min_eq_left h]
    exact List.take_of_length_le (by rw [List.length_drop]; omega)
  · rw [Nat.min_eq_right (by omega), List.drop_eq_nil_of_le (Nat.le_refl _), List.drop_eq_nil_of_le (by omega)]; simp
/-! ### heaps that keep all but lists -/
def TSame (H H' : Hp) : Prop := ∀ b o, H b = some o → (∀ xs, o ≠ .lst xs) → H' b = some o
theorem TSame.upd {H : Hp} {l : Addr} {xs ys : List V} (h : H l = some (.lst xs)) : TSame H (L2.upd H l (.lst ys)) := fun b o e n => by
  have hb : b ≠ l := fun z => by rw [z, h] at e; cases e; exact n xs rfl
  rw [upd_ne hb]; exact e
theorem TSame.tup {K : PySem.W.Frag} {H H' : Hp} {a : Addr} {xs : List V} (e : TSame H H') (h : SqT K H a xs) : SqT K H' a xs := by
  rcases h with (h | ⟨o, h⟩) | h
  · exact .inl (.inl (e _ _ h fun xs z => nomatch z))
  · exact .inl (.inr ⟨o, e _ _ h fun xs z => nomatch z⟩)
  · exact .inr h
/-! ### texts of drawn signs -/
def one (c : Nat) : Str := ⟨#[c]⟩
theorem cs_joinOnes : ∀ l : List Nat, cs (Txt.join "" (l.map one)) = l := by
  intro l
  have e2 : Txt.join "" (l.map one) = Str.join "" (l.map one) := StrLaws.glued_eq_join _ _
  rw [e2, cs_joinNil, List.flatMap_map]
  induction l with
  | nil => rfl
  | cons c l ih =>
    rw [List.flatMap_cons]
    show [c] ++ _ = _
    rw [ih (StrLaws.glued_eq_join _ _)]
    rfl
theorem sum_ones : ∀ l : List Nat, ((l.map one).map (·.length)).sum = l.length
  | [] => rfl
  | c :: l => by
    rw [List.map_cons, List.map_cons, List.sum_cons, sum_ones l, List.length_cons]
    show 1 + l.length = _
    omega
end An

set_option Elab.async false
set_option linter.all false
set_option maxRecDepth 100000
set_option maxHeartbeats 4000000
/-! more rules: <= of texts, all([..]) of truth values -/
namespace L2
open PySem PySem.Spec PyProof.Rows
section
variable {X : Cx} {K : PySem.W.Frag}
def rLeS : R2 := fun x y H Q => ∃ i j : Str, x = .str i ∧ y = .str j ∧ Q (.bl (!decide (j.cps.toList < i.cps.toList))) H
theorem op_leS : OpR X (compareOp .LtE) rLeS := by
  intro pins s σ H x y v u Q I rx ry h
  obtain ⟨i, j, rfl, rfl, q⟩ := h
  obtain ⟨t, rfl⟩ := rx
  obtain ⟨t', rfl⟩ := ry
  exact P.le_str ⟨.bl _, H, I, rfl, q⟩
theorem vals_bl : ∀ {bs : List Bool} {us : List Value}, Vals (bs.map V.bl) us → us = bs.map Value.bool
  | [], us, h => by cases h; rfl
  | b :: bs, us, h => by
    cases h with
    | cons r1 r2 => rw [vals_bl r2]; cases r1; rfl
def rAll (K : PySem.W.Frag) : List V → Hp → VK → Prop := fun xs H Q => ∃ (a : Addr) (bs : List Bool), xs = [.ref a] ∧ SqL K H a (bs.map V.bl) ∧ Q (.bl (bs.all id)) H
theorem call_all (hc : X.calm = true) (hK : X.K = K := by rfl) : CallR X (.builtin "all") (rAll K) := by
  subst hK
  intro pins s σ H xs us Q I r h
  obtain ⟨a, bs, rfl, ha, q⟩ := h
  obtain ⟨u, rfl, ru⟩ := vals1 r
  cases ru
  obtain ⟨its, rv, pl, hz⟩ := I.list ha
  have ei := vals_bl rv
  have hl := pl.isList
  have hlt : a < s.heap.objs.size := by obtain ⟨_, e, _⟩ := hl; exact Heap.lt_size e
  refine call_all_walk (wpAny_pyIter_list hl ?_)
  refine ⟨s.heap.objs.size, [s.heap.objs.size, a], [s.heap.objs.size], its.toArray.size, _, _, fun i => (bs[i]?).getD true, rfl, Walks.list (A := X.A.in1) (I.ok.hd hc) _ a (Nat.ne_of_lt hlt) its.toArray,
    ⟨⟨_, Heap.get?_push_size _ rfl, rfl, rfl⟩, hl.push _⟩, fun i v s' Q' E' hP hQ => ?_, fun h' tk hk => ?_⟩
  · have hP : its[i]? = some v := by simpa using hP
    rw [ei, List.getElem?_map] at hP
    cases e : bs[i]? with
    | none => rw [e] at hP; cases hP
    | some b =>
      rw [e] at hP
      have hP : Value.bool b = v := Option.some.inj hP
      subst hP
      simp only [e, Option.getD_some] at hQ
      exact wpAny_truthy_bool hQ
  · have hlen : its.length = bs.length := by rw [ei, List.length_map]
    have e : ((List.range its.toArray.size).all fun i => (bs[i]?).getD true) = bs.all id := by
      rw [List.size_toArray, hlen]; exact PyProof.Rows.LSm.range_all bs
    rw [e]
    exact ⟨.bl _, H, I.kept (PyProof.Rows.LSm.kept_iter hk), rfl, q⟩
end
/-! ### any datum, also with dicts in it that are not read -/
mutual
def Dw (K : PySem.W.Frag) (H : Hp) : PyData → V → Prop
  | .none, v => v = .non
  | .bool b, v => v = .bl b
  | .int i, v => v = .int i
  | .str x, v => v = .str x
  | .list ds, v => ∃ a xs, v = .ref a ∧ SqL K H a xs ∧ DwAll K H ds xs
  | .tuple ds, v => ∃ a xs, v = .ref a ∧ SqT K H a xs ∧ DwAll K H ds xs
  | .dict _, v => ∃ a kvs, v = .ref a ∧ H a = some (.dK kvs)
def DwAll (K : PySem.W.Frag) (H : Hp) : List PyData → List V → Prop
  | [], xs => xs = []
  | d :: ds, xs => ∃ x r, xs = x :: r ∧ Dw K H d x ∧ DwAll K H ds r
end
mutual
theorem Dw.same {K : PySem.W.Frag} {H H' : Hp} (e : Same H H') : ∀ (d : PyData) (v : V), Dw K H d v → Dw K H' d v
  | .none, _, h => h
  | .bool _, _, h => h
  | .int _, _, h => h
  | .str _, _, h => h
  | .list ds, _, ⟨a, xs, h1, h2, h3⟩ => ⟨a, xs, h1, e.seq h2, DwAll.same e ds xs h3⟩
  | .tuple ds, _, ⟨a, xs, h1, h2, h3⟩ => ⟨a, xs, h1, e.tupS h2, DwAll.same e ds xs h3⟩
  | .dict _, _, ⟨a, kvs, h1, h2⟩ => ⟨a, kvs, h1, e _ _ h2⟩
theorem DwAll.same {K : PySem.W.Frag} {H H' : Hp} (e : Same H H') : ∀ (ds : List PyData) (xs : List V), DwAll K H ds xs → DwAll K H' ds xs
  | [], _, h => h
  | d :: ds, _, ⟨x, r, h1, h2, h3⟩ => ⟨x, r, h1, Dw.same e d x h2, DwAll.same e ds r h3⟩
end
mutual
theorem Dt.dw {K : PySem.W.Frag} {H : Hp} : ∀ {d : PyData} {v : V}, Dt K H d v → Dw K H d v
  | .none, _, h => h
  | .bool _, _, h => h
  | .int _, _, h => h
  | .str _, _, h => h
  | .list ds, _, ⟨a, xs, h1, h2, h3⟩ => ⟨a, xs, h1, h2, DtAll.dw h3⟩
  | .tuple ds, _, ⟨a, xs, h1, h2, h3⟩ => ⟨a, xs, h1, h2, DtAll.dw h3⟩
  | .dict _, _, h => h.elim
theorem DtAll.dw {K : PySem.W.Frag} {H : Hp} : ∀ {ds : List PyData} {xs : List V}, DtAll K H ds xs → DwAll K H ds xs
  | [], _, h => h
  | d :: ds, _, ⟨x, r, h1, h2, h3⟩ => ⟨x, r, h1, Dt.dw h2, DtAll.dw h3⟩
end
theorem DwAll.length {K : PySem.W.Frag} {H : Hp} : ∀ {ds : List PyData} {xs : List V}, DwAll K H ds xs → xs.length = ds.length
  | [], _, h => by rw [show _ = [] from h]; rfl
  | d :: ds, _, ⟨x, r, h1, h2, h3⟩ => by rw [h1, List.length_cons, List.length_cons, DwAll.length h3]
theorem DwAll.get {K : PySem.W.Frag} {H : Hp} : ∀ {ds : List PyData} {xs : List V} {i : Nat} {x : V}, DwAll K H ds xs → xs[i]? = some x → ∃ d, ds[i]? = some d ∧ Dw K H d x
  | [], _, i, x, h, e => by rw [show _ = [] from h] at e; cases e
  | d :: ds, _, 0, x, ⟨x', r, h1, h2, h3⟩, e => by
    rw [h1] at e
    cases e
    exact ⟨d, rfl, h2⟩
  | d :: ds, _, i + 1, x, ⟨x', r, h1, h2, h3⟩, e => by
    rw [h1] at e
    obtain ⟨d', e1, e2⟩ := DwAll.get (i := i) h3 (by simpa using e)
    exact ⟨d', by simpa using e1, e2⟩
theorem DwAll.drop {K : PySem.W.Frag} {H : Hp} : ∀ (n : Nat) {ds : List PyData} {xs : List V}, DwAll K H ds xs → DwAll K H (ds.drop n) (xs.drop n)
  | 0, _, _, h => by simpa using h
  | n + 1, [], _, h => by rw [show _ = [] from h]; exact rfl
  | n + 1, d :: ds, _, ⟨x, r, h1, h2, h3⟩ => by rw [h1]; exact DwAll.drop n h3
def nameD : PyData → String
  | .none => "NoneType"
  | .bool _ => "bool"
  | .int _ => "int"
  | .str _ => "str"
  | .list _ => "list"
  | .tuple _ => "tuple"
  | .dict _ => "dict"
section
variable {X : Cx} {pins : List (Addr × Obj)} {σ : St} {H : Hp} {s : Shared} {A : Around} {E : Value → Shared → Prop} {Q : Value → Shared → Prop} {c : Value} {b : Bool} {K : PySem.W.Frag}
theorem isinst_dw {x : V} {u : Value} {d : PyData} (I : Inv X pins σ H s) (rx : RelV x u) (hd : Dw X.K H d x) (e : PySem.W.kitOne X.K (.type (nameD d)) c = some b) (h : ∀ tk, Q (.bool b) { s with toks := tk }) :
    wpAny (model X.prog X.w) A (call (.builtin "isinstance") [u, c]) Q E s := by
  cases d with
  | none => cases (show x = _ from hd); exact isinst_ok I rx .non e h
  | bool y => cases (show x = _ from hd); exact isinst_ok I rx (.bl y) e h
  | int i => cases (show x = _ from hd); exact isinst_ok I rx (.int i) e h
  | str y => cases (show x = _ from hd); exact isinst_ok I rx (.str y) e h
  | dict kvs => obtain ⟨a, ks, rfl, ea⟩ := hd; exact isinst_ok I rx (.dK ea) e h
  | list ds =>
    obtain ⟨a, xs, rfl, hs, _⟩ := hd
    cases (show u = Value.ref a from rx)
    obtain ⟨its, _, ⟨o, n, h1, h2, _⟩, _⟩ := I.list hs
    exact PySem.W.kia_one PySem.W.kitx_list I.kIn ⟨o, h1, h2⟩ e (fun z => nomatch z) h
  | tuple ds =>
    obtain ⟨a, xs, rfl, hs, _⟩ := hd
    cases (show u = Value.ref a from rx)
    obtain ⟨its, _, p, _⟩ := I.tuple hs
    obtain ⟨o, h1, h2, _⟩ := p
    exact PySem.W.kia_one PySem.W.kitx_tuple I.kIn ⟨o, h1, h2⟩ e (fun z => nomatch z) h
def rIsiD (K : PySem.W.Frag) : List V → Hp → VK → Prop := fun xs H Q => ∃ y T d b, xs = [y, .ty T] ∧ Dw K H d y ∧ PySem.W.kitOne K (.type (nameD d)) (.type T) = some b ∧ Q (.bl b) H
theorem call_isinstD (hK : X.K = K := by rfl) : CallR X (.builtin "isinstance") (rIsiD K) := by
  subst hK
  intro pins s σ H xs us Q I r h
  obtain ⟨y, T, d, b, rfl, hd, kt, q⟩ := h
  obtain ⟨u, w', rfl, ru, rw'⟩ := vals2 r
  cases (show w' = Value.type T from rw')
  exact isinst_dw I ru hd kt fun tk => ⟨.bl b, H, I.tok _, rfl, q⟩
end
section
variable {src : List (Option Nat)} {g : TG} {te : TE} {Q : VK} {σ : St} {H : Hp}
theorem comp_str0 {x : Str} (Pv : Nat → List V → St → Hp → Prop) (h0 : Pv 0 [] (srcSt src σ) H) (hz : x.length ≤ sizeLine) (hl : ∀ i ys σ H, i ≤ x.length → Pv i ys σ H → ys.length ≤ i)
    (hs : ∀ i c ys σ H, x.cps[i]? = some c → Pv i ys σ H → g (.str ⟨#[c]⟩) σ H fun σ2 H3 => te σ2 H3 fun y H5 => Pv (i + 1) (ys ++ [y]) σ2 H5)
    (hd : ∀ ys σ H, Pv x.length ys σ H → ∀ p, H p = none → Q (.ref p) (upd H p (.lst ys))) : CompW src (Its x) g tfNil te Q σ H :=
  comp_n x.length Pv h0 hz hl (fun _ _ _ _ => rfl) (fun _ _ _ _ hi _ => hi)
    (fun i ys σ H hi p x' H2 y => by
      obtain ⟨e, c, hc, rfl⟩ := y
      subst e
      rw [noTest]
      exact hs i c ys σ _ hc p) hd
end
end L2

set_option Elab.async false
set_option linter.all false
set_option maxRecDepth 100000
set_option maxHeartbeats 4000000
/-! lines, labels, rows of trees: what DOC.md asks of them, over any datum -/
namespace An
open PySem L2
/-! ### what is asked -/
def signB (c : Nat) : Bool := decide (32 ≤ c) && decide (c ≤ 126) && decide (c ≠ 37)
def lineB (x : Str) : Bool := decide (x.length ≤ 20) && (cs x).all signB
def lowB (c : Nat) : Bool := decide (97 ≤ c) && decide (c ≤ 122)
def labelB (x : Str) : Bool := decide (1 ≤ x.length) && decide (x.length ≤ 8) && (cs x).all lowB
def lineD : PyData → Bool
  | .str x => lineB x
  | _ => false
def linesD : PyData → Bool
  | .tuple ds => ds.all lineD
  | _ => false
def labelD : PyData → Bool
  | .str x => labelB x
  | _ => false
mutual
/-- no text and no row of it is great -/
def small : PyData → Bool
  | .str x => decide (x.length ≤ 1000)
  | .list ds => decide (ds.length ≤ 1000) && smallAll ds
  | .tuple ds => decide (ds.length ≤ 1000) && smallAll ds
  | _ => true
def smallAll : List PyData → Bool
  | [] => true
  | d :: ds => small d && smallAll ds
end
theorem smallAll_get : ∀ {ds : List PyData} {i : Nat} {d : PyData}, smallAll ds = true → ds[i]? = some d → small d = true
  | [], _, _, _, h => by cases h
  | e :: ds, 0, d, h, q => by
    have h : (small e && smallAll ds) = true := h
    have q : e = d := Option.some.inj q
    rw [Bool.and_eq_true] at h
    rw [← q]; exact h.1
  | e :: ds, i + 1, d, h, q => by
    have h : (small e && smallAll ds) = true := h
    rw [Bool.and_eq_true] at h
    exact smallAll_get h.2 (by simpa using q)
theorem small_tuple {ds : List PyData} (h : small (.tuple ds) = true) : ds.length ≤ 1000 ∧ smallAll ds = true := by
  have h : (decide (ds.length ≤ 1000) && smallAll ds) = true := h
  rw [Bool.and_eq_true] at h
  exact ⟨of_decide_eq_true h.1, h.2⟩
theorem lt_one (a c : Nat) : [a] < [c] ↔ a < c := by
  rw [List.cons_lt_cons_iff]
  constructor
  · rintro (h | ⟨_, h⟩)
    · exact h
    · exact absurd h (by simp)
  · exact .inl
theorem not_dec {p q : Prop} [Decidable p] [Decidable q] (h : ¬ p ↔ q) : (!decide p) = decide q := by
  by_cases hp : p
  · rw [decide_eq_true hp, decide_eq_false (fun z => h.mpr z hp)]; rfl
  · rw [decide_eq_false hp, decide_eq_true (h.mp hp)]; rfl
theorem le_one (c a : Nat) (x : Str) (hx : x.cps.toList = [a]) : (!decide ((⟨#[c]⟩ : Str).cps.toList < x.cps.toList)) = decide (a ≤ c) := by
  rw [hx]
  exact not_dec (by show ¬ [c] < [a] ↔ _; rw [lt_one]; omega)
theorem one_le (c a : Nat) (x : Str) (hx : x.cps.toList = [a]) : (!decide (x.cps.toList < (⟨#[c]⟩ : Str).cps.toList)) = decide (c ≤ a) := by
  rw [hx]
  exact not_dec (by show ¬ [a] < [c] ↔ _; rw [lt_one]; omega)
/-! ### promises -/
def spSign : Sp := fun vs H Q _ => ∃ c : Nat, vs = [.str ⟨#[c]⟩] ∧ Q (.bl (signB c)) H
def spLine (K : PySem.W.Frag) : Sp := fun vs H Q _ => ∃ (d : PyData) (v : V), vs = [v] ∧ Dw K H d v ∧ small d = true ∧ ∀ H', Same H H' → Q (.bl (lineD d)) H'
def spLines (K : PySem.W.Frag) : Sp := fun vs H Q _ => ∃ (d : PyData) (v : V), vs = [v] ∧ Dw K H d v ∧ small d = true ∧ ∀ H', Same H H' → Q (.bl (linesD d)) H'
def spLabel (K : PySem.W.Frag) : Sp := fun vs H Q _ => ∃ (d : PyData) (v : V), vs = [v] ∧ Dw K H d v ∧ small d = true ∧ ∀ H', Same H H' → Q (.bl (labelD d)) H'

theorem all_take_succ {α : Type} {l : List α} {f : α → Bool} {i : Nat} {c : α} (h : l[i]? = some c) : (l.take (i + 1)).map f = (l.take i).map f ++ [f c] := by
  rw [List.take_add_one, h, List.map_append]
  rfl
theorem cs_get {x : Str} {i c : Nat} (h : x.cps[i]? = some c) : (cs x)[i]? = some c := by rw [← h]; simp
theorem all_map (l : List α) (f : α → Bool) : (l.map f).all id = l.all f := by
  rw [List.all_map]; rfl
end An

set_option Elab.async false
set_option linter.all false
set_option maxRecDepth 100000
set_option maxHeartbeats 4000000
/-! texts that are cut at strokes: paths, their labels, their folders -/
namespace An
open PySem L2
def stroke : Str := ⟨#[47]⟩
theorem stroke_is : ("/" : Str) = stroke := by decide +kernel
def jn : List (List Nat) → List Nat
  | [] => []
  | [x] => x
  | x :: y :: r => x ++ 47 :: jn (y :: r)
def spl : List Nat → List (List Nat)
  | [] => [[]]
  | c :: r => if c = 47 then [] :: spl r else match spl r with
    | [] => [[c]]
    | p :: ps => (c :: p) :: ps
theorem spl_ne : ∀ l, spl l ≠ []
  | [] => by simp [spl]
  | c :: r => by
    unfold spl
    split
    · simp
    · split <;> simp
theorem jn_cons {x : List Nat} {r : List (List Nat)} (h : r ≠ []) : jn (x :: r) = x ++ 47 :: jn r := by
  cases r with
  | nil => exact absurd rfl h
  | cons y r => rfl
theorem jn_spl : ∀ l, jn (spl l) = l
  | [] => rfl
  | c :: r => by
    have ih := jn_spl r
    unfold spl
    split
    · rename_i e
      rw [jn_cons (spl_ne r), ih, e]; rfl
    · cases q : spl r with
      | nil => exact absurd q (spl_ne r)
      | cons p ps =>
        rw [q] at ih
        cases ps with
        | nil => show c :: p = _; rw [show p = r from ih]
        | cons y ps =>
          show (c :: p) ++ 47 :: jn (y :: ps) = _
          rw [← ih]; rfl
theorem spl_app : ∀ (a b : List Nat), spl (a ++ 47 :: b) = spl a ++ spl b
  | [], b => by
    show (if 47 = 47 then [] :: spl b else _) = [[]] ++ spl b
    rw [if_pos rfl]; rfl
  | c :: a, b => by
    have ih := spl_app a b
    show spl (c :: (a ++ 47 :: b)) = _
    rw [spl, spl, ih]
    split
    · rfl
    · cases q : spl a with
      | nil => exact absurd q (spl_ne a)
      | cons p ps => rfl
theorem spl_free : ∀ {p : List Nat}, 47 ∉ p → spl p = [p]
  | [], _ => rfl
  | c :: p, h => by
    have ih := spl_free (p := p) fun z => h (List.mem_cons_of_mem _ z)
    unfold spl
    rw [if_neg (fun z => h (by rw [z]; exact List.mem_cons_self)), ih]
theorem spl_jn : ∀ {ps : List (List Nat)}, ps ≠ [] → (∀ p ∈ ps, 47 ∉ p) → spl (jn ps) = ps
  | [], h, _ => absurd rfl h
  | [p], _, h => spl_free (h p List.mem_cons_self)
  | p :: q :: r, _, h => by
    rw [jn_cons (by simp), spl_app, spl_free (h p List.mem_cons_self), spl_jn (ps := q :: r) (by simp) fun x hx => h x (List.mem_cons_of_mem _ hx)]
    rfl
theorem jn_app : ∀ {a b : List (List Nat)}, a ≠ [] → b ≠ [] → jn (a ++ b) = jn a ++ 47 :: jn b
  | [], _, h, _ => absurd rfl h
  | [x], b, _, hb => jn_cons hb
  | x :: y :: r, b, _, hb => by
    show x ++ 47 :: jn ((y :: r) ++ b) = (x ++ 47 :: jn (y :: r)) ++ 47 :: jn b
    rw [jn_app (a := y :: r) (by simp) hb]
    simp
theorem jn_len : ∀ {ps : List (List Nat)} {p : List Nat}, p ∈ ps → p.length ≤ (jn ps).length
  | [], _, h => by cases h
  | [x], p, h => by rw [List.mem_singleton.mp h]; exact Nat.le_refl _
  | x :: y :: r, p, h => by
    show _ ≤ (x ++ 47 :: jn (y :: r)).length
    rw [List.length_append, List.length_cons]
    rcases List.mem_cons.mp h with rfl | h
    · omega
    · have := jn_len h; omega
theorem jn_cnt : ∀ {ps : List (List Nat)}, ps.length ≤ (jn ps).length + 1
  | [] => by simp
  | [x] => by simp
  | x :: y :: r => by
    show _ ≤ (x ++ 47 :: jn (y :: r)).length + 1
    have := jn_cnt (ps := y :: r)
    have e1 : (x ++ 47 :: jn (y :: r)).length = x.length + ((jn (y :: r)).length + 1) := by rw [List.length_append, List.length_cons]
    have e2 : (x :: y :: r).length = (y :: r).length + 1 := List.length_cons
    omega
/-- what begins with p and a stroke -/
theorem over_iff {l p : List Nat} : (∃ t, l = p ++ 47 :: t) ↔ ∃ i, i + 1 < (spl l).length ∧ p = jn ((spl l).take (i + 1)) := by
  constructor
  · rintro ⟨t, rfl⟩
    rw [spl_app]
    have h1 : 0 < (spl p).length := List.length_pos_iff.mpr (spl_ne p)
    have h2 : 0 < (spl t).length := List.length_pos_iff.mpr (spl_ne t)
    refine ⟨(spl p).length - 1, by rw [List.length_append]; omega, ?_⟩
    rw [show (spl p).length - 1 + 1 = (spl p).length by omega, List.take_left, jn_spl]
  · rintro ⟨i, hi, rfl⟩
    refine ⟨jn ((spl l).drop (i + 1)), ?_⟩
    rw [← jn_app, List.take_append_drop, jn_spl]
    · intro z
      have := congrArg List.length z
      rw [List.length_take, List.length_nil] at this
      omega
    · intro z
      have := congrArg List.length z
      rw [List.length_drop, List.length_nil] at this
      omega
/-! ### as texts -/
def ofL (l : List Nat) : Str := ⟨l.toArray⟩
theorem cs_ofL (l : List Nat) : cs (ofL l) = l := by simp [ofL, cs]
theorem ofL_cs (x : Str) : ofL (cs x) = x := cs_inj (cs_ofL _)
theorem cs_join : ∀ ys : List Str, cs (Txt.join "/" ys) = jn (ys.map cs) := by
  intro ys
  have e : Txt.join "/" ys = Str.join "/" ys := StrLaws.glued_eq_join "/" ys
  rw [e]
  clear e
  induction ys with
  | nil => rfl
  | cons x r ih =>
    cases r with
    | nil => rfl
    | cons y r =>
      show cs (x ++ "/" ++ Str.join "/" (y :: r)) = cs x ++ 47 :: jn ((y :: r).map cs)
      have : cs ("/" : Str) = [47] := by decide +kernel
      rw [cs_append, cs_append, ih, this]
      simp
theorem split_is (x : Str) : Txt.split x "/" = (spl (cs x)).map ofL := by
  have h1 : cs (Str.join "/" (Txt.split x "/")) = cs x := by rw [StrLaws.join_split]
  have e : Txt.join "/" (Txt.split x "/") = Str.join "/" (Txt.split x "/") := StrLaws.glued_eq_join "/" _
  rw [← e, cs_join] at h1
  have hne : Txt.split x "/" ≠ [] := by
    unfold Txt.split
    split
    · simp
    · split
      · simp
      · unfold Builtin.Str.partsBetween
        intro z
        have := congrArg List.length z
        simp at this
  have h2 := spl_jn (ps := (Txt.split x "/").map cs) (by simpa using hne) (fun p hp => by
    obtain ⟨y, hy, rfl⟩ := List.mem_map.mp hp
    rw [stroke_is] at hy
    exact StrLaws.split_free x 47 y hy)
  rw [h1] at h2
  rw [h2, List.map_map]
  have : (ofL ∘ cs) = (id : Str → Str) := funext ofL_cs
  rw [this, List.map_id]
/-- the labels of a text -/
def labs (x : Str) : List Str := Txt.split x "/"
theorem labs_cs (x : Str) : (labs x).map cs = spl (cs x) := by
  unfold labs
  rw [split_is, List.map_map]
  have : (cs ∘ ofL) = (id : List Nat → List Nat) := funext cs_ofL
  rw [this, List.map_id]
theorem labs_len {x y : Str} (h : y ∈ labs x) : y.length ≤ x.length := by
  rw [length_cs, length_cs, ← jn_spl (cs x), ← labs_cs]
  exact jn_len (List.mem_map_of_mem h)
theorem labs_cnt (x : Str) : (labs x).length ≤ x.length + 1 := by
  have := jn_cnt (ps := spl (cs x))
  rw [jn_spl, ← labs_cs, List.length_map] at this
  rw [length_cs]; exact this
theorem labs_pos (x : Str) : 0 < (labs x).length := by
  have := List.length_pos_iff.mpr (spl_ne (cs x))
  rw [← labs_cs, List.length_map] at this
  exact this
theorem labs_join {ys : List Str} (h : ys ≠ []) (hf : ∀ y ∈ ys, 47 ∉ cs y) : labs (Txt.join "/" ys) = ys := by
  have : (labs (Txt.join "/" ys)).map cs = ys.map cs := by
    rw [labs_cs, cs_join, spl_jn (by simpa using h)]
    intro p hp
    obtain ⟨y, hy, rfl⟩ := List.mem_map.mp hp
    exact hf y hy
  have inj : ∀ {a b : List Str}, a.map cs = b.map cs → a = b := by
    intro a
    induction a with
    | nil =>
      intro b e
      cases b with
      | nil => rfl
      | cons _ _ => cases e
    | cons x a ih =>
      intro b e
      cases b with
      | nil => cases e
      | cons y b =>
        rw [List.map_cons, List.map_cons] at e
        injection e with e1 e2
        rw [cs_inj e1, ih e2]
  exact inj this
def pathB (x : Str) : Bool := decide ((labs x).length ≤ 4) && (labs x).all labelB
def pathD : PyData → Bool
  | .str x => pathB x
  | _ => false
theorem label_free {y : Str} (h : labelB y = true) : 47 ∉ cs y := by
  unfold labelB at h
  rw [Bool.and_eq_true] at h
  intro z
  exact absurd (List.all_eq_true.mp h.2 47 z) (by decide)
theorem path_join {ys : List Str} (h0 : ys ≠ []) (h4 : ys.length ≤ 4) (h : ∀ y ∈ ys, labelB y = true) : pathB (Txt.join "/" ys) = true := by
  unfold pathB
  rw [labs_join h0 fun y hy => label_free (h y hy), decide_eq_true h4, List.all_eq_true.mpr h]; rfl
/-- the folders of a text -/
def fols (x : Str) : List Str := (List.range ((labs x).length - 1)).map fun i => Txt.join "/" ((labs x).take (i + 1))
def overB (p q : Str) : Bool := Txt.startswith q (p ++ "/")
theorem over_cs {p q : Str} : overB p q = true ↔ ∃ t, cs q = cs p ++ 47 :: t := by
  unfold overB Txt.startswith
  rw [StrLaws.subAt_eq, List.drop_zero, Nat.zero_add, Bool.and_eq_true, decide_eq_true_eq, beq_iff_eq]
  have e : (p ++ "/" : Str).cps.toList = cs p ++ [47] := by
    have : cs ("/" : Str) = [47] := by decide +kernel
    show cs (p ++ "/") = _
    rw [cs_append, this]
  have el : (p ++ "/" : Str).length = (cs p).length + 1 := by
    rw [length_cs]
    show (cs (p ++ "/")).length = _
    rw [show cs (p ++ "/") = cs p ++ [47] from e, List.length_append]; rfl
  rw [e, el]
  constructor
  · rintro ⟨h1, h2⟩
    refine ⟨(cs q).drop ((cs p).length + 1), ?_⟩
    have := List.take_append_drop ((cs p).length + 1) (cs q)
    rw [h2, List.append_assoc] at this
    exact this.symm
  · rintro ⟨t, h⟩
    rw [length_cs, h]
    refine ⟨by simp, ?_⟩
    show (cs q).take _ = _
    rw [h]
    rw [show cs p ++ 47 :: t = (cs p ++ [47]) ++ t by simp]
    rw [List.take_left' (by simp)]
theorem fols_iff {p q : Str} : p ∈ fols q ↔ overB p q = true := by
  rw [over_cs, over_iff]
  unfold fols
  rw [List.mem_map]
  have hl : (spl (cs q)).length = (labs q).length := by rw [← labs_cs, List.length_map]
  constructor
  · rintro ⟨i, hi, rfl⟩
    have := List.mem_range.mp hi
    refine ⟨i, by omega, ?_⟩
    rw [cs_join, List.map_take, labs_cs]
  · rintro ⟨i, hi, h⟩
    refine ⟨i, List.mem_range.mpr (by omega), cs_inj ?_⟩
    rw [cs_join, List.map_take, labs_cs, h]
theorem not_over_self (p : Str) : overB p p = false := by
  rw [Bool.eq_false_iff]
  intro h
  obtain ⟨t, e⟩ := over_cs.mp h
  have := congrArg List.length e
  simp at this
theorem fol_len {p q : Str} (h : p ∈ fols q) : p.length ≤ q.length := by
  obtain ⟨t, e⟩ := over_cs.mp (fols_iff.mp h)
  rw [length_cs, length_cs, e, List.length_append]; omega
end An

set_option Elab.async false
set_option linter.all false
set_option maxRecDepth 100000
set_option maxHeartbeats 4000000
/-! exceptions over the hand layer: raise of an own class, a call that may raise, try with one clause -/
namespace L2
open PySem PySem.Spec PyProof.Rows

theorem ObjOk.there {P : Program} {w : World} {H : Hp} {h : Heap} {a : Addr} {o : HO} (x : ObjOk P w H h a o) : ∃ ob, h.get? a = some ob := by
  cases o with
  | lst xs => obtain ⟨_, _, _, _, e⟩ := x; exact ⟨_, e⟩
  | tup xs => obtain ⟨_, _, _, ob, e, _⟩ := x; exact ⟨_, e⟩
  | dK kvs => obtain ⟨_, _, _, _, ob, _, _, e, _⟩ := x; exact ⟨_, e⟩
  | dT kvs => obtain ⟨_, _, _, _, ob, _, _, e, _⟩ := x; exact ⟨_, e⟩
  | set S n => obtain ⟨ob, _, _, _, e, _⟩ := x; exact ⟨_, e⟩
  | ins C dx fs => obtain ⟨_, _, _, e, _⟩ := x; exact ⟨_, e⟩
  | own y => exact x
  | xd fs => obtain ⟨_, ⟨_, _, _, e, _⟩, _⟩ := x; exact ⟨_, e⟩
  | rng lo hi => obtain ⟨_, _, _, e⟩ := x; exact ⟨_, e⟩
  | frz ob u => obtain ⟨e, _⟩ := x; exact ⟨_, e⟩
  | tbl ps => exact ⟨_, (show h.get? a = some _ from x)⟩
  | met f y => exact ⟨_, (show h.get? a = some _ from x)⟩
  | ext φ => obtain ⟨_, e, _⟩ := x; exact e

/-- an exception at a, its traceback at T -/
def ExcAt (h : Heap) (a T : Addr) (cls : Value) : Prop :=
  ∃ a0 oe vs oT ts, h.get? a = some oe ∧ (oe.cls = cls ∧ vs[0]? = some a0) ∧ oe.data = .fields vs ∧ vs[1]? = some (.ref T) ∧ T ≠ a ∧ h.get? T = some oT ∧ oT.data = .fields ts ∧ ts[3]? = some .none
/-- how an exception lies behind a call -/
def CXF (P : Program) (w : World) : CXT := fun outer H s E e s' => ∃ a T cls H', e = .ref a ∧ s'.os = s.os ∧ AllBare s'.gens ∧ Un (frs outer) [] H H' s.heap s'.heap ∧ HOk P w H' s'.heap ∧
  s.heap.get? a = none ∧ s.heap.get? T = none ∧ H' a = none ∧ H' T = none ∧ ExcAt s'.heap a T cls ∧ E cls none H'

section
variable {X : Cx} {pins : List (Addr × Obj)} {σ : St} {H : Hp} {s : Shared}
theorem Inv.none_of (I : Inv X pins σ H s) {a : Addr} (e : s.heap.get? a = none) : H a = none := by
  cases q : H a with
  | none => rfl
  | some u =>
    obtain ⟨ob, z⟩ := (I.hok a u q).there
    rw [e] at z; cases z
theorem Inv.old_none (I : Inv X pins σ H s) (hex : X.ex = []) {a : Addr} (e : s.heap.get? a = none) : X.s₀.heap.get? a = none := by
  cases q : X.s₀.heap.get? a with
  | none => rfl
  | some o =>
    obtain ⟨ob, z⟩ := I.base.there a o q (by rw [hex]; simp)
    rw [e] at z; cases z
/-- the whole heap but some records and the frames -/
abbrev hidF (h : Heap) (as : List Addr) (l : List Env) : Heap := PySem.W.hideAll h (as ++ frs l)
theorem hidF_frames {h : Heap} {as : List Addr} {base : Heap} {l : List Env} (f : h.FunFrames base l) : h.FunFrames (hidF h as l) l :=
  PySem.W.funFrames_hide f fun env he b hb => List.mem_append_right _ (List.mem_filterMap.mpr ⟨env, he, hb⟩)
theorem hidF_stays {h : Heap} {as : List Addr} {l : List Env} : (hidF h as l).StaysIn h := fun _ _ q => PySem.W.of_hideAll _ q

/-- a made exception leaves the def's frame -/
theorem raise_leaves (hst : X.stack = X.env :: X.outer) (hfr : X.env.frame = some X.env.locals) (hex : X.ex = []) (I : Inv X pins σ H s) {e : Addr} {cls : Value} {args : List Value} {h' : Heap} (hx : Heap.MadeExcOf s.heap h' e cls args) {E : XK} (q : E cls none H)
    {Ex : Value → Shared → Prop} : wpAny (model X.prog X.w) X.A (leaving X.env (.ref e)) (fun _ s'' => CXF X.prog X.w X.outer X.H₀ X.s₀ E (.ref e) s'') Ex { s with heap := h' } := by
  have fr := hidF_frames (as := []) I.stack
  have hA : X.A.frames = some (X.env :: X.outer) := by rw [I.ok.frames, hst]
  obtain ⟨t, he, htn, ht⟩ := hx.there
  have fresh : ∀ b, s.heap.get? b = none → (hidF s.heap [] X.stack).get? b = none := fun b hb => by
    cases hq : (hidF s.heap [] X.stack).get? b with
    | none => rfl
    | some o' => have := hidF_stays b o' hq; rw [hb] at this; cases this
  rw [hst] at fr
  refine wpAny_leaving_firstW (base := hidF s.heap [] X.stack) (a0 := .ref t) hA ((by rw [hst]; exact fr : s.heap.FunFrames (hidF s.heap [] X.stack) (X.env :: X.outer)).of_keeps fun b o hb _ => ⟨o, hx.keeps b o hb, rfl⟩) hfr he (fun b o hb => hx.keeps b o (hidF_stays b o hb)) (fresh e hx.new) rfl rfl rfl fun h2 L => ?_
  obtain ⟨k1, k2, ⟨oe, vs, T, oT, ts, t1, t2, t3, t4, t5, t6, t7, t8, t9⟩, k4⟩ := L
  have stk : ∀ b ∈ frs X.stack, H b = none := I.stkFree
  have kp : ∀ b o, s.heap.get? b = some o → b ∉ frs X.stack → h2.get? b = some o := fun b o e hb => k1 b o (PySem.W.hideAll_get _ e (by simpa using hb))
  have sl : ∀ b o, s.heap.get? b = some o → b ∈ frs X.stack → ∃ sl, h2.get? b = some { o with slots := sl } := fun b o e hb => by
    obtain ⟨_, o', ho', hd⟩ := I.stack.mem hb
    rw [e] at ho'; cases ho'
    exact k4 b o (hx.keeps b o e) hd
  have nL : ∀ b o, X.s₀.heap.get? b = some o → b ≠ X.env.locals := fun b o e => Nat.ne_of_lt (Nat.lt_of_lt_of_le (Heap.lt_size e) I.ok.above)
  have nex : ∀ b, b ∉ X.ex := fun b => by rw [hex]; simp
  have nT : s.heap.get? T = none := by
    cases qT : s.heap.get? T with
    | none => rfl
    | some o =>
      exfalso
      by_cases hT : T ∈ frs X.stack
      · have k2' : h2.FunFrames (hidF s.heap [] X.stack) X.stack := by have z := k2; rw [← hst] at z; exact z
        obtain ⟨_, o', ho', hd⟩ := k2'.mem hT
        rw [t7] at ho'; cases ho'
        exact hd _ t8
      · have z : (hidF s.heap [] X.stack).get? T = some o := PySem.W.hideAll_get _ qT (by simpa using hT)
        rw [t5] at z; cases z
  refine ⟨e, T, cls, H, rfl, I.os, I.bare, ⟨fun b o e1 n hb _ => ?_, fun b o e1 n hb _ => ?_, fun b o e1 n _ => I.base.free b o e1 n (nex b), fun b o e1 _ => ?_, I.base.tups, I.base.frzs, I.base.tbls⟩, fun b u e1 => ?_, I.old_none hex hx.new, I.old_none hex nT, I.none_of hx.new, I.none_of nT, ⟨_, oe, vs, oT, ts, t1, t2, t3, t4, t6, t7, t8, t9⟩, q⟩
  · refine kp b o (I.base.keep b o e1 n hb (nex b)) fun z => ?_
    rcases List.mem_cons.mp (I.stkSub b z) with r | r
    · exact nL b o e1 r
    · exact hb r
  · obtain ⟨sl1, e2⟩ := I.base.slot b o e1 n hb (nex b)
    by_cases hz : b ∈ frs X.stack
    · obtain ⟨sl2, e3⟩ := sl b _ e2 hz
      exact ⟨sl2, e3⟩
    · exact ⟨sl1, kp b _ e2 hz⟩
  · obtain ⟨o', e2⟩ := I.base.there b o e1 (nex b)
    by_cases hz : b ∈ frs X.stack
    · obtain ⟨sl2, e3⟩ := sl b _ e2 hz
      exact ⟨_, e3⟩
    · exact ⟨o', kp b _ e2 hz⟩
  · refine (I.hok b u e1).stay (fun c v hc r => kp c v r fun z => ?_) (fun _ r => r) fun _ _ r => r
    have hz := stk c z
    rcases hc with y | y
    · rw [y, e1] at hz; cases hz
    · rw [y] at hz; cases hz
end

/-! ### raise C(..) -/
/-- an own class of exceptions, straight or by way of others under B, without an __init__ of its own -/
theorem exc_of_in {K : PySem.W.Frag} {h : Heap} {C : Addr} {bmB : List Value} {newId : String} (X : K.In h) (q : PySem.W.excIn K C bmB newId = true) :
    ∃ bm N nm q bs hdct sn sub ab col dd k0 k1 k2 k3 k5 mN, h.get? C = some (excClassObj nm q C N bs bm hdct sn sub ab col dd k0 k1 k2 k3 k5 newId) ∧ h.Ns N mN ∧ mN "__init__" = none ∧ OwnTail h bmB bm := by
  unfold PySem.W.excIn at q
  split at q
  · rename_i dd cd sl ho
    split at q
    · rename_i C' bm k0 k1 k2 k3 n k5 hm hs
      simp only [Bool.and_eq_true, beq_iff_eq, Bool.not_eq_true'] at q
      obtain ⟨⟨⟨⟨⟨rfl, rfl⟩, hdel⟩, ht⟩, hok⟩, hni⟩ := q
      obtain ⟨nm, bs, mro, ns, qn, hd, sn, sub, ab, col, del⟩ := cd
      dsimp only at hm hdel hok hni
      subst hm hdel
      have hsl : sl = #[k0, k1, k2, k3, some (.builtin n), k5] := by
        obtain ⟨l⟩ := sl
        simp only at hs
        rw [hs]
      subst hsl
      exact ⟨bm, ns, nm, qn, bs, hd, sn, sub, ab, col, dd, k0, k1, k2, k3, k5, _, X _ _ ho, .of_isNs (PySem.W.isNs_of_in X hok), PySem.W.nsMap_none_of_in X hok hni, PySem.W.tail_of_in X ht⟩
    · cases q
  · cases q
abbrev mroVE : List Value := [.type "ValueError", .type "Exception", .type "BaseException", .type "object"]
/-- what is wanted where an exception is made here -/
def Throws (X : Cx) (R : St → Hp → Value → Prop) : Prop := ∀ (pins : List (Addr × Obj)) (σ : St) (H : Hp) (s : Shared) (e : Addr) (cls : Value) (args : List Value) (h' : Heap), Inv X pins σ H s → Heap.MadeExcOf s.heap h' e cls args → R σ H cls → X.xe (.ref e) { s with heap := h' }
def tRaise (C : Addr) (R : St → Hp → Value → Prop) (t : TA) : TS := fun _ σ H => t σ H fun vs H1 => vs.length ≤ sizeLine ∧ R σ H1 (.ref C)
section
variable {X : Cx}
theorem ps_raise {x : Str} {C : Addr} {e₀ : Expr} {rest : List Expr} {np cpos pos : Pos} {R : St → Hp → Value → Prop} {t : TA} (hc : X.calm = true) (ht : Throws X R) (hg : Gl X x) (hm : X.mg x = some (.ref C)) (hex : PySem.W.excIn X.K C mroVE "ValueError.__new__" = true) (ha : PA X (e₀ :: rest) t)
    (he : starEach (e₀ :: rest) X.env = (false, eval e₀ X.env) :: starEach rest X.env := by rfl) (hplain : (backTo cpos (starEach rest X.env)).any (·.1) = false := by rfl) (hd : (x == ("__debug__" : Str)) = false := by decide) :
    PS X (.Raise (some (.Call (.Name x np) (e₀ :: rest) [] cpos)) none pos) (tRaise C R t) := by
  intro pins s σ H D I h
  obtain ⟨tl, N, nm, q, bs, hdct, sn, sub, ab, col, dd, k0, k1, k2, k3, k5, mN, hC, hN, hni, T⟩ := exc_of_in I.ok.mod.kin hex
  refine wpAny_Raise_call_subU (C := C) (nm := nm) (q := q) (N := N) (bs := bs) (bm := tl) (hdct := hdct) (sn := sn) (sub := sub) (ab := ab) (col := col) (dd := dd) (k0 := k0) (k1 := k1) (k2 := k2) (k3 := k3) (k5 := k5)
    F.excBase_ValueError (by decide +kernel) F.excBase_ValueError (mN := mN) (T.hasType F.excBase_ValueError.hasBase) (I.ok.hd hc) (by rw [he]; show (false || (backTo cpos (starEach rest X.env)).any (·.1)) = false; rw [hplain]; rfl) hni (ld_glob I hg hm ⟨rfl, ?_⟩ hd)
  have ha' := ha cpos pins s σ H _ I h
  rw [he] at ha' ⊢
  exact Calls.evalArgs_plain (wpAny_mono ha' (fun us s₂ ⟨vs, H2, I2, r2, z2, q2⟩ => ⟨rfl, by rw [← r2.length]; exact z2, I2.bk _ _ hC, hN.keeps I2.bk, T.keeps I2.bk, fun h' e hm' => ht pins σ H2 s₂ e _ _ h' I2 hm' q2⟩) fun _ _ y => y)
/-- a def's body: what it raises leaves it -/
theorem throws_fn {P : Program} {w : World} {K : PySem.W.Frag} {mg : Str → Option Value} {base : Heap} {N : List Str} {qual : Str} {scope : Scope} {f : Addr} {cd : Value} {A : Around} {outer : List Env} {s : Shared} {H : Hp} {E : XK} :
    Throws (cxOf (CXF P w) P w K mg base N qual scope f cd A outer s H E) (fun _ H' cls => E cls none H') :=
  fun _ _ _ _ _ _ _ _ I hx q => raise_leaves rfl rfl rfl I hx q
end

/-! ### a call that may raise -/
def Raises (X : Cx) (R : St → Hp → Value → Prop) : Prop := ∀ (pins : List (Addr × Obj)) (σ : St) (H : Hp) (s : Shared) (e : Value) (s' : Shared), Inv X pins σ H s → CXF X.prog X.w X.stack H s (fun cls _ H' => R σ H' cls) e s' → X.xe e s'
def tCallX (sp : Sp) (R : St → Hp → Value → Prop) (t : TA) : TE := fun σ H Q => t σ H fun vs H1 => sp vs H1 Q (fun cls _ H' => R σ H' cls)
section
variable {X : Cx} {k : Nat} {f : Addr} {fd : FuncData} {ps : List Str} {sp : Sp} {x : Str} {p pos : Pos} {e : Expr} {es : List Expr} {t : TA} {R : St → Hp → Value → Prop}
theorem run_fnX {pins : List (Addr × Obj)} {σ : St} {H : Hp} {s : Shared} {Q : VK} {us : List Value} {vs : List V} (F : FnOk X.prog X.w X.K X.mg X.base (CXF X.prog X.w) k f fd ps sp) (hr : Room k X.A) (hb : Binds X.K fd ps []) (hx : Raises X R)
    (I : Inv X pins σ H s) (r : Vals vs us) (h : sp vs H Q (fun cls _ H' => R σ H' cls)) : wpAny (model X.prog X.w) X.A (call (.ref f) us) (EP X pins σ Q) X.xe s := by
  have hl : us.length = ps.length := by rw [← r.length]; exact F.len _ _ _ _ h
  have hb' := hb s us I.kIn (by simpa using hl)
  rw [List.append_nil] at hb'
  refine wpAny_call (codeAny_mono (F.run X.A X.stack s H ⟨us, []⟩ us vs Q _ hr I.env0 hb' r h) fun r s' hq => ?_)
  cases r with
  | error e => exact hx pins σ H s e s' I hq
  | ok fl =>
    cases fl with
    | ret u => exact I.after hq
    | next => exact False.elim hq
    | brk => exact False.elim hq
    | cont => exact False.elim hq
/-- a def of the text that may raise -/
structure CalX (P : Program) (w : World) (K : PySem.W.Frag) (mg : Str → Option Value) (base : Heap) (k : Nat) (x : Str) (ps : List Str) (sp : Sp) : Prop where
  ex : ∃ (f : Addr) (fd : FuncData), FnOk P w K mg base (CXF P w) k f fd ps sp ∧ mg x = some (.ref f) ∧ PySem.W.keepIn K (.ref f) = true ∧ Binds K fd ps []
theorem pe_callX (C : CalX X.prog X.w X.K X.mg X.base k x ps sp) (hr : Room k X.A) (hx : Raises X R) (ha : PA X (e :: es) t) (hg : Gl X x := by rfl)
    (hdb : (x == ("__debug__" : Str)) = false := by decide) (he : starEach (e :: es) X.env = (false, eval e X.env) :: starEach es X.env := by rfl) (hpl : (backTo pos (starEach es X.env)).any (·.1) = false := by rfl) :
    PE X (.Call (.Name x p) (e :: es) [] pos) (tCallX sp R t) := by
  obtain ⟨f, fd, F, hm, hk, hb⟩ := C.ex
  intro pins s σ H Q I h
  refine wpAny_Call_Name_kw (ld_glob I hg hm ?_ hdb)
  refine PySem.W.callWith_K (h₀ := X.base) I.ok.mod.kin hk (thn (ha pos pins s σ H _ I h) fun us s1 ⟨vs, H1, I1, r, q⟩ => ⟨I1.kIn, ?_⟩) he hpl
  exact run_fnX F hr hb hx I1 r q
end
end L2

set_option Elab.async false
set_option linter.all false
set_option maxRecDepth 100000
set_option maxHeartbeats 4000000
namespace L2
open PySem PySem.Spec PyProof.Rows

/-- a record in nobody's hand that came behind the entry -/
def Fr1 (X : Cx) (pins : List (Addr × Obj)) (H : Hp) (b : Addr) : Prop :=
  H b = none ∧ X.s₀.heap.get? b = none ∧ b ≠ X.env.locals ∧ (∀ x c, X.env.cells.lookup x = some c → c ≠ b) ∧ ∀ p ∈ X.pn ++ pins, p.1 ≠ b
section
variable {X : Cx} {pins pins' : List (Addr × Obj)} {σ : St} {H : Hp} {s : Shared} {h' : Heap} {R : St → Hp → Value → Prop}
theorem Inv.fr1 (I : Inv X pins σ H s) (hex : X.ex = []) {H' : Hp} {b : Addr} (e : s.heap.get? b = none) (n : H' b = none) : Fr1 X pins H' b := by
  refine ⟨n, I.old_none hex e, fun z => ?_, fun x c q z => ?_, fun p hp z => ?_⟩
  · obtain ⟨m, ⟨o, _, _, ho, _⟩, _⟩ := I.loc
    rw [← z, e] at ho; cases ho
  · obtain ⟨v, o, ho, _⟩ := I.cell x c q
    rw [z, e] at ho; cases ho
  · have ho := (I.pin p hp).1
    rw [z, e] at ho; cases ho
/-- records turned, slots of frames changed -/
theorem Inv.land {ch : List Addr} (I : Inv X pins σ H s) (hch : ∀ b ∈ ch, Fr1 X pins H b) (k1 : (hidF s.heap ch X.stack).StaysIn h') (k2 : s.heap.UpToSlots h') (tk : Nat) : Inv X pins σ H { s with heap := h', toks := tk } := by
  have kp : ∀ b o, s.heap.get? b = some o → b ∉ ch → b ∉ frs X.stack → h'.get? b = some o := fun b o e hc hb => k1 b o (PySem.W.hideAll_get _ e (by
    intro z
    rcases List.mem_append.mp z with z | z
    · exact hc z
    · exact hb z))
  have any : ∀ b o, s.heap.get? b = some o → b ∉ ch → ∃ sl, h'.get? b = some { o with slots := sl } := fun b o e hc => by
    by_cases hb : b ∈ frs X.stack
    · obtain ⟨_, o', ho', hd⟩ := I.stack.mem hb
      rw [e] at ho'; cases ho'
      exact k2 b o e hd
    · exact ⟨o.slots, kp b o e hc hb⟩
  have nst : ∀ b, b ≠ X.env.locals → b ∉ X.fs → b ∉ frs X.stack := fun b h1 h2 z => (List.mem_cons.mp (I.stkSub b z)).elim h1 h2
  have nL : ∀ b o, X.s₀.heap.get? b = some o → b ≠ X.env.locals := fun b o e => Nat.ne_of_lt (Nat.lt_of_lt_of_le (Heap.lt_size e) I.ok.above)
  have nch : ∀ b o, X.s₀.heap.get? b = some o → b ∉ ch := fun b o e z => by rw [(hch b z).2.1] at e; cases e
  have cellK : ∀ c v, s.heap.IsCell c v → h'.IsCell c v := fun c v ⟨o, ho, hd⟩ => by
    obtain ⟨sl, e⟩ := k2 c o ho fun vs z => by rw [hd] at z; cases z
    exact ⟨_, e, hd⟩
  refine ⟨I.ok, I.os, I.bare, ⟨fun b o e n hb hx => ?_, fun b o e n hb hx => ?_, I.base.free, fun b o e hx => ?_, I.base.tups, I.base.frzs, I.base.tbls⟩, ?_, fun x c e => ?_, I.free, I.freeC, fun p hp => ?_, fun b u e => ?_, I.len⟩
  · exact kp b o (I.base.keep b o e n hb hx) (nch b o e) (nst b (nL b o e) hb)
  · obtain ⟨sl, e1⟩ := I.base.slot b o e n hb hx
    obtain ⟨sl', e2⟩ := any b _ e1 (nch b o e)
    exact ⟨sl', e2⟩
  · obtain ⟨o', e1⟩ := I.base.there b o e hx
    obtain ⟨sl', e2⟩ := any b _ e1 (nch b o e)
    exact ⟨_, e2⟩
  · obtain ⟨m, hn, hl⟩ := I.loc
    refine ⟨m, k2.ns hn, fun i x v e1 e2 e3 => ?_⟩
    obtain ⟨u, r, l⟩ := hl i x v e1 e2 e3
    refine ⟨u, r, ?_⟩
    rcases l with l | ⟨k, c, e, z⟩
    · exact .inl l
    · exact .inr ⟨k, c, e, cellK c _ z⟩
  · obtain ⟨v, z⟩ := I.cell x c e
    exact ⟨v, cellK c v z⟩
  · obtain ⟨e, n, ne, nf, d⟩ := I.pin p hp
    exact ⟨kp _ _ e (fun z => (hch _ z).2.2.2.2 p hp rfl) (nst _ ne nf), n, ne, nf, d⟩
  · refine (I.hok b u e).stay (fun c v hc r => kp c v r (fun z => ?_) fun z => ?_) (fun _ r => r) fun _ _ r => r
    · have hz := (hch c z).1
      rcases hc with y | y
      · rw [y, e] at hz; cases hz
      · rw [y] at hz; cases hz
    · have hz := I.stkFree c z
      rcases hc with y | y
      · rw [y, e] at hz; cases hz
      · rw [y] at hz; cases hz
theorem Inv.takeUp2 {T : Addr} {o : HO} (I : Inv X pins σ H s) (f : Fr1 X pins H T) (new : ObjOk X.prog X.w (upd H T o) s.heap T o) : Inv X pins σ (upd H T o) s := by
  obtain ⟨n, h0, hL, hc, hp⟩ := f
  refine ⟨I.ok, I.os, I.bare, I.base.adopt2 h0 n, I.loc, I.cell, ?_, fun x c e => ?_, fun p hpp => ?_, I.hok.adopt n new, I.len⟩
  · rw [upd_ne (Ne.symm hL)]; exact I.free
  · rw [upd_ne (hc x c e)]; exact I.freeC x c e
  · obtain ⟨e, n', ne, nf, d⟩ := I.pin p hpp
    exact ⟨e, by rw [upd_ne (hp p hpp)]; exact n', ne, nf, d⟩
/-- the locals are forgotten -/
theorem Inv.forgot (I : Inv X pins σ H s) {m : Str → Option Value} (hn : h'.Ns X.env.locals m) (sb : Heap.SameBut X.env.locals s.heap h') (tk : Nat) : Inv X pins (List.replicate X.N.length none) H { s with heap := h', toks := tk } := by
  have nL : ∀ b o, X.s₀.heap.get? b = some o → b ≠ X.env.locals := fun b o e => Nat.ne_of_lt (Nat.lt_of_lt_of_le (Heap.lt_size e) I.ok.above)
  refine ⟨I.ok, I.os, I.bare, ⟨fun b o e n hb hx => (sb.2 b (nL b o e)).trans (I.base.keep b o e n hb hx), fun b o e n hb hx => ?_, I.base.free, fun b o e hx => ?_, I.base.tups, I.base.frzs, I.base.tbls⟩, ⟨m, hn, fun i x v _ e2 _ => ?_⟩, fun x c e => ?_, I.free, I.freeC, fun p hp => ?_, fun b u e => ?_, by simp⟩
  · obtain ⟨sl, e1⟩ := I.base.slot b o e n hb hx
    exact ⟨sl, (sb.2 b (nL b o e)).trans e1⟩
  · obtain ⟨o', e1⟩ := I.base.there b o e hx
    exact ⟨o', (sb.2 b (nL b o e)).trans e1⟩
  · rw [List.getElem?_replicate] at e2
    split at e2 <;> cases e2
  · obtain ⟨v, z⟩ := I.cell x c e
    exact ⟨v, z.sameBut sb (I.cne x c e)⟩
  · obtain ⟨e, n, ne, nf, d⟩ := I.pin p hp
    exact ⟨(sb.2 p.1 ne).trans e, n, ne, nf, d⟩
  · refine (I.hok b u e).stay (fun c v hc r => (sb.2 c fun z => ?_).trans r) (fun _ r => r) fun _ _ r => r
    have hz := I.free
    rw [← z] at hz
    rcases hc with y | y
    · rw [y, e] at hz; cases hz
    · rw [y] at hz; cases hz

/-- within a try's body -/
def Cx.tryc (X : Cx) (pins : List (Addr × Obj)) (R : St → Hp → Value → Prop) : Cx :=
  { X with pn := X.pn ++ pins, xe := fun e s' => ∃ a T cls σ H, e = .ref a ∧ Inv X pins σ H s' ∧ Fr1 X pins H a ∧ Fr1 X pins H T ∧ ExcAt s'.heap a T cls ∧ R σ H cls }
theorem Inv.into (I : Inv X pins σ H s) (R : St → Hp → Value → Prop) : Inv (X.tryc pins R) [] σ H s :=
  ⟨⟨I.ok.mod, I.ok.kind, I.ok.glob, I.ok.blt, I.ok.above, I.ok.inj, I.ok.has, I.ok.cab, I.ok.hd, I.ok.frames, I.ok.stk, I.ok.exf, I.ok.bs, I.ok.bsz, I.ok.noex, I.ok.exfs, I.ok.funs, I.ok.frf⟩, I.os, I.bare, I.base, I.loc, I.cell, I.free, I.freeC, fun p hp => I.pin p (by
    have hp : p ∈ (X.pn ++ pins) ++ [] := hp
    simpa using hp), I.hok, I.len⟩
theorem Inv.outof (I : Inv (X.tryc pins R) pins' σ H s) : Inv X pins σ H s :=
  ⟨⟨I.ok.mod, I.ok.kind, I.ok.glob, I.ok.blt, I.ok.above, I.ok.inj, I.ok.has, I.ok.cab, I.ok.hd, I.ok.frames, I.ok.stk, I.ok.exf, I.ok.bs, I.ok.bsz, I.ok.noex, I.ok.exfs, I.ok.funs, I.ok.frf⟩, I.os, I.bare, I.base, I.loc, I.cell, I.free, I.freeC, fun p hp => I.pin p (List.mem_append_left _ hp), I.hok, I.len⟩
theorem SP.outof {D : Ends} {f : Flow} {s' : Shared} (h : SP (X.tryc pins R) pins' D f s') : SP X pins D f s' := by
  cases f with
  | next => obtain ⟨σ', H', I, q⟩ := h; exact ⟨σ', H', I.outof, q⟩
  | brk => obtain ⟨σ', H', I, q⟩ := h; exact ⟨σ', H', I.outof, q⟩
  | cont => obtain ⟨σ', H', I, q⟩ := h; exact ⟨σ', H', I.outof, q⟩
  | ret u => obtain ⟨v, σ', H', I, r, q⟩ := h; exact ⟨v, σ', H', I.outof, r, q⟩
theorem raises_tryc (hex : X.ex = []) : Raises (X.tryc pins R) R := by
  intro pins' σ H s e s' I hx
  obtain ⟨a, T, cls, H', rfl, os, bare, un, hok, na, nT, ha, hT, ea, q⟩ := hx
  have I0 : Inv X pins σ H s := I.outof
  have I1 : Inv X pins σ H' s' := I0.call' (ch := []) os un hok bare fun b z => absurd z (by simp)
  exact ⟨a, T, cls, σ, H', rfl, I1, I0.fr1 hex na ha, I0.fr1 hex nT hT, ea, q⟩

/-- within an except suite -/
def Cx.inexc (X : Cx) (e : Value) : Cx := { X with A := X.A.mark (some e), calm := false, xe := fun _ _ => False }
theorem Inv.mark (I : Inv X pins σ H s) (e : Value) : Inv (X.inexc e) pins σ H s :=
  ⟨⟨I.ok.mod, I.ok.kind, I.ok.glob, I.ok.blt, I.ok.above, I.ok.inj, I.ok.has, I.ok.cab, fun z => (by cases z), I.ok.frames, I.ok.stk, I.ok.exf, I.ok.bs, I.ok.bsz, I.ok.noex, I.ok.exfs, I.ok.funs, I.ok.frf⟩, I.os, I.bare, I.base, I.loc, I.cell, I.free, I.freeC, I.pin, I.hok, I.len⟩
theorem Inv.unmark {e : Value} (ok : X.Ok) (I : Inv (X.inexc e) pins σ H s) : Inv X pins σ H s :=
  ⟨ok, I.os, I.bare, I.base, I.loc, I.cell, I.free, I.freeC, I.pin, I.hok, I.len⟩
end

/-- an exception that is in hand -/
def IsExc (a : Addr) (cls : Value) : HO := .ext fun h => ∃ o vs, h.get? a = some o ∧ o.cls = cls ∧ o.data = .fields vs
def tTry (K : PySem.W.Frag) (C : Addr) (i : Nat) (tb : (St → Hp → Value → Prop) → TS) (th : TS) : TS := fun D σ H => ∃ R : St → Hp → Value → Prop, tb R D σ H ∧
  ∀ σ' H' cls a, R σ' H' cls → H' a = none → PySem.W.exmOne K cls (.ref C) = some true ∧ th { nx := fun _ _ => False, rt := D.rt } (σ'.set i (some (.ref a))) (upd H' a (IsExc a cls))
section
variable {X : Cx}
theorem ps_try {body suite : List Stmt} {b₀ : Stmt} {c n : Str} {C : Addr} {i : Nat} {np hpos pos : Pos} {tb : (St → Hp → Value → Prop) → TS} {th : TS} (hst : X.stack = X.env :: X.outer) (hfr : X.env.frame = some X.env.locals) (hex : X.ex = [])
    (hb : ∀ pins R, PSs (X.tryc pins R) body (tb R)) (hg : Gl X c) (hm : X.mg c = some (.ref C)) (hN : X.N.Nodup) (hi : X.N[i]? = some n) (hl : X.env.scope.names.lookup n = some .local) (hs : ∀ e, PSs (X.inexc e) (b₀ :: suite) th)
    (hd : (c == ("__debug__" : Str)) = false := by decide) : PS X (.Try body [.ExceptHandler (some (.Name c np)) (some n) (b₀ :: suite) hpos] [] [] pos) (tTry X.K C i tb th) := by
  intro pins s σ H D I h
  obtain ⟨R, hb1, hh⟩ := h
  refine wpAny_Try_except (wpAny_mono (hb pins R [] s σ H D (I.into R) hb1) (fun f s1 q => ?_) fun e s1 q => ?_)
  · have q' : SP X pins D f s1 := q.outof
    cases f with
    | next => exact wpAny_execs_nil q'
    | brk => exact q'
    | cont => exact q'
    | ret u => exact q'
  · obtain ⟨a, T, cls, σ1, H1, rfl, I1, fa, fT, ⟨a0, oe, vs, oT, ts, e1, e2, e3, e4, e5, e6, e7, e8⟩, r1⟩ := q
    obtain ⟨hx, hth⟩ := hh σ1 H1 cls a r1 fa.1
    have hA : X.A.frames = some (X.env :: X.outer) := by rw [I1.ok.frames, hst]
    have hch : ∀ b ∈ [a, T], Fr1 X pins H1 b := fun b z => by
      rcases List.mem_cons.mp z with z | z
      · rw [z]; exact fa
      · rw [List.mem_singleton.mp z]; exact fT
    have fly : Heap.FlyingW (hidF s1.heap [a, T] X.stack) (X.env :: X.outer) a cls a0 s1.heap :=
      ⟨hidF_stays, PySem.W.hideAll_none _ (by simp), by have z := hidF_frames (as := [a, T]) I1.stack; rw [hst] at z ⊢; exact z, oe, vs, T, oT, ts, e1, e2, e3, e4, PySem.W.hideAll_none _ (by simp), e5, e6, e7, e8⟩
    refine wpAny_looks_onW hA hfr fly fun h2 held2 sm2 => ?_
    refine wpAny_landsW held2 fun h3 fly3 sm3 => ?_
    have I3 : Inv X pins σ1 H1 { s1 with heap := h3 } := I1.land hch fly3.1 (sm2.trans sm3) s1.toks
    refine wpAny_handleBy_cons (codeAny_handlers_test ?_) (by intro z; cases z)
    refine ld_glob (X := X.inexc (.ref a)) (I3.mark _) hg hm ?_ hd
    obtain ⟨ob, hob, hobc⟩ := fly3.there
    have LT : PySem.W.Looks (model X.prog X.w) h3 (typeOf (.ref a)) cls := hobc ▸ (PySem.W.Looks.ld hob).andThen .now
    refine (PySem.W.exm_one (K := X.K) (h := h3) I3.kIn LT hx).here ?_
    refine codeAny_handlers_suite_as (lands_againW fly3 fun h4 fly4 sm4 => ?_)
    have I4 : Inv X pins σ1 H1 { s1 with heap := h4 } := I1.land hch fly4.1 ((sm2.trans sm3).trans sm4) s1.toks
    have new : ObjOk X.prog X.w (upd H1 a (IsExc a cls)) h4 a (IsExc a cls) := by
      obtain ⟨oe4, vs4, g1, g2, g3, _⟩ := fly4.first
      exact ⟨⟨oe4, vs4, g1, g2, g3⟩, ⟨oe4, g1⟩, fun u1 u2 ⟨o, v, z1, z2, z3⟩ k => ⟨o, v, k o z1, z2, z3⟩⟩
    have I5 : Inv X pins σ1 (upd H1 a (IsExc a cls)) { s1 with heap := h4 } := I4.takeUp2 fa new
    refine store_ok (X := X.inexc (.ref a)) (v := .ref a) (I5.mark _) hN hi (Or.inl hl) rfl (fun s6 I6 => ?_) (Or.inr hl)
    refine wpAny_mono (hs (.ref a) pins s6 _ _ _ I6 hth) (fun f s7 q7 => ?_) fun _ _ z => z.elim
    cases f with
    | ret u =>
      obtain ⟨v, σ7, H7, I7, rv, q⟩ := q7
      have I7' : Inv X pins σ7 H7 s7 := I7.unmark I1.ok
      obtain ⟨m, hn, _⟩ := I7'.loc
      refine wpAny_nameGoes hl hn (by rw [I7'.ok.kind]; rfl) fun h8 m8 hn8 sb8 => ?_
      exact ⟨v, _, H7, I7'.forgot hn8 sb8 _, rv, q⟩
    | next => obtain ⟨_, _, _, z⟩ := q7; exact z.elim
    | brk => obtain ⟨_, _, _, z⟩ := q7; exact z.elim
    | cont => obtain ⟨_, _, _, z⟩ := q7; exact z.elim
/-! a clause without a name, the first of any number -/
end
end L2

set_option Elab.async false
set_option linter.all false
set_option maxRecDepth 100000
set_option maxHeartbeats 4000000
namespace L2
open PySem PySem.Spec PyProof.Rows
section
variable {P : Program} {w : World} {K : PySem.W.Frag} {mg : Str → Option Value} {base : Heap}
/-- a def that may raise -/
theorem Fun.okX {x qual : Str} {st : Stmt} {f : Addr} {fd : FuncData} {N ps : List Str} {k : Nat} {sp : Sp} (F : Fun K x qual st f fd) (S : FnScope N ps (defScope st)) (len : ∀ vs H Q E, sp vs H Q E → vs.length = ps.length)
    (hbody : ∀ (cdv : Value) (A : Around) (outer : List Env) (s : Shared) (H : Hp) (vs : List V) (Q : VK) (E : XK), Room k (A.deeper (envOfC qual (defScope st) s.heap.objs.size f cdv)) → sp vs H Q E →
      ∃ t, PSs (cxOf (CXF P w) P w K mg base N qual (defScope st) f cdv A outer s H E) (defBody st) t ∧ t { nx := fun _ H' => Q .non H', rt := Q } (start N vs) H) : FnOk P w K mg base (CXF P w) (k + 1) f fd ps sp := by
  obtain ⟨oc, od, kV, doc, pm, an, cdv, ct, osl, rfl, lk, hcd⟩ := F.ex
  refine fn_of lk hcd S len fun A outer s H vs Q E hr hsp => ?_
  obtain ⟨t, h, q⟩ := hbody cdv A outer s H vs Q E hr hsp
  exact ⟨t, h, q⟩
end
end L2

set_option Elab.async false
set_option linter.all false
set_option maxRecDepth 100000
set_option maxHeartbeats 4000000
/-! more rules: range(a, b, -1) -/
namespace L2
open PySem PySem.Spec PyProof.Rows

section
variable {X : Cx} {tg : Expr}
end
end L2

set_option Elab.async false
set_option linter.all false
set_option maxRecDepth 100000
set_option maxHeartbeats 4000000
/-! tuples: +, * -/
namespace AxT
open PySem PySem.Spec PyProof.Rows PySem.SeqAt
open AutoSeq1 (wpAny_loadPart')
end AxT
namespace L2
open PySem PySem.Spec PyProof.Rows
section
variable {X : Cx}
end
end L2

set_option Elab.async false
set_option linter.all false
set_option maxRecDepth 100000
set_option maxHeartbeats 4000000
/-! reversed(a tuple), walked -/
namespace AxR
open PySem PySem.Spec PyProof.Rows
open AutoSeq1 (wpAny_loadPart')
section
variable {prog : Program} {w : World} {A : Around} {E : Value → Shared → Prop} {s : Shared}
end
end AxR
namespace L2
open PySem PySem.Spec PyProof.Rows
section
variable {X : Cx} {tg : Expr}
end
end L2

set_option Elab.async false
set_option linter.all false
set_option maxRecDepth 100000
set_option maxHeartbeats 4000000
/-! more rules: a < b < c < d, text * number, in a list or tuple of data, sum of a list of numbers, reversed(a list) -/
namespace L2
open PySem PySem.Spec PyProof.Rows
section
variable {X : Cx} {K : PySem.W.Frag} {a b c d : Expr} {ta tb tc td : TE} {pos : Pos}
def rMulS : R2 := fun x y H Q => ∃ (i : Str) (n : Int), x = .str i ∧ y = .int n ∧ MulOk i n ∧ Q (.str (Txt.mul i n)) H
theorem op_mulS : OpR X (binaryOp .Mult) rMulS := by
  intro pins s σ H x y v u Q I rx ry h
  obtain ⟨i, n, rfl, rfl, ok, q⟩ := h
  obtain ⟨t, rfl⟩ := rx
  obtain ⟨t', rfl⟩ := ry
  exact SB.mul ok fun t' k => ⟨.str _, H, I.tok _, ⟨_, rfl⟩, q⟩
end
section
variable {X : Cx} {tg : Expr}
end
end L2

set_option Elab.async false
set_option linter.all false
set_option maxRecDepth 100000
set_option maxHeartbeats 4000000
/-! an exception of a call that goes on through the def; a list with a tuple's items put behind it -/
namespace L2
open PySem PySem.Spec PyProof.Rows
section
variable {X : Cx} {pins : List (Addr × Obj)} {σ : St} {H : Hp} {s : Shared}
end
section
variable {X : Cx}
end
theorem CalX.mk' {P : Program} {w : World} {K : PySem.W.Frag} {mg : Str → Option Value} {base : Heap} {k : Nat} {x qual : Str} {st : Stmt} {f : Addr} {fd : FuncData} {ps : List Str} {sp : Sp} (F : Fun K x qual st f fd) (G : FnOk P w K mg base (CXF P w) k f fd ps sp) (hm : mg x = some (.ref f))
    (b : Binds K fd ps []) : CalX P w K mg base k x ps sp := ⟨f, fd, G, hm, F.kp, b⟩
end L2

set_option Elab.async false
set_option linter.all false
set_option maxRecDepth 100000
set_option maxHeartbeats 4000000
/-! dicts that are held from some place on: walks over keys and pairs, in, list, isinstance -/
namespace L2
open PySem PySem.Spec PyProof.Rows
section
variable {X : Cx} {pins : List (Addr × Obj)} {σ : St} {H : Hp} {s : Shared} {d : Addr} {kvs : List (Key × V)}
theorem Room.units128 {k : Nat} {A : Around} (r : Room k A) : A.units + 128 < cLine := by have := r.un; omega
theorem Inv.freeze (I : Inv X pins σ H s) (e : H d = some (.dK kvs)) : ∃ ob : Obj, Inv X pins σ (upd H d (.frz ob (.dK kvs))) s := by
  obtain ⟨hz, hS, vs, rel, o, es, ep, ho, hx, hd, hk, hp, hnd⟩ : kvs.length ≤ sizeLine ∧ (d == sysModules) = false ∧ ∃ vs, KV kvs vs ∧ s.heap.DictOf (mixKind X.prog X.w) d vs := I.hok d _ e
  refine ⟨o, ?_⟩
  have mu : Mut (H d) := by rw [e]; trivial
  exact I.write (x := d) (e := d) (h' := s.heap) (t' := s.toks) mu (.inl rfl) (fun b u _ q => q) ⟨o, ho⟩ ⟨ho, hz, hS, vs, rel, o, es, ep, ho, hx, hd, hk, hp, hnd⟩
theorem rel_kV {P : Program} {w : World} {k : Key} {u : Value} (h : (mixKind P w).is k u = true) : RelV (kV k) u := by
  cases k with
  | inl i =>
    have h : Value.isInt i u = true := h
    cases u <;> simp [Value.isInt] at h
    subst h
    exact ⟨_, rfl⟩
  | inr x =>
    obtain ⟨t, rfl⟩ := Value.isStrOf_shape (show Value.isStrOf x u = true from h)
    exact ⟨t, rfl⟩
theorem paired_at {α β : Type} {F : α → β → Prop} : ∀ {l₁ : List α} {l₂ : List β} {i : Nat} {y : β}, Paired F l₁ l₂ → l₂[i]? = some y → ∃ x, l₁[i]? = some x ∧ F x y
  | _, _, _, _, .nil, h => by cases h
  | _, _, 0, _, .cons r _, h => by cases h; exact ⟨_, rfl, r⟩
  | _, _, i + 1, _, .cons _ t, h => by
    obtain ⟨x, h1, h2⟩ := paired_at (i := i) t (by simpa using h)
    exact ⟨x, by simpa using h1, h2⟩
/-- a dict that is held: its record is known -/
theorem frz_at {P : Program} {w : World} {h : Heap} {ob : Obj} (z : ObjOk P w H h d (.frz ob (.dK kvs))) : ∃ vs es ep, ob.data = .dict es ep ∧ KV kvs vs ∧ h.DictAt (mixKind P w) d vs ep ∧ (d == sysModules) = false ∧ kvs.length ≤ sizeLine := by
  obtain ⟨h0, hz, hS, vs, rel, o, es', ep', ho, hx, hd', hk, hp, hnd⟩ := z
  rw [h0] at ho; cases ho
  exact ⟨vs, es', ep', hd', rel, ⟨ob, es', h0, hx, hd', hk, hp, hnd⟩, hS, hz⟩
theorem dict_at {P : Program} {w : World} {h : Heap} {ob : Obj} {es : Array DictEntry} {ep : Nat} (hd : ob.data = .dict es ep) (z : ObjOk P w H h d (.frz ob (.dK kvs))) : ∃ vs, KV kvs vs ∧ h.DictAt (mixKind P w) d vs ep ∧ (d == sysModules) = false := by
  obtain ⟨vs, es', ep', hd', rel, da, hS, _⟩ := frz_at z
  rw [hd] at hd'; cases hd'
  exact ⟨vs, rel, da, hS⟩
def ItK (d : Addr) (kvs : List (Key × V)) (ob : Obj) : It where
  go := fun i H => H d = some (.frz ob (.dK kvs)) ∧ i < kvs.length
  yld := fun i H x H' => H' = H ∧ ∃ k v, kvs[i]? = some (k, v) ∧ x = kV k
  stop := fun i H => H d = some (.frz ob (.dK kvs)) ∧ i = kvs.length
theorem turn_keys {P : Program} {w : World} {K : PySem.W.Frag} {tg : Expr} {ob : Obj} {es : Array DictEntry} {ep : Nat} (hd : ob.data = .dict es ep) (it : Addr) : Turn P w K tg (ItK d kvs ob) [it] it (fun i h => h.IsKeyIter it d i kvs.length ep) where
  mem := by simp
  obj := fun i h st b hb => by
    have e : b = it := by simpa using hb
    subst e
    obtain ⟨o, e, c, dd⟩ := st
    exact ⟨o, e, fun v z => by rw [dd] at z; cases z⟩
  keep := fun i h h' st k => by
    obtain ⟨o, e, c⟩ := st
    exact ⟨o, k it (by simp) o e, c⟩
  item := by
    intro X hP hw hK hc i pins s σ H E I hf st hg
    subst hP hw hK
    obtain ⟨hfr, hi⟩ := hg
    obtain ⟨vs, rel, da, hS⟩ := dict_at hd (I.hok d _ hfr)
    have hl : kvs.length = vs.length := Paired.length rel
    rw [hl] at st
    have hx : vs[i]? = some (vs[i]'(by omega)) := List.getElem?_eq_getElem (by omega)
    obtain ⟨f0, f1, f2, f3, f4, f5⟩ := hf it (by simp)
    refine wpAny_pyNext_dict_item (k := (vs[i]'(by omega)).1) (v := (vs[i]'(by omega)).2) st da hx fun key h' hkey st' sb => ?_
    have I1 : Inv X pins σ H { s with heap := h' } := I.turned (t' := s.toks) (fun b o hb e => (sb.2 b hb).trans e) f0 f1 f3 f4 f5
    rw [← hl] at st'
    obtain ⟨o, e, c, dd⟩ := id st'
    have hk : ∃ v, kvs[i]? = some ((vs[i]'(by omega)).1, v) := by
      obtain ⟨⟨k0, v0⟩, h0, h1, _⟩ := paired_at rel hx
      have h1 : k0 = _ := h1
      subst h1
      exact ⟨v0, h0⟩
    obtain ⟨v0, hk⟩ := hk
    exact ⟨key, rfl, go_of (s := { s with heap := h' }) e c dd (by decide) ⟨kV (vs[i]'(by omega)).1, H, I1, rel_kV hkey, ⟨rfl, _, v0, hk, rfl⟩, st', fun b hb => (hf b hb).1⟩⟩
  done := by
    intro X hP hw hK hc i pins s σ H E I hf st hg
    subst hP hw hK
    obtain ⟨hfr, hi⟩ := hg
    subst hi
    obtain ⟨vs, rel, da, hS⟩ := dict_at hd (I.hok d _ hfr)
    have hl : kvs.length = vs.length := Paired.length rel
    obtain ⟨f0, f1, f2, f3, f4, f5⟩ := hf it (by simp)
    rw [hl] at st
    exact wpAny_pyNext_dict_end (I.ok.hd hc) st da (List.getElem?_eq_none (by omega)) fun h' eb => ⟨rfl, I.turned (t' := s.toks) (fun b o hb e => eb b o hb e) f0 f1 f3 f4 f5⟩
  self := fun _ _ _ _ _ st h => wpAny_pyIter_keyiter st h
/-- its pairs -/
def ItP (d : Addr) (kvs : List (Key × V)) (ob : Obj) : It where
  go := fun i H => H d = some (.frz ob (.dK kvs)) ∧ i < kvs.length
  yld := fun i H x H' => ∃ T k v, kvs[i]? = some (k, v) ∧ H T = none ∧ x = .ref T ∧ H' = upd H T (.tup [kV k, v])
  stop := fun i H => H d = some (.frz ob (.dK kvs)) ∧ i = kvs.length
theorem turn_pairs {P : Program} {w : World} {K : PySem.W.Frag} {elts : List Expr} {x1} {tpos : Pos} {ob : Obj} {es : Array DictEntry} {ep : Nat} (hd : ob.data = .dict es ep) (it : Addr) :
    Turn P w K (.Tuple elts x1 tpos) (ItP d kvs ob) [it] it (fun i h => ∃ ok ov, IsItemIter h it d i kvs.length ep ok ov) where
  mem := by simp
  obj := fun i h st b hb => by
    have e : b = it := by simpa using hb
    subst e
    obtain ⟨ok, ov, e⟩ := st
    exact ⟨_, e, fun v z => by cases z⟩
  keep := fun i h h' st k => by
    obtain ⟨ok, ov, e⟩ := st
    exact ⟨ok, ov, k it (by simp) _ e⟩
  item := by
    intro X hP hw hK hc i pins s σ H E I hf st hg
    subst hP hw hK
    obtain ⟨hfr, hi⟩ := hg
    obtain ⟨vs, rel, da, hS⟩ := dict_at hd (I.hok d _ hfr)
    have hl : kvs.length = vs.length := Paired.length rel
    obtain ⟨ok, ov, st⟩ := st
    rw [hl] at st
    obtain ⟨⟨kk, vv⟩, hx⟩ : ∃ p, vs[i]? = some p := ⟨_, List.getElem?_eq_getElem (show i < vs.length by omega)⟩
    obtain ⟨⟨k0, v0⟩, h0, h1, rv⟩ := paired_at rel hx
    have h1 : k0 = kk := h1
    have rv : RelV v0 vv := rv
    have fi := hf it (by simp)
    have hT : H s.heap.objs.size = none := I.hok.fresh (Nat.le_refl _)
    have ltI : it < s.heap.objs.size := Heap.lt_size st
    refine wpAny_pyNext_items_item (k := kk) (v := vv) st da hx fun key h' hkey out tup sz kp => ?_
    refine ⟨_, rfl, wpAny_letOwnedTupleGo_items out fun h2 en sb => ?_⟩
    have tup2 : h2.get? s.heap.objs.size = some { cls := .type "tuple", data := .seq #[key, vv] } := (sb.2 _ (Nat.ne_of_gt ltI)).trans tup
    have I1 : Inv X pins σ H { s with heap := h2 } := I.turnedAll (t' := s.toks) (ch := [it]) hf (fun b o hb q => by
      have b1 : b ≠ it := fun z => hb (by simp [z])
      exact (sb.2 b b1).trans (kp b o b1 q)) (fun b hb => by
      have z : b = it := by simpa using hb
      subst z; exact ⟨_, en⟩)
    have fT := I.fpOk (Nat.le_refl _) hT
    have new : ObjOk X.prog X.w (upd H s.heap.objs.size (.tup [kV k0, v0])) h2 s.heap.objs.size (.tup [kV k0, v0]) :=
      ⟨by show 2 ≤ sizeLine; decide, [key, vv], .cons (by rw [h1]; exact rel_kV hkey) (.cons rv .nil), ⟨_, tup2, rfl, _, rfl⟩⟩
    have I2 : Inv X pins σ (upd H s.heap.objs.size (.tup [kV k0, v0])) { s with heap := h2 } :=
      I1.takeUp hT (Nat.le_trans I.sz (Nat.le_refl _)) fT.2.1 fT.2.2.2.2.1 fT.2.2.2.2.2 new
    refine ⟨.ref s.heap.objs.size, _, I2, rfl, ⟨_, k0, v0, h0, hT, rfl, rfl⟩, ⟨key, vv, by rw [hl]; exact en⟩, fun b hb => ?_⟩
    have z : b = it := by simpa using hb
    subst z
    rw [upd_ne (Nat.ne_of_lt ltI)]
    exact fi.1
  done := by
    intro X hP hw hK hc i pins s σ H E I hf st hg
    subst hP hw hK
    obtain ⟨hfr, hi⟩ := hg
    subst hi
    obtain ⟨vs, rel, da, hS⟩ := dict_at hd (I.hok d _ hfr)
    have hl : kvs.length = vs.length := Paired.length rel
    obtain ⟨f0, f1, f2, f3, f4, f5⟩ := hf it (by simp)
    obtain ⟨ok, ov, st⟩ := st
    rw [hl] at st
    exact wpAny_pyNext_items_end (I.ok.hd hc) st da (List.getElem?_eq_none (by omega)) fun h' eb => ⟨rfl, I.turned (t' := s.toks) (fun b o hb e => eb b o hb e) f0 f1 f3 f4 f5⟩
  self := fun _ _ _ _ _ st h => by
    obtain ⟨ok, ov, st⟩ := st
    exact PySem.W.kcp_self st h
end
section
variable {X : Cx} {tg : Expr}
/-- from here on the dict is held -/
def tFrz (t : TE) : TE := fun σ H Q => t σ H fun v H1 => ∃ d kvs, v = .ref d ∧ H1 d = some (.dK kvs) ∧ ∀ ob, Q v (upd H1 d (.frz ob (.dK kvs)))
theorem pe_frz {e : Expr} {t : TE} (h : PE X e t) : PE X e (tFrz t) := by
  intro pins s σ H Q I q
  refine thn (h pins s σ H _ I q) fun v s1 ⟨x, H1, I1, r, d, kvs, ex, hd, q⟩ => ?_
  subst ex
  obtain ⟨ob, I2⟩ := I1.freeze hd
  exact ⟨.ref d, _, I2, r, q ob⟩
/-- the iterator over the keys of a dict that is held -/
def iKeys (td : TE) : TI := fun σ H R => td σ H fun v H1 => ∃ d ob kvs, v = .ref d ∧ H1 d = some (.frz ob (.dK kvs)) ∧ R (ItK d kvs ob) H1
theorem pi_keys {l : Expr} {tl : TE} (hl : PE X l tl) : PI X tg l (iKeys tl) := by
  intro pins s σ H R I h
  refine thn (hl pins s σ H _ I h) fun v s1 ⟨x, H1, I1, r, d, ob, kvs, ex, hd, q⟩ => ?_
  subst ex
  cases r
  obtain ⟨vs, es, ep, hdat, rel, da, hS, _⟩ := frz_at (I1.hok d _ hd)
  have hlen : kvs.length = vs.length := Paired.length rel
  refine wpAny_pyIter_dict hS da ?_
  have I3 : Inv X pins σ H1 { s1 with heap := s1.heap.push { cls := .type "dict_keyiterator", data := .fields #[.ref d, .int 0 0, .int vs.length 0, .int ep 0] } } := I1.kept (t' := s1.toks) fun b o e => Heap.get?_push_of_some _ e
  refine ⟨s1.heap.objs.size, [s1.heap.objs.size], _, _, _, rfl, I3, turn_keys hdat _, ?_, fun b hb => ?_, q⟩
  · exact ⟨_, Heap.get?_push_size _ rfl, rfl, by rw [hlen]; rfl⟩
  · have e : b = s1.heap.objs.size := by simpa using hb
    subst e
    exact I1.fpOk (Nat.le_refl _) (I1.hok.fresh (Nat.le_refl _))
def iPairs (td : TE) : TI := fun σ H R => td σ H fun v H1 => ∃ d ob kvs, v = .ref d ∧ H1 d = some (.frz ob (.dK kvs)) ∧ R (ItP d kvs ob) H1
theorem pi_pairs {o : Expr} {td : TE} {elts : List Expr} {x1} {tpos apos cpos : Pos} (ho : PE X o td) (hbase : attributeBase o "items" X.env (eval o X.env) = eval o X.env := by rfl) (hline : (apos.endLine == cpos.line) = true := by rfl) :
    PI X (.Tuple elts x1 tpos) (.Call (.Attribute o "items" apos) [] [] cpos) (iPairs td) := by
  intro pins s σ H R I h
  refine wpAny_Call_method0_late hbase hline (thn (ho pins s σ H _ I h) fun v s1 ⟨x, H1, I1, r, d, ob, kvs, ex, hd, q⟩ => ?_)
  subst ex
  cases r
  obtain ⟨vs, es, ep, hdat, rel, da, hS, _⟩ := frz_at (I1.hok d _ hd)
  have hlen : kvs.length = vs.length := Paired.length rel
  have dO := da.dictOf
  obtain ⟨ob', es', h1, h2, h3⟩ := id da
  refine ⟨"dict", "dict.items", F.plainAttrs_dict, F.slot_dict_items, F.type_dict_items, dO.typeIs, fun b q => by cases q; exact ⟨ob', h1, h2.2.1⟩, Calls.callWith_builtin rfl (PySem.evalArgs_none ?_)⟩
  refine call_meetsIn F.slot_dict_items dO.typeIs F.entry_dict_items (F.args_dict_items_1 _) (meets_dict_items (mixKind X.prog X.w) d hS) ⟨⟨vs, dO⟩, ?_⟩
  have I2 : Inv X pins σ H1 { s1 with heap := s1.heap.push { cls := .type "dict_items", data := .fields #[.ref d] } } := I1.kept (t' := s1.toks) fun b o e => Heap.get?_push_of_some _ e
  have da2 : (s1.heap.push { cls := .type "dict_items", data := .fields #[.ref d] }).DictAt (mixKind X.prog X.w) d vs ep := da.at' fun o e => Heap.get?_push_of_some _ e
  refine wpAny_pyIter_items (v := s1.heap.objs.size) (d := d) ⟨_, Heap.get?_push_size _ rfl, rfl, rfl⟩ da2 ?_
  refine ⟨_, [_], _, _, _, rfl, I2.kept (t' := s1.toks) fun b o e => Heap.get?_push_of_some _ e, turn_pairs hdat _, ⟨_, _, by rw [hlen]; exact Heap.get?_push_size _ rfl⟩, fun b hb => ?_, q⟩
  have e := List.mem_singleton.mp hb
  subst e
  exact I2.fpOk (Nat.le_refl _) (I2.hok.fresh (Nat.le_refl _))
/-! ### over all keys, all pairs -/
section
variable {d : Addr} {kvs : List (Key × V)} {ob : Obj} {g : TG} {tb : TS} {D : Ends} {σ : St} {H : Hp}
theorem for_keys (Pv : Nat → St → Hp → Prop) (h0 : Pv 0 σ H) (hl : ∀ i σ H, i ≤ kvs.length → Pv i σ H → H d = some (.frz ob (.dK kvs)))
    (hs : ∀ i k v σ H, kvs[i]? = some (k, v) → Pv i σ H → g (kV k) σ H fun σ2 H2 => tb { D with nx := Pv (i + 1), ct := Pv (i + 1), bk := D.nx } σ2 H2) (hd : ∀ σ H, Pv kvs.length σ H → D.nx σ H) : ForW (ItK d kvs ob) g tb D σ H :=
  for_n kvs.length Pv h0 (fun σ H p => ⟨hl _ σ H (Nat.le_refl _) p, rfl⟩) (fun i σ H hi p => ⟨hl i σ H (Nat.le_of_lt hi) p, hi⟩) (fun i σ H hi p v H' y => by
    obtain ⟨eH, k, x, hx, ev⟩ := y
    subst ev eH
    exact hs i k x σ _ hx p) hd
theorem for_pairs (Pv : Nat → St → Hp → Prop) (h0 : Pv 0 σ H) (hl : ∀ i σ H, i ≤ kvs.length → Pv i σ H → H d = some (.frz ob (.dK kvs)))
    (hs : ∀ i k v T σ H, kvs[i]? = some (k, v) → Pv i σ H → H T = none → g (.ref T) σ (upd H T (.tup [kV k, v])) fun σ2 H2 => tb { D with nx := Pv (i + 1), ct := Pv (i + 1), bk := D.nx } σ2 H2) (hd : ∀ σ H, Pv kvs.length σ H → D.nx σ H) : ForW (ItP d kvs ob) g tb D σ H :=
  for_n kvs.length Pv h0 (fun σ H p => ⟨hl _ σ H (Nat.le_refl _) p, rfl⟩) (fun i σ H hi p => ⟨hl i σ H (Nat.le_of_lt hi) p, hi⟩) (fun i σ H hi p v H' y => by
    obtain ⟨T, k, x, hx, hT, ev, eH⟩ := y
    subst ev eH
    exact hs i k x T σ H hx p hT) hd
end
/-! ### in, isinstance, list -/
def rInZ : R2 := fun y x H Q => ∃ a o, x = .ref a ∧ DGet H a y o ∧ Q (.bl o.isSome) H
theorem op_inZ (hu : X.A.units + 64 < cLine) : OpR X (compareOp .In) rInZ := by
  intro pins s σ H y x v u Q I ry rx h
  obtain ⟨a, o, rfl, g, q⟩ := h
  cases rx
  exact d_in (by omega) I g ry fun s' I' => ⟨.bl _, H, I', rfl, q⟩
theorem get_frz {H : Hp} {a : Addr} {ob : Obj} {kvs : List (Key × V)} {k : Key} (e : H a = some (.frz ob (.dK kvs))) : DGet H a (kV k) (valV kvs k) := .inl ⟨kvs, k, .inr ⟨ob, e⟩, rfl, rfl⟩
def rIsiZ (K : PySem.W.Frag) : List V → Hp → VK → Prop := fun xs H Q => ∃ a T ob kvs b, xs = [.ref a, .ty T] ∧ H a = some (.frz ob (.dK kvs)) ∧ PySem.W.kitOne K (.type "dict") (.type T) = some b ∧ Q (.bl b) H
theorem call_isinstZ {K : PySem.W.Frag} (hK : X.K = K := by rfl) : CallR X (.builtin "isinstance") (rIsiZ K) := by
  subst hK
  intro pins s σ H xs us Q I r h
  obtain ⟨a, T, ob, kvs, b, rfl, ha, kt, q⟩ := h
  obtain ⟨u, w', rfl, ru, rw'⟩ := vals2 r
  cases (show w' = Value.type T from rw')
  cases ru
  obtain ⟨vs, es, ep, hdat, rel, da, hS, _⟩ := frz_at (I.hok a _ ha)
  exact PySem.W.kia_one PySem.W.kitx_dict I.kIn da.dictOf.typeIs kt (fun z => nomatch z) fun tk => ⟨.bl b, H, I.tok _, rfl, q⟩
theorem vals_keys {P : Program} {w : World} : ∀ {kvs : List (Key × V)} {vs : List (Key × Value)} {us : List Value}, KV kvs vs → us.length = vs.length → (∀ (j : Nat) (v : Value), us[j]? = some v → ∃ k x, vs[j]? = some (k, x) ∧ (mixKind P w).is k v = true) → Vals (kvs.map fun kv => kV kv.1) us
  | [], _, [], .nil, _, _ => .nil
  | [], _, _ :: _, .nil, hl, _ => by cases hl
  | _ :: _, _, [], .cons _ _, hl, _ => by cases hl
  | p :: _, q :: _, u :: us, .cons r1 r2, hl, hm => by
    obtain ⟨k, x, e, hk⟩ := hm 0 u rfl
    have e : q = (k, x) := by simpa using e
    have e1 : p.1 = k := by rw [show p.1 = q.1 from r1.1, e]
    refine .cons (by show RelV (kV p.1) u; rw [e1]; exact rel_kV hk) (vals_keys (P := P) (w := w) r2 (by simpa using hl) fun j v hj => ?_)
    obtain ⟨k2, x2, q1, q2⟩ := hm (j + 1) v (by simpa using hj)
    exact ⟨k2, x2, by simpa using q1, q2⟩
def rListZ : List V → Hp → VK → Prop := fun xs H Q => ∃ a ob kvs, xs = [.ref a] ∧ H a = some (.frz ob (.dK kvs)) ∧ ∀ l, H l = none → Q (.ref l) (upd H l (.lst (kvs.map fun kv => kV kv.1)))
theorem call_listZ (hc : X.calm = true) : CallR X (.type "list") rListZ := by
  intro pins s σ H xs us Q I r h
  obtain ⟨a, ob, kvs, rfl, ha, q⟩ := h
  obtain ⟨u, rfl, ru⟩ := vals1 r
  cases ru
  obtain ⟨vs, es, ep, hdat, rel, da, hS, hz⟩ := frz_at (I.hok a _ ha)
  have hlen : kvs.length = vs.length := Paired.length rel
  refine PySem.W.kdl_call (PySem.W.kdl_dict (knd := mixKind X.prog X.w) (kvs := vs) (ep := ep) hS) (I.ok.hd hc) da (by omega) fun h' tk acc c hkp hl hacc => ?_
  have rv : Vals (kvs.map fun kv => kV kv.1) acc.toList := vals_keys rel (by rw [Array.length_toList]; exact hacc.1) fun j v e => hacc.2 j v (by rw [← Array.getElem?_toList]; exact e)
  exact ⟨.ref s.heap.objs.size, _, I.laid (t' := tk) hkp (Nat.le_refl _) (show ObjOk X.prog X.w _ h' _ (.lst (kvs.map fun kv => kV kv.1)) from ⟨by rw [List.length_map]; exact hz, acc.toList, c, rv, hl⟩), rfl, q _ (I.hok.fresh (Nat.le_refl _))⟩
/-! ### == and != of dicts that are held -/
inductive Hits (K : PySem.W.Frag) (H : Hp) (kb : List (Key × V)) : List (Key × V) → Bool → Prop
  | nil : Hits K H kb [] true
  | miss {k : Key} {v : V} {r : List (Key × V)} : valV kb k = none → Hits K H kb ((k, v) :: r) false
  | hit {k : Key} {v y : V} {d e : PyData} {r : List (Key × V)} {b : Bool} : valV kb k = some y → Dt K H d v → Dt K H e y → SeqAt.shaped d = true → SeqAt.shaped e = true → Hits K H kb r b → Hits K H kb ((k, v) :: r) (PyData.eqv d e && b)
theorem Hits.keq {pins : List (Addr × Obj)} {σ : St} {H : Hp} {s : Shared} {kb : List (Key × V)} {ub : List (Key × Value)} (I : Inv X pins σ H s) (hu : X.A.in1.units + 64 < cLine) (rb : KV kb ub) :
    ∀ {ka : List (Key × V)} {ua : List (Key × Value)} {b : Bool}, KV ka ua → Hits X.K H kb ka b → PySem.W.KeqHits X.A.in1 s ub ua b
  | [], _, _, .nil, .nil => .nil
  | p :: ka, q :: ua, _, .cons r1 r2, h => by
    obtain ⟨k, v⟩ := p
    obtain ⟨k', u⟩ := q
    obtain ⟨e1, rv⟩ := r1
    have e1 : k = k' := e1
    subst e1
    have rel := rb.val k
    cases h with
    | miss hn =>
      rw [hn] at rel
      cases e : valueAt ub k with
      | none => exact .miss e
      | some y => rw [e] at rel; exact rel.elim
    | hit hy h1 h2 s1 s2 hr =>
      rw [hy] at rel
      cases e : valueAt ub k with
      | none => rw [e] at rel; exact rel.elim
      | some y =>
        rw [e] at rel
        obtain ⟨as, q1⟩ := Dt.reads I _ _ _ h1 rv
        obtain ⟨bs, q2⟩ := Dt.reads I _ _ _ h2 rel
        exact .hit e (PySem.W.keq_at q1 q2 s1 s2 hu) (Hits.keq I hu rb r2 hr)
def rNeZ (K : PySem.W.Frag) : R2 := fun x y H Q => ∃ a b oa ob ka kb r, x = .ref a ∧ y = .ref b ∧ H a = some (.frz oa (.dK ka)) ∧ H b = some (.frz ob (.dK kb)) ∧ Hits K H kb ka r ∧ Q (.bl (!(ka.length == kb.length && r))) H
theorem op_neZ (hu : X.A.units + 128 < cLine) : OpR X (compareOp .NotEq) (rNeZ X.K) := by
  intro pins s σ H x y v u Q I rx ry h
  obtain ⟨a, b, oa, ob, ka, kb, r, rfl, rfl, ha, hb, hh, q⟩ := h
  cases rx
  cases ry
  obtain ⟨va, _, _, _, ra, da, sa, _⟩ := frz_at (I.hok a _ ha)
  obtain ⟨vb, _, _, _, rb, db, sb, _⟩ := frz_at (I.hok b _ hb)
  have la : ka.length = va.length := Paired.length ra
  have lb : kb.length = vb.length := Paired.length rb
  refine PySem.W.keq_ne sa sb da.dictOf db.dictOf (by omega) (fun _ => hh.keq I (by show X.A.units + 1 + 64 < cLine; omega) rb ra) ⟨.bl _, H, I, ?_, q⟩
  rw [la, lb]; rfl
end
end L2

set_option Elab.async false
set_option linter.all false
set_option maxRecDepth 100000
set_option maxHeartbeats 4000000
/-! texts: split by one sign, startswith -/
namespace L2
open PySem PySem.Spec PyProof.Rows
section
variable {X : Cx}
def rStarts : V → List V → Hp → VK → Prop := fun x vs H Q => ∃ a b : Str, x = .str a ∧ vs = [.str b] ∧ Q (.bl (Txt.startswith a b)) H
theorem mt_startswith : MtR X "str.startswith" rStarts := by
  intro pins s σ H x xs v us Q I rx rs h
  obtain ⟨a, b, rfl, rfl, q⟩ := h
  obtain ⟨t, rfl⟩ := rx
  obtain ⟨u, rfl, t', rfl⟩ := vals1 rs
  exact call_gives F.slot_str_startswith (typeIs_str s a t) F.entry_str_startswith (F.args_str_startswith_2 _ _) (gives_str_startswith a b t t') ⟨.bl _, H, I, rfl, q⟩
theorem vals_texts : ∀ {l : List (Str × Tok)} {ys : List Str}, l.map (·.1) = ys → Vals (ys.map V.str) (strValues l)
  | [], _, h => by rw [← h]; exact .nil
  | p :: l, _, h => by
    rw [← h]
    exact .cons ⟨p.2, rfl⟩ (vals_texts rfl)
def rSplit : V → List V → Hp → VK → Prop := fun x vs H Q => ∃ (a : Str) (c : Nat), x = .str a ∧ vs = [.str ⟨#[c]⟩] ∧ a.length ≤ 100000 ∧ ∀ l, H l = none → Q (.ref l) (upd H l (.lst ((Txt.split a ⟨#[c]⟩).map V.str)))
theorem mt_split : MtR X "str.split" rSplit := by
  intro pins s σ H x xs v us Q I rx rs h
  obtain ⟨a, c, rfl, rfl, ha, q⟩ := h
  obtain ⟨t, rfl⟩ := rx
  obtain ⟨u, rfl, t', rfl⟩ := vals1 rs
  have hz : a.length ≤ sizeLine := An.le_line (by omega)
  have hy : ((⟨#[c]⟩ : Str).length == 0) = false := rfl
  have hn : (Builtin.Str.partsBetween a (Builtin.Str.occurrences a ⟨#[c]⟩ 0 a.length (a.length + 1)) (⟨#[c]⟩ : Str).length).length ≤ 200000 := by
    unfold Builtin.Str.partsBetween
    have := StrLaws.occ_length_le a ⟨#[c]⟩ 0 a.length (a.length + 1)
    simp only [List.length_map, List.length_zip, List.length_cons, List.length_append, List.length_nil]
    omega
  cases h1 : (decide (a.length < (⟨#[c]⟩ : Str).length) || decide (Builtin.Str.strKind a < Builtin.Str.strKind ⟨#[c]⟩))
  · cases hf : (Builtin.Str.occurrences a ⟨#[c]⟩ 0 a.length (a.length + 1)).isEmpty
    · have e : Txt.split a ⟨#[c]⟩ = Builtin.Str.partsBetween a (Builtin.Str.occurrences a ⟨#[c]⟩ 0 a.length (a.length + 1)) (⟨#[c]⟩ : Str).length := (if_neg (ne_true_of_eq_false h1)).trans (if_neg (ne_true_of_eq_false hf))
      refine call_meets F.slot_str_split (typeIs_str s a t) F.entry_str_split (F.args_str_split_2 _ _) (meets_str_split_sep a ⟨#[c]⟩ t t' h1 hy hf hz (An.le_line (by omega))) ?_
      rw [strsFrom_eq]
      refine ⟨.ref _, _, I.lnew (vals_texts (numbered_texts _ _)) (by rw [List.length_map]; exact An.le_line (by omega)), rfl, ?_⟩
      rw [← e]
      exact q _ I.fresh
    · have e : Txt.split a ⟨#[c]⟩ = [a] := (if_neg (ne_true_of_eq_false h1)).trans (if_pos hf)
      rw [e] at q
      refine call_meets F.slot_str_split (typeIs_str s a t) F.entry_str_split (F.args_str_split_2 _ _) (meets_str_split_not_found a ⟨#[c]⟩ t t' h1 hy hf) ?_
      exact ⟨.ref _, _, I.lnew (t' := s.toks) (vals_texts (l := [(a, t)]) rfl) (by show 1 ≤ sizeLine; decide), rfl, q _ I.fresh⟩
  · have e : Txt.split a ⟨#[c]⟩ = [a] := if_pos h1
    rw [e] at q
    refine call_meets F.slot_str_split (typeIs_str s a t) F.entry_str_split (F.args_str_split_2 _ _) (meets_str_split_cannot_occur a ⟨#[c]⟩ t t' h1) ?_
    exact ⟨.ref _, _, I.lnew (t' := s.toks) (vals_texts (l := [(a, t)]) rfl) (by show 1 ≤ sizeLine; decide), rfl, q _ I.fresh⟩
/-! ### any -/
def rAny (K : PySem.W.Frag) : List V → Hp → VK → Prop := fun xs H Q => ∃ (a : Addr) (bs : List Bool), xs = [.ref a] ∧ SqL K H a (bs.map V.bl) ∧ Q (.bl (bs.any id)) H
theorem call_any {K : PySem.W.Frag} (hc : X.calm = true) (hK : X.K = K := by rfl) : CallR X (.builtin "any") (rAny K) := by
  subst hK
  intro pins s σ H xs us Q I r h
  obtain ⟨a, bs, rfl, ha, q⟩ := h
  obtain ⟨u, rfl, ru⟩ := vals1 r
  cases ru
  obtain ⟨its, rv, pl, hz⟩ := I.list ha
  have ei := vals_bl rv
  have hl := pl.isList
  have hlt : a < s.heap.objs.size := by obtain ⟨_, e, _⟩ := hl; exact Heap.lt_size e
  refine call_any_walk (wpAny_pyIter_list hl ?_)
  refine ⟨s.heap.objs.size, [s.heap.objs.size, a], [s.heap.objs.size], its.toArray.size, _, _, fun i => (bs[i]?).getD false, rfl, Walks.list (A := X.A.in1) (I.ok.hd hc) _ a (Nat.ne_of_lt hlt) its.toArray,
    ⟨⟨_, Heap.get?_push_size _ rfl, rfl, rfl⟩, hl.push _⟩, fun i v s' Q' E' hP hQ => ?_, fun h' tk hk => ?_⟩
  · have hP : its[i]? = some v := by simpa using hP
    rw [ei, List.getElem?_map] at hP
    cases e : bs[i]? with
    | none => rw [e] at hP; cases hP
    | some b =>
      rw [e] at hP
      have hP : Value.bool b = v := Option.some.inj hP
      subst hP
      simp only [e, Option.getD_some] at hQ
      exact wpAny_truthy_bool hQ
  · have hlen : its.length = bs.length := by rw [ei, List.length_map]
    have e : ((List.range its.toArray.size).any fun i => (bs[i]?).getD false) = bs.any id := by
      rw [List.size_toArray, hlen]; exact PyProof.Rows.LSm.range_any bs
    rw [e]
    exact ⟨.bl _, H, I.kept (PyProof.Rows.LSm.kept_iter hk), rfl, q⟩
theorem mt_joinK {K : PySem.W.Frag} (hK : X.K = K := by rfl) : MtR X "str.join" (rJoin K) := by
  subst hK
  exact mt_join
theorem pe_bmK {K : PySem.W.Frag} {o e : Expr} {es : List Expr} {to : TE} {t : TA} {name : Str} {apos cpos : Pos} {T id : String} {r : V → List V → Hp → VK → Prop} (pa : PlainAttrs T) (slot : Slot T name id) (hty : typeOf (.builtin id) = pure (.type "method_descriptor")) (hm : MtR X id r) (ho : PE X o to) (ha : PA X (e :: es) t)
    (hbase : attributeBase o name X.env (eval o X.env) = eval o X.env := by rfl)
    (hfew : ((backTo cpos (starEach (e :: es) X.env)).all (fun x => !x.1) && (backToKw cpos (keywordEach [] X.env)).all (fun x => x.1.isSome)
      && decide ((e :: es).length + ([] : List Keyword).length + (if ([] : List Keyword).isEmpty then 0 else 1) < 30)) = true := by rfl)
    (hline : (apos.endLine == cpos.line) = true := by rfl) (hs : starEach (e :: es) X.env = (false, eval e X.env) :: starEach es X.env := by rfl) (hplain : (backTo cpos (starEach es X.env)).any (·.1) = false := by rfl) (hK : X.K = K := by rfl) :
    PE X (.Call (.Attribute o name apos) (e :: es) [] cpos) (tBM K T r to t) := by
  subst hK
  exact pe_bm pa slot hty hm ho ha hbase hfew hline hs hplain
end
end L2

set_option Elab.async false
set_option linter.all false
set_option maxRecDepth 100000
set_option maxHeartbeats 4000000
/-! displays read as data -/
namespace L2
open PySem PySem.Spec PyProof.Rows
abbrev DEnv := Nat → PyData
/-- the names of need hold the data that env tells -/
abbrev Need := List (Nat × Bool)
def tupD : PyData → List PyData
  | .tuple ds => ds
  | _ => []
def EnvD (K : PySem.W.Frag) (need : Need) (env : DEnv) (σ : St) (H : Hp) : Prop := ∀ p ∈ need, (∃ v, σ[p.1]? = some (some v) ∧ Dw K H (env p.1) v) ∧ (p.2 = true → env p.1 = .tuple (tupD (env p.1)) ∧ (tupD (env p.1)).length ≤ 60)
def tDat (K : PySem.W.Frag) (need : Need) (f : DEnv → PyData) : TE := fun σ H Q => ∃ env, EnvD K need env σ H ∧ ∀ v H', Same H H' → Dw K H' (f env) v → Q v H'
def tDats (K : PySem.W.Frag) (need : Need) (f : DEnv → List PyData) : TA := fun σ H Q => ∃ env, EnvD K need env σ H ∧ ∀ vs H', Same H H' → DwAll K H' (f env) vs → Q vs H'
theorem EnvD.same {K : PySem.W.Frag} {need : Need} {env : DEnv} {σ : St} {H H' : Hp} (h : EnvD K need env σ H) (e : Same H H') : EnvD K need env σ H' := fun i hi => by
  obtain ⟨⟨v, h1, h2⟩, h3⟩ := h i hi
  exact ⟨⟨v, h1, Dw.same e _ _ h2⟩, h3⟩
theorem EnvD.left {K : PySem.W.Frag} {n m : Need} {env : DEnv} {σ : St} {H : Hp} (h : EnvD K (n ++ m) env σ H) : EnvD K n env σ H := fun i hi => h i (List.mem_append_left _ hi)
theorem EnvD.right {K : PySem.W.Frag} {n m : Need} {env : DEnv} {σ : St} {H : Hp} (h : EnvD K (n ++ m) env σ H) : EnvD K m env σ H := fun i hi => h i (List.mem_append_right _ hi)
theorem EnvD.sub {K : PySem.W.Frag} {n m : Need} {env : DEnv} {σ : St} {H : Hp} (h : EnvD K m env σ H) (hs : (n.all fun i => m.contains i) = true := by decide) : EnvD K n env σ H := fun i hi => h i (by
  have := List.all_eq_true.mp hs i hi
  exact List.elem_iff.mp this)
theorem EnvD.nil {K : PySem.W.Frag} {env : DEnv} {σ : St} {H : Hp} : EnvD K [] env σ H := fun _ h => nomatch h
theorem DwAll.append {K : PySem.W.Frag} {H : Hp} : ∀ {ds es : List PyData} {xs ys : List V}, DwAll K H ds xs → DwAll K H es ys → DwAll K H (ds ++ es) (xs ++ ys)
  | [], _, _, _, h1, h2 => by rw [show _ = [] from h1]; exact h2
  | d :: ds, _, _, _, ⟨x, r, h1, h3, h4⟩, h2 => by rw [h1]; exact ⟨x, r ++ _, rfl, h3, DwAll.append h4 h2⟩
section
variable {X : Cx} {pos : Pos} {e a b : Expr} {es : List Expr} {n m : Need} {f f' : DEnv → PyData} {g g' : DEnv → List PyData}
theorem PE.weak {t t' : TE} (h : PE X e t) (k : ∀ σ H Q, t' σ H Q → t σ H Q) : PE X e t' := fun pins s σ H Q I q => h pins s σ H Q I (k σ H Q q)
theorem PA.weak {t t' : TA} (h : PA X es t) (k : ∀ σ H Q, t' σ H Q → t σ H Q) : PA X es t' := fun ps pins s σ H Q I q => h ps pins s σ H Q I (k σ H Q q)
theorem pd_nil : PA X [] (tDats X.K [] fun _ => []) := pa_nil.weak fun σ H Q ⟨env, _, k⟩ => k [] H (Same.refl _) rfl
theorem pd_cons (h1 : PE X e (tDat X.K n f)) (h2 : PA X es (tDats X.K m g)) (hs : starEach (e :: es) X.env = (false, eval e X.env) :: starEach es X.env := by rfl) : PA X (e :: es) (tDats X.K (n ++ m) fun env => f env :: g env) :=
  (pa_cons h1 h2 hs).weak fun σ H Q ⟨env, he, k⟩ => ⟨env, he.left, fun v H1 s1 dv => ⟨env, he.right.same s1, fun vs H2 s2 dvs => k (v :: vs) H2 (s1.trans s2) ⟨v, vs, rfl, Dw.same s2 _ _ dv, dvs⟩⟩⟩
theorem pd_tup {x1} (h : PA X es (tDats X.K n g)) (hz : es.length ≤ 1000 := by decide) (hg : ∀ env, (g env).length = es.length := by intro _; rfl) : PE X (.Tuple es x1 pos) (tDat X.K n fun env => .tuple (g env)) :=
  (pe_tup h).weak fun σ H Q ⟨env, he, k⟩ => ⟨env, he, fun vs H1 s1 dvs => ⟨An.le_line (by rw [dvs.length, hg]; omega), fun p np => k (.ref p) _ (s1.trans (An.same_upd np)) ⟨p, vs, rfl, SqT.of upd_same, DwAll.same (An.same_upd np) _ _ dvs⟩⟩⟩
theorem pd_lst (h : PA X es (tDats X.K n g)) (hz : es.length ≤ 1000 := by decide) (hg : ∀ env, (g env).length = es.length := by intro _; rfl) : PE X (.List es pos) (tDat X.K n fun env => .list (g env)) :=
  (pe_lst h).weak fun σ H Q ⟨env, he, k⟩ => ⟨env, he, fun vs H1 s1 dvs => ⟨An.le_line (by rw [dvs.length, hg]; omega), fun p np => k (.ref p) _ (s1.trans (An.same_upd np)) ⟨p, vs, rfl, SqL.of upd_same, DwAll.same (An.same_upd np) _ _ dvs⟩⟩⟩
theorem pd_int {i j} : PE X (.Constant (.int i) j pos) (tDat X.K [] fun _ => .int i) := pe_int.weak fun σ H Q ⟨env, _, k⟩ => k _ H (Same.refl _) rfl
theorem pd_non {j} : PE X (.Constant .none j pos) (tDat X.K [] fun _ => .none) := pe_non.weak fun σ H Q ⟨env, _, k⟩ => k _ H (Same.refl _) rfl
theorem pd_str {x j} : PE X (.Constant (.str x) j pos) (tDat X.K [] fun _ => .str x) := pe_str.weak fun σ H Q ⟨env, _, k⟩ => k _ H (Same.refl _) rfl
theorem pd_dict0 : PE X (.Dict [] [] pos) (tDat X.K [] fun _ => .dict []) := pe_dnewK.weak fun σ H Q ⟨env, _, k⟩ p np => k _ _ (An.same_upd np) ⟨p, [], rfl, upd_same⟩
/-- a text that is told n times -/
theorem pd_mulS {x y : Str} {j1 j2 p1 p2} {k : Int} (ok : MulOk x k) (e : Txt.mul x k = y) : PE X (.BinOp (.Constant (.str x) j1 p1) .Mult (.Constant (.int k) j2 p2) pos) (tDat X.K [] fun _ => .str y) :=
  (pe_op op_mulS pe_str pe_int).weak fun σ H Q ⟨env, _, q⟩ => ⟨x, k, rfl, rfl, ok, q _ H (Same.refl _) (by rw [e]; rfl)⟩
end
end L2

set_option Elab.async false
set_option linter.all false
set_option maxRecDepth 100000
set_option maxHeartbeats 4000000
/-! a dict in a tuple of tuples: it is not; is, is not of truth values -/
namespace PySem.SeqAt
open MeetsSeq PyProof.Rows
section
variable {A : Around} {s : Shared}
end
end PySem.SeqAt
namespace L2
open PySem PySem.Spec PyProof.Rows
section
variable {X : Cx} {K : PySem.W.Frag}
theorem op_isnotB : OpR X (compareOp .IsNot) (fun x y H Q => ∃ a b, x = .bl a ∧ y = .bl b ∧ Q (.bl (a != b)) H) := by
  intro pins s σ H x y v u Q I rx ry h
  obtain ⟨a, b, rfl, rfl, q⟩ := h
  cases rx; cases ry
  exact isnot_bool ⟨.bl _, H, I, rfl, q⟩
end
end L2

set_option Elab.async false
set_option linter.all false
set_option maxRecDepth 100000
set_option maxHeartbeats 4000000
/-! isinstance of an exception in hand -/
namespace PySem.W
open PySem PySem.Spec PySem.Calls PyProof.Rows Builtin Builtin.ObjectAttr Builtin.Getset_descriptor
section
variable {prog : Program} {w : World} {A : Around} {E : Value → Shared → Prop} {s : Shared} {K : Frag} {x D : Addr} {ox : Obj}
/-- what is asked of an own class of exceptions -/
structure ExcKit (K : Frag) (D : Addr) : Prop where
  ga : findIn K (.ref D) "__getattribute__" = some (some (.builtin "BaseException.__getattribute__"))
  hk : findIn K (.ref D) "__getattr__" = some none
  ha : findIn K (.ref D) "__class__" = some (some (.builtin "object.__class__"))
  hn : specialIn K (.builtin "object.__class__") "__get__" = some (some (.builtin "getset_descriptor.__get__"))
  htk : takesIn K (.builtin "object.__class__") = some true
  hm : mroIn K D (.type "object") = some true
  hb : subIn K (.ref D) (.type "BaseException") = some true
  cl : (clsIn K D).isSome = true
structure ExcIn (h : Heap) (x D : Addr) : Prop where
  ex : ∃ o, h.get? x = some o ∧ o.cls = .ref D ∧ notCls o = true
theorem ExcIn.type {M : Model} {h : Heap} (I : ExcIn h x D) : Looks M h (typeOf (.ref x)) (.ref D) := by
  obtain ⟨o, ho, hc, _⟩ := I.ex
  exact hc ▸ (Looks.ld ho).andThen .now
theorem exc_class_get {R : Result → Shared → Prop} {tp : Value} (X : K.In s.heap) (I : ExcIn s.heap x D) (hm : mroIn K D (.type "object") = some true)
    (h : R (.ok (.ret (.ref D))) s) : codeAny (model prog w) A (.call (.builtin "getset_descriptor.__get__") ⟨[.builtin "object.__class__", .ref x, tp], []⟩) R s := by
  obtain ⟨hh, g, dr, t, os⟩ := s
  have L0 := I.type (M := model prog w)
  have L1 := looks_mroIn (M := model prog w) X hm
  refine codeAny_call_builtin KF.slot_gs.plain KF.entry_gs (KF.slot_gs.check _ _ _ _ _ _ _ _ KF.type_class (KF.args_gs _ _ _) ?_)
  unfold Builtin.«getset_descriptor.__get__» descrGet
  rw [dga_obj]
  refine wpAny_bind (wpAny_pure ?_)
  unfold descrGetter descrCheckInstance descrNameAndClass isInstance
  simp only [KF.owner_class]
  repeat lk
  refine ⟨Code.quiet_builtin _ (by decide +kernel), codeAny_builtin KF.entry_class ?_⟩
  unfold Builtin.«object.__class__» shownTypeOf
  repeat lk
  exact h
theorem exc_find {M : Model} {h : Heap} (X : K.In h) (k : ExcKit K D) : Looks M h (find (.ref x) (.ref D) "__class__") (.bind (.builtin "getset_descriptor.__get__") (.builtin "object.__class__")) := by
  have L1 := looks_findIn (M := M) X k.ha
  have L2 := looks_specialIn (M := M) X k.hn
  have L3 := looks_takesIn (M := M) X k.htk
  unfold find
  exact L1.andThen (Looks.andThen L2 (Looks.andThen (L3.andThen .now) (Looks.tag .now)))
theorem exc_check {M : Model} {nameV : Value} {Q : Unit → Shared → Prop} (k : ExcKit K D) (X : K.In s.heap) (I : ExcIn s.heap x D) (hq : Q () s) : wpAny M A (checkBuiltinCall "BaseException.__getattribute__" ⟨[.ref x, nameV], []⟩) Q E s := by
  have hk : builtinKind "BaseException.__getattribute__" = some .slot := by decide +kernel
  have hsplit : splitId "BaseException.__getattribute__" = some ("BaseException", "__getattribute__") := by decide +kernel
  have ha := F.args_bexc_ga (.ref x) nameV
  obtain ⟨hh, g, d, t, os⟩ := s
  have L0 := I.type (M := M)
  have L1 := looks_subIn (M := M) X k.hb
  simp only [checkBuiltinCall, hk, hsplit]
  refine wpAny_bind ?_
  · unfold isInstance
    repeat (first | lk | wp_step)
    exact hq
theorem exc_entry {tk : Tok} {Q : Fin → Shared → Prop} (k : ExcKit K D) (X : K.In s.heap) (I : ExcIn s.heap x D) (hq : Q (.done (.ret (.ref D))) s) :
    wpAny (model prog w) A (Builtin.«object.__getattribute__» ⟨[.ref x, .str "__class__" tk], []⟩) Q E s := by
  obtain ⟨hh, g, d, t, os⟩ := s
  have L0 := I.type (M := model prog w)
  have L1 := exc_find (M := model prog w) (x := x) X k
  unfold Builtin.«object.__getattribute__»
  refine wpAny_bind (wpAny_pure (wpAny_bind (wpAny_pure (wpAny_bind (L0.at (wpAny_bind (L1.at ?_)))))))
  show wpAny _ _ (bindTo _ _ _ _) _ _ _
  show wpAny _ _ (holding [Value.builtin "object.__class__"] (call (Value.builtin "getset_descriptor.__get__") [Value.builtin "object.__class__", Value.ref x, Value.ref D]) >>= ret) _ _ _
  exact wpAny_bind (wpAny_holding (wpAny_call (exc_class_get (s := ⟨hh, g, d, t, os⟩) X I k.hm (wpAny_pure hq))))
theorem exc_class {Q : Option Value → Shared → Prop} (k : ExcKit K D) (X : K.In s.heap) (I : ExcIn s.heap x D) (h : Q (some (.ref D)) { s with toks := s.toks + 1 }) : wpAny (model prog w) A (getAttr? (.ref x) "__class__") Q E s := by
  obtain ⟨hh, g, d, t, os⟩ := s
  have L0 := I.type (M := model prog w)
  have L1 := looks_findIn (M := model prog w) X k.ga
  have L2 := looks_findIn (M := model prog w) X k.hk
  unfold getAttr? getAttrBy? getAttrBy
  refine wpAny_bind (wpAny_mkText (wpAny_bind (wpAny_attempt (wpAny_holding (wpAny_bind (L0.at (wpAny_bind (L1.at ?_))))))))
  show wpAny _ _ (getAttrByItsOwn _ _ _ _ _ _) _ _ _
  unfold getAttrByItsOwn hookBefore
  refine wpAny_bind (L2.at ?_)
  refine wpAny_bind (wpAny_attempt (wpAny_holding ?_))
  show wpAny _ _ (boundAndCalled _ _ _) _ _ _
  unfold boundAndCalled
  rw [F.attr_ValueError.ga.bind]
  refine wpAny_bind (wpAny_pure ?_)
  refine wpAny_call (codeAny_call_builtin F.attr_ValueError.ga.plain F.entry_bexc_ga (exc_check k X I (exc_entry k X I ?_)))
  exact handed_on (s := ⟨hh, g, d, t + 1, os⟩) rfl (wpAny_pure h)
theorem kitx_exc (k : ExcKit K D) : KitX K (.ref x) (.ref D) (fun h => ExcIn h x D) where
  ty := fun _ _ _ I => I.type
  it := fun _ _ X _ => by
    obtain ⟨cdD, hcD⟩ := Option.isSome_iff_exists.mp k.cl
    unfold clsIn at hcD
    split at hcD
    · rename_i c' d' cd' sl' ho
      intro A' Q' E' s' k q
      unfold isType loadHead
      exact wpAny_bind (wpAny_loadPart (k _ _ (X _ _ ho)) (wpAny_pure q))
    · cases hcD
  ne := fun h tp dd its n sl X htp => by
    obtain ⟨cdD, hcD⟩ := Option.isSome_iff_exists.mp k.cl
    refine Bool.eq_false_iff.mpr fun q => ?_
    have e : D = tp := Value.ref.inj (beq_iff_eq.mp q)
    subst e
    unfold clsIn at hcD
    split at hcD
    · rename_i c' d' cd' sl' ho
      have z := (X _ _ ho).symm.trans htp
      cases z
    · cases hcD
  ca := fun X I q => exc_class k X I q
end
end PySem.W
namespace L2
open PySem PySem.Spec PyProof.Rows
section
variable {X : Cx} {K : PySem.W.Frag}
/-- isinstance of an exception in hand, by a value c that stands for a class -/
def rIsiE (K : PySem.W.Frag) (c : Value) (cv : V) : List V → Hp → VK → Prop := fun xs H Q => ∃ (a D : Addr) (b : Bool), xs = [.ref a, cv] ∧ H a = some (IsExc a (.ref D)) ∧ PySem.W.ExcKit K D ∧ PySem.W.kitOne K (.ref D) c = some b ∧ Q (.bl b) H
theorem isi_exc {pins : List (Addr × Obj)} {s : Shared} {σ : St} {H : Hp} {a D : Addr} {b : Bool} {c : Value} {Q : VK} (I : Inv X pins σ H s) (ha : H a = some (IsExc a (.ref D))) (k : PySem.W.ExcKit X.K D) (e : PySem.W.kitOne X.K (.ref D) c = some b) (q : Q (.bl b) H) :
    wpAny (model X.prog X.w) X.A (call (.builtin "isinstance") [.ref a, c]) (EP X pins σ Q) X.xe s := by
  obtain ⟨⟨o, vs, h1, h2, h3⟩, _⟩ := (I.hok a _ ha)
  refine PySem.W.kia_one (PySem.W.kitx_exc k) I.kIn ⟨o, h1, h2, ?_⟩ e (fun z => nomatch z) fun tk => ⟨.bl b, H, I.tok _, rfl, q⟩
  unfold PySem.W.notCls
  rw [h3]
theorem call_isinstE (hK : X.K = K := by rfl) {C : Addr} : CallR X (.builtin "isinstance") (rIsiE K (.ref C) (.ref C)) := by
  subst hK
  intro pins s σ H xs us Q I r h
  obtain ⟨a, D, b, rfl, ha, k, e, q⟩ := h
  obtain ⟨u, w', rfl, ru, rw'⟩ := vals2 r
  cases (show u = Value.ref a from ru)
  cases (show w' = Value.ref C from rw')
  exact isi_exc I ha k e q
theorem call_isinstET (hK : X.K = K := by rfl) {T : String} : CallR X (.builtin "isinstance") (rIsiE K (.type T) (.ty T)) := by
  subst hK
  intro pins s σ H xs us Q I r h
  obtain ⟨a, D, b, rfl, ha, k, e, q⟩ := h
  obtain ⟨u, w', rfl, ru, rw'⟩ := vals2 r
  cases (show u = Value.ref a from ru)
  cases (show w' = Value.type T from rw')
  exact isi_exc I ha k e q
end
end L2

set_option Elab.async false
set_option linter.all false
set_option maxRecDepth 100000
set_option maxHeartbeats 4000000
namespace An05
open PySem L2 An
seal L2.PS L2.PSs L2.PE L2.PT L2.PW L2.PA L2.PG L2.PGs L2.PI L2.PFi L2.PC
def top (i : Nat) : Stmt := PySem.Challenge.pw_annals_k05_paths.main.body.getD i (.Pass ⟨0, 0, 0, 0⟩)
def kinds : List String := ["NoneType", "bool", "int", "str", "list", "tuple", "dict"]
/-- what the walk asks of the text's top -/
structure Txt (K : PySem.W.Frag) (mg : Str → Option Value) (t1 t2 t3 t4 : Tok) (aP aF aA b1 b2 b3 b4 b5 b6 b7 b8 : Addr) : Prop where
  len : mg "len" = none
  all : mg "all" = none
  any : mg "any" = none
  ord : mg "ord" = none
  isinstance : mg "isinstance" = none
  str : mg "str" = none
  dict : mg "dict" = none
  tuple : mg "tuple" = none
  LONGEST_LINE : mg "LONGEST_LINE" = some (.int 20 t1)
  LONGEST_LABEL : mg "LONGEST_LABEL" = some (.int 8 t2)
  MOST_LABELS : mg "MOST_LABELS" = some (.int 4 t3)
  PERCENT : mg "PERCENT" = some (.int 37 t4)
  list : mg "list" = none
  range : mg "range" = none
  bool : mg "bool" = none
  max : mg "max" = none
  ValueError : mg "ValueError" = none
  BadPath : mg "BadPath" = some (.ref aP)
  BadFiles : mg "BadFiles" = some (.ref aF)
  AnnalsError : mg "AnnalsError" = some (.ref aA)
  NoName : mg "NoName" = some (.ref b1)
  NoThing : mg "NoThing" = some (.ref b2)
  BadLine : mg "BadLine" = some (.ref b3)
  NoBranch : mg "NoBranch" = some (.ref b4)
  BadBranch : mg "BadBranch" = some (.ref b5)
  Clash : mg "Clash" = some (.ref b6)
  NoVersion : mg "NoVersion" = some (.ref b7)
  NoFit : mg "NoFit" = some (.ref b8)
  xBadPath : PySem.W.excIn K aP mroVE "ValueError.__new__" = true
  xBadFiles : PySem.W.excIn K aF mroVE "ValueError.__new__" = true
  exmP : PySem.W.exmOne K (.ref aP) (.ref aA) = some true
  exmF : PySem.W.exmOne K (.ref aF) (.ref aA) = some true
  ekP : PySem.W.ExcKit K aP
  ekF : PySem.W.ExcKit K aF
  p1 : PySem.W.kitOne K (.ref aP) (.ref b1) = some false
  p2 : PySem.W.kitOne K (.ref aP) (.ref b2) = some false
  p3 : PySem.W.kitOne K (.ref aP) (.ref b3) = some false
  p4 : PySem.W.kitOne K (.ref aP) (.ref b4) = some false
  p5 : PySem.W.kitOne K (.ref aP) (.ref b5) = some false
  p6 : PySem.W.kitOne K (.ref aP) (.ref b6) = some false
  p7 : PySem.W.kitOne K (.ref aP) (.ref b7) = some false
  p8 : PySem.W.kitOne K (.ref aP) (.ref b8) = some false
  pP : PySem.W.kitOne K (.ref aP) (.ref aP) = some true
  pF : PySem.W.kitOne K (.ref aP) (.ref aF) = some false
  pV : PySem.W.kitOne K (.ref aP) (.type "ValueError") = some true
  f1 : PySem.W.kitOne K (.ref aF) (.ref b1) = some false
  f2 : PySem.W.kitOne K (.ref aF) (.ref b2) = some false
  f3 : PySem.W.kitOne K (.ref aF) (.ref b3) = some false
  f4 : PySem.W.kitOne K (.ref aF) (.ref b4) = some false
  f5 : PySem.W.kitOne K (.ref aF) (.ref b5) = some false
  f6 : PySem.W.kitOne K (.ref aF) (.ref b6) = some false
  f7 : PySem.W.kitOne K (.ref aF) (.ref b7) = some false
  f8 : PySem.W.kitOne K (.ref aF) (.ref b8) = some false
  fP : PySem.W.kitOne K (.ref aF) (.ref aP) = some false
  fF : PySem.W.kitOne K (.ref aF) (.ref aF) = some true
  fV : PySem.W.kitOne K (.ref aF) (.type "ValueError") = some true
  kit : ∀ a ∈ kinds, ∀ b ∈ kinds, PySem.W.kitOne K (.type a) (.type b) = some (a == b || (a == "bool" && b == "int"))
theorem nameD_in (d : PyData) : nameD d ∈ kinds := by cases d <;> simp [nameD, kinds]
/-! ### promises -/
def spPath (K : PySem.W.Frag) : Sp := fun vs H Q _ => ∃ (d : PyData) (v : V), vs = [v] ∧ Dw K H d v ∧ small d = true ∧ ∀ H', Same H H' → Q (.bl (pathD d)) H'
def spLabels (K : PySem.W.Frag) (aP : Addr) : Sp := fun vs H Q E => ∃ (d : PyData) (v : V), vs = [v] ∧ Dw K H d v ∧ small d = true ∧ (∀ x, d = .str x → pathB x = true → ∀ p H', Same H H' → SqL K H' p ((labs x).map V.str) → Q (.ref p) H') ∧ (pathD d = false → ∀ H', Same H H' → E (.ref aP) none H')
def spOver : Sp := fun vs H Q _ => ∃ x y : Str, vs = [.str x, .str y] ∧ x.length ≤ 1000 ∧ Q (.bl (overB x y)) H
def spFols (K : PySem.W.Frag) : Sp := fun vs H Q _ => ∃ x : Str, vs = [.str x] ∧ x.length ≤ 1000 ∧ ∀ p H', Same H H' → SqL K H' p ((fols x).map V.str) → Q (.ref p) H'
def spFile (K : PySem.W.Frag) : Sp := fun vs H Q _ => ∃ (d e : PyData) (v u : V), vs = [v, u] ∧ Dw K H d v ∧ Dw K H e u ∧ small d = true ∧ small e = true ∧ ∀ H', Same H H' → Q (.bl (pathD d && linesD e)) H'
def keyD : Key → PyData
  | .inl i => .int i
  | .inr x => .str x
theorem keyD_at {K : PySem.W.Frag} {H : Hp} (k : Key) : Dw K H (keyD k) (kV k) := by cases k <;> rfl
def fileB (p : Key × PyData) : Bool := pathD (keyD p.1) && linesD p.2
def memK (k : Key) (ks : List Key) : Bool := ks.any fun j => decide (j = k)
theorem memK_iff {k : Key} {ks : List Key} : memK k ks = true ↔ k ∈ ks := by
  unfold memK
  rw [List.any_eq_true]
  exact ⟨fun ⟨j, h1, h2⟩ => of_decide_eq_true h2 ▸ h1, fun h => ⟨k, h, decide_eq_true rfl⟩⟩
def clashK (ks : List Key) : Key → Bool
  | .inl _ => false
  | .inr x => (fols x).any fun f => memK (.inr f) ks
def goodB (ps : List (Key × PyData)) : Bool := ps.all fileB && ps.all fun p => !clashK (ps.map (·.1)) p.1
/-- the pairs read as these data -/
def PairsAt (K : PySem.W.Frag) (H : Hp) : List (Key × PyData) → List (Key × V) → Prop
  | [], kvs => kvs = []
  | p :: ps, kvs => ∃ v r, kvs = (p.1, v) :: r ∧ Dw K H p.2 v ∧ small (keyD p.1) = true ∧ small p.2 = true ∧ PairsAt K H ps r
theorem PairsAt.same {K : PySem.W.Frag} {H H' : Hp} (e : Same H H') : ∀ {ps : List (Key × PyData)} {kvs : List (Key × V)}, PairsAt K H ps kvs → PairsAt K H' ps kvs
  | [], _, h => h
  | p :: ps, _, ⟨v, r, h1, h2, h3, h4, h5⟩ => ⟨v, r, h1, Dw.same e _ _ h2, h3, h4, PairsAt.same e h5⟩
theorem PairsAt.keys {K : PySem.W.Frag} {H : Hp} : ∀ {ps : List (Key × PyData)} {kvs : List (Key × V)}, PairsAt K H ps kvs → kvs.map (·.1) = ps.map (·.1)
  | [], _, h => by rw [show _ = [] from h]; rfl
  | p :: ps, _, ⟨v, r, h1, h2, h3, h4, h5⟩ => by rw [h1, List.map_cons, List.map_cons, PairsAt.keys h5]
theorem PairsAt.length {K : PySem.W.Frag} {H : Hp} {ps : List (Key × PyData)} {kvs : List (Key × V)} (h : PairsAt K H ps kvs) : kvs.length = ps.length := by
  have := congrArg List.length h.keys
  rw [List.length_map, List.length_map] at this
  exact this
theorem PairsAt.get {K : PySem.W.Frag} {H : Hp} : ∀ {ps : List (Key × PyData)} {kvs : List (Key × V)} {i : Nat} {k : Key} {v : V}, PairsAt K H ps kvs → kvs[i]? = some (k, v) → ∃ d, ps[i]? = some (k, d) ∧ Dw K H d v ∧ small (keyD k) = true ∧ small d = true
  | [], _, i, _, _, h, e => by rw [show _ = [] from h] at e; cases e
  | p :: ps, _, 0, k, v, ⟨v', r, h1, h2, h3, h4, h5⟩, e => by
    rw [h1] at e
    have e : (p.1, v') = (k, v) := Option.some.inj e
    injection e with e1 e2
    subst e2
    obtain ⟨pk, pd⟩ := p
    have e1 : pk = k := e1
    subst e1
    exact ⟨pd, rfl, h2, h3, h4⟩
  | p :: ps, _, i + 1, k, v, ⟨v', r, h1, h2, h3, h4, h5⟩, e => by
    rw [h1] at e
    obtain ⟨d, q⟩ := PairsAt.get (i := i) h5 (by simpa using e)
    exact ⟨d, by simpa using q.1, q.2⟩
def spNeed (K : PySem.W.Frag) (aF : Addr) : Sp := fun vs H Q E => ∃ v : V, vs = [v] ∧
  ((∃ d, Dw K H d v ∧ (nameD d == "dict") = false ∧ ∀ H', Same H H' → E (.ref aF) none H') ∨
   (∃ a ob kvs ps, v = .ref a ∧ H a = some (.frz ob (.dK kvs)) ∧ PairsAt K H ps kvs ∧ ps.length ≤ 100 ∧ (goodB ps = true → ∀ H', Same H H' → Q .non H') ∧ (goodB ps = false → ∀ H', Same H H' → E (.ref aF) none H')))
theorem sl47 : [V.str "/"] = [V.str ⟨#[47]⟩] := by rw [stroke_is]; rfl
theorem labs47 (x : Str) : PySem.Txt.split x ⟨#[47]⟩ = labs x := by unfold labs; rw [stroke_is]; rfl
theorem val_some {kvs : List (Key × V)} {k : Key} : (valV kvs k).isSome = memK k (kvs.map (·.1)) := by
  cases e : valV kvs k with
  | none => rw [Bool.eq_false_iff.mpr (fun z => valV_not e (memK_iff.mp z))]; rfl
  | some v => rw [memK_iff.mpr (valV_in e)]; rfl
section
variable {P : Program} {w : World} {K : PySem.W.Frag} {mg : Str → Option Value} {base : Heap} {t1 t2 t3 t4 : Tok} {aP aF aA b1 b2 b3 b4 b5 b6 b7 b8 : Addr}
theorem Txt.is {d : PyData} {T : String} (t : Txt K mg t1 t2 t3 t4 aP aF aA b1 b2 b3 b4 b5 b6 b7 b8) (hT : T ∈ kinds) : PySem.W.kitOne K (.type (nameD d)) (.type T) = some (nameD d == T || (nameD d == "bool" && T == "int")) := t.kit _ (nameD_in d) _ hT
namespace f_is_sign
abbrev st : Stmt := top 16
theorem sc : FnScope ["sign"] ["sign"] (defScope st) := ⟨rfl, rfl, rfl, by decide +kernel, rfl, by decide +kernel, by decide +kernel⟩
theorem ok {f : Addr} {fd : FuncData} (F : Fun K "is_sign" "is_sign" st f fd) (T : Txt K mg t1 t2 t3 t4 aP aF aA b1 b2 b3 b4 b5 b6 b7 b8) : FnOk P w K mg base CX0 1 f fd ["sign"] spSign := by
  refine F.ok sc (fun vs H Q E h => ?_) (fun cdv A outer s H vs Q E hr h => ?_)
  · obtain ⟨c, rfl, _⟩ := h
    rfl
  · obtain ⟨c, rfl, k⟩ := h
    refine ⟨_, (pss_one (ps_ret (pe_and (pe_chain op_leS op_leS pe_str (pv 0) pe_str) (pe_one (pe_cmpR op_ne (pe_callB call_ord (by rfl) T.ord PyProof.Rows.boot_ord (pa_cons (pv 0) pa_nil)) (pe_glob (v := .int 37) rfl T.PERCENT ⟨_, rfl⟩) (nomark _)))))), ?_⟩
    refine ⟨_, rfl, _, _, rfl, rfl, _, rfl, ?_⟩
    rw [le_one c 32 " " (by decide +kernel)]
    refine ite2 (fun h1 => ?_) (fun h1 => ?_)
    · refine ⟨_, _, rfl, rfl, _, rfl, ?_⟩
      rw [one_le c 126 "~" (by decide +kernel)]
      refine ite2 (fun h2 => ?_) (fun h2 => ?_)
      · refine ⟨_, rfl, _, rfl, rfl, rfl, ?_⟩
        have e : signB c = !decide (V.int (((⟨#[c]⟩ : Str).cps.getD 0 0 : Nat) : Int) = V.int 37) := by
          unfold signB
          rw [h1, h2]
          show decide (c ≠ 37) = !decide (V.int (c : Int) = V.int 37)
          rw [eq_comm]
          exact not_dec ⟨fun h z => h (by rw [z]; rfl), fun h z => h (by injection z with z; omega)⟩
        rw [e] at k
        exact k
      · have e : signB c = false := by
          unfold signB
          rw [h1, Bool.eq_false_iff.mpr h2]; rfl
        rw [e] at k
        exact k
    · have e : signB c = false := by
        unfold signB
        rw [Bool.eq_false_iff.mpr h1]; rfl
      rw [e] at k
      exact ⟨_, rfl, k⟩
end f_is_sign
namespace f_is_line
abbrev st : Stmt := top 17
theorem sc : FnScope ["thing"] ["thing"] (defScope st) := ⟨rfl, rfl, rfl, by decide +kernel, rfl, by decide +kernel, by decide +kernel⟩
theorem ok {f : Addr} {fd : FuncData} (F : Fun K "is_line" "is_line" st f fd) (T : Txt K mg t1 t2 t3 t4 aP aF aA b1 b2 b3 b4 b5 b6 b7 b8) (C_is_sign : Cal P w K mg base 1 "is_sign" ["sign"] spSign) : FnOk P w K mg base CX0 2 f fd ["thing"] (spLine K) := by
  refine F.ok sc (fun vs H Q E h => ?_) (fun cdv A outer s H vs Q E hr h => ?_)
  · obtain ⟨d, v, rfl, _⟩ := h
    rfl
  · obtain ⟨d, v, rfl, hd, sm, k⟩ := h
    refine ⟨_, (pss_one (ps_ret (pe_and (pe_callB (call_isinstD (K := K)) (by rfl) T.isinstance PyProof.Rows.boot_isinstance (pa_cons (pv 0) (pa_cons (pe_bltn (v := .ty "str") rfl T.str PyProof.Rows.boot_str rfl) pa_nil))) (pe_and (pe_cmpR op_le (pe_callB call_len_str (by rfl) T.len PySem.boot_len (pa_cons (pv 0) pa_nil)) (pe_glob (v := .int 20) rfl T.LONGEST_LINE ⟨_, rfl⟩) (nomark _)) (pe_one (pe_callB (call_all rfl) (by rfl) T.all PyProof.Rows.boot_all (pa_cons (pe_comp (sc := defScope st) (N := ["thing"]) (N' := ["sign"]) (src := [none]) ⟨by decide +kernel, rfl, rfl, by decide +kernel, by decide +kernel, by decide +kernel, by decide +kernel⟩ rfl rfl rfl (pi_str (pv 0)) (fun _ _ _ _ => (pg_name (i := 0) (show (["sign"] : List Str).Nodup by decide +kernel) rfl (Or.inl rfl))) (fun _ _ _ _ => pf_nil) (fun _ _ _ _ => (pe_callC C_is_sign (hr.mono (by decide)) (pa_cons (pv 0) pa_nil)))) pa_nil))))))), ?_⟩
    refine ⟨_, rfl, _, _, d, _, rfl, hd, T.is (by simp [kinds]), _, rfl, ?_⟩
    cases d with
    | str x =>
      cases (show v = _ from hd)
      have xl : x.length ≤ 1000 := of_decide_eq_true sm
      refine iteT ⟨_, rfl, x, rfl, le_line (by omega), _, _, rfl, rfl, _, rfl, ite2 (fun h1 => ?_) (fun h1 => ?_)⟩
      · have h1 : x.length ≤ 20 := by have := of_decide_eq_true h1; omega
        refine ⟨_, rfl, _, rfl, comp_str0 (fun i ys σ H2 => ∃ o, σ = [o] ∧ H2 = H ∧ ys = (((cs x).take i).map signB).map V.bl) ⟨none, rfl, rfl, rfl⟩ (le_line (by omega)) ?_ ?_ ?_⟩
        · rintro i ys σ H2 hi ⟨o, rfl, rfl, rfl⟩
          rw [List.length_map, List.length_map, List.length_take]; omega
        · rintro i c ys σ H2 hc ⟨o, rfl, rfl, rfl⟩
          refine ⟨_, rfl, c, rfl, _, rfl, rfl, ?_⟩
          rw [all_take_succ (cs_get hc), List.map_append]; rfl
        · rintro ys σ H2 ⟨o, rfl, rfl, rfl⟩ p np
          refine ⟨p, _, rfl, SqL.of upd_same, ?_⟩
          rw [length_cs, List.take_length, all_map]
          have e : lineD (.str x) = (cs x).all signB := by
            show (decide (x.length ≤ 20) && (cs x).all signB) = _
            rw [decide_eq_true h1]; rfl
          rw [e] at k
          exact k _ (same_upd np)
      · have e : lineD (.str x) = false := by
          show (decide (x.length ≤ 20) && (cs x).all signB) = _
          rw [decide_eq_false (fun z => h1 (decide_eq_true (by omega)))]; rfl
        rw [e] at k
        exact k _ (Same.refl _)
    | none => exact iteF (k _ (Same.refl _))
    | bool b => exact iteF (k _ (Same.refl _))
    | int i => exact iteF (k _ (Same.refl _))
    | list ds => exact iteF (k _ (Same.refl _))
    | tuple ds => exact iteF (k _ (Same.refl _))
    | dict kvs => exact iteF (k _ (Same.refl _))
end f_is_line
namespace f_is_lines
abbrev st : Stmt := top 18
theorem sc : FnScope ["thing"] ["thing"] (defScope st) := ⟨rfl, rfl, rfl, by decide +kernel, rfl, by decide +kernel, by decide +kernel⟩
theorem ok {f : Addr} {fd : FuncData} (F : Fun K "is_lines" "is_lines" st f fd) (T : Txt K mg t1 t2 t3 t4 aP aF aA b1 b2 b3 b4 b5 b6 b7 b8) (C_is_line : Cal P w K mg base 2 "is_line" ["thing"] (spLine K)) : FnOk P w K mg base CX0 3 f fd ["thing"] (spLines K) := by
  refine F.ok sc (fun vs H Q E h => ?_) (fun cdv A outer s H vs Q E hr h => ?_)
  · obtain ⟨d, v, rfl, _⟩ := h
    rfl
  · obtain ⟨d, v, rfl, hd, sm, k⟩ := h
    refine ⟨_, (pss_one (ps_ret (pe_and (pe_callB (call_isinstD (K := K)) (by rfl) T.isinstance PyProof.Rows.boot_isinstance (pa_cons (pv 0) (pa_cons (pe_bltn (v := .ty "tuple") rfl T.tuple PyProof.Rows.boot_tuple rfl) pa_nil))) (pe_one (pe_callB (call_all rfl) (by rfl) T.all PyProof.Rows.boot_all (pa_cons (pe_comp (sc := defScope st) (N := ["thing"]) (N' := ["line"]) (src := [none]) ⟨by decide +kernel, rfl, rfl, by decide +kernel, by decide +kernel, by decide +kernel, by decide +kernel⟩ rfl rfl rfl (pi_tup (pv 0)) (fun _ _ _ _ => (pg_name (i := 0) (show (["line"] : List Str).Nodup by decide +kernel) rfl (Or.inl rfl))) (fun _ _ _ _ => pf_nil) (fun _ _ _ _ => (pe_callC C_is_line (hr.mono (by decide)) (pa_cons (pv 0) pa_nil)))) pa_nil)))))), ?_⟩
    refine ⟨_, rfl, _, _, d, _, rfl, hd, T.is (by simp [kinds]), _, rfl, ?_⟩
    cases d with
    | tuple ds =>
      obtain ⟨a, xs, rfl, hs, ha⟩ := hd
      obtain ⟨sl, sa⟩ := small_tuple sm
      have hlen := ha.length
      refine iteT ⟨_, rfl, a, rfl, ⟨_, hs⟩, comp_tup0 (K := K) (a := a) (xs := xs) (fun i ys σ H2 => ∃ o, σ = [o] ∧ Same H H2 ∧ ys = ((ds.take i).map lineD).map V.bl) ⟨none, rfl, Same.refl _, rfl⟩ (le_line (by omega)) ?_ ?_ ?_⟩
      · rintro i ys σ H2 hi ⟨o, rfl, e2, rfl⟩
        refine ⟨e2.tupS hs, ?_⟩
        rw [List.length_map, List.length_map, List.length_take]; omega
      · rintro i x ys σ H2 hx ⟨o, rfl, e2, rfl⟩
        obtain ⟨d, hd, dx⟩ := ha.get hx
        refine ⟨_, rfl, d, x, rfl, dx.same e2, smallAll_get sa hd, fun H3 e3 => ⟨_, rfl, e2.trans e3, ?_⟩⟩
        rw [all_take_succ hd, List.map_append]; rfl
      · rintro ys σ H2 ⟨o, rfl, e2, rfl⟩ p np
        refine ⟨p, _, rfl, SqL.of upd_same, ?_⟩
        rw [hlen, List.take_length, all_map]
        exact k _ (e2.trans (same_upd np))
    | none => exact iteF (k _ (Same.refl _))
    | bool b => exact iteF (k _ (Same.refl _))
    | int i => exact iteF (k _ (Same.refl _))
    | list ds => exact iteF (k _ (Same.refl _))
    | str x => exact iteF (k _ (Same.refl _))
    | dict kvs => exact iteF (k _ (Same.refl _))
end f_is_lines
namespace g_label
abbrev st : Stmt := top 19
theorem sc : FnScope ["thing"] ["thing"] (defScope st) := ⟨rfl, rfl, rfl, by decide +kernel, rfl, by decide +kernel, by decide +kernel⟩
theorem ok {f : Addr} {fd : FuncData} (F : Fun K "is_label" "is_label" st f fd) (T : Txt K mg t1 t2 t3 t4 aP aF aA b1 b2 b3 b4 b5 b6 b7 b8) : FnOk P w K mg base CX0 1 f fd ["thing"] (spLabel K) := by
  refine F.ok sc (fun vs H Q E h => ?_) (fun cdv A outer s H vs Q E hr h => ?_)
  · obtain ⟨d, v, rfl, _⟩ := h
    rfl
  · obtain ⟨d, v, rfl, hd, sm, k⟩ := h
    refine ⟨_, (pss_cons (ps_if (pt_not (pt_truthK (K := K) (pe_callB (call_isinstD (K := K)) (by rfl) T.isinstance PyProof.Rows.boot_isinstance (pa_cons (pv 0) (pa_cons (pe_bltn (v := .ty "str") rfl T.str PyProof.Rows.boot_str rfl) pa_nil))) (fun _ => rfl)))
        (pss_one (ps_ret pe_bl))
        pss_nil)
      (pss_one (ps_ret (pe_and (pe_chain op_le op_le pe_int (pe_callB call_len_str (by rfl) T.len PySem.boot_len (pa_cons (pv 0) pa_nil)) (pe_glob (v := .int 8) rfl T.LONGEST_LABEL ⟨_, rfl⟩)) (pe_one (pe_callB (call_all rfl) (by rfl) T.all PyProof.Rows.boot_all (pa_cons (pe_comp (sc := defScope st) (N := ["thing"]) (N' := ["sign"]) (src := [none]) ⟨by decide +kernel, rfl, rfl, by decide +kernel, by decide +kernel, by decide +kernel, by decide +kernel⟩ rfl rfl rfl (pi_str (pv 0)) (fun _ _ _ _ => (pg_name (i := 0) (show (["sign"] : List Str).Nodup by decide +kernel) rfl (Or.inl rfl))) (fun _ _ _ _ => pf_nil) (fun _ _ _ _ => (pe_chain op_leS op_leS pe_str (pv 0) pe_str))) pa_nil))))))), ?_⟩
    refine ⟨_, rfl, _, _, d, _, rfl, hd, T.is (by simp [kinds]), _, rfl, ?_⟩
    cases d with
    | str x =>
      cases (show v = _ from hd)
      have xl : x.length ≤ 1000 := of_decide_eq_true sm
      refine iteF ?_
      refine ⟨_, rfl, x, rfl, le_line (by omega), _, _, rfl, rfl, _, rfl, ite2 (fun h0 => ?_) (fun h0 => ?_)⟩
      · refine ⟨_, _, rfl, rfl, _, rfl, ite2 (fun h1 => ?_) (fun h1 => ?_)⟩
        · have h0 : 1 ≤ x.length := by have := of_decide_eq_true h0; omega
          have h1 : x.length ≤ 8 := by have := of_decide_eq_true h1; omega
          refine ⟨_, rfl, _, rfl, comp_str0 (fun i ys σ H2 => ∃ o, σ = [o] ∧ H2 = H ∧ ys = (((cs x).take i).map lowB).map V.bl) ⟨none, rfl, rfl, rfl⟩ (le_line (by omega)) ?_ ?_ ?_⟩
          · rintro i ys σ H2 hi ⟨o, rfl, rfl, rfl⟩
            rw [List.length_map, List.length_map, List.length_take]; omega
          · rintro i c ys σ H2 hc ⟨o, rfl, rfl, rfl⟩
            rw [all_take_succ (cs_get hc), List.map_append]
            refine ⟨_, rfl, _, _, rfl, rfl, _, rfl, ?_⟩
            rw [le_one c 97 "a" (by decide +kernel)]
            refine ite2 (fun h3 => ?_) (fun h3 => ?_)
            · refine ⟨_, _, rfl, rfl, ?_⟩
              rw [one_le c 122 "z" (by decide +kernel)]
              have e : lowB c = decide (c ≤ 122) := by unfold lowB; rw [h3]; rfl
              rw [e]
              exact ⟨_, rfl, rfl, rfl⟩
            · have e : lowB c = false := by unfold lowB; rw [Bool.eq_false_iff.mpr h3]; rfl
              rw [e]
              exact ⟨_, rfl, rfl, rfl⟩
          · rintro ys σ H2 ⟨o, rfl, rfl, rfl⟩ p np
            refine ⟨p, _, rfl, SqL.of upd_same, ?_⟩
            rw [length_cs, List.take_length, all_map]
            have e : labelD (.str x) = (cs x).all lowB := by
              show (decide (1 ≤ x.length) && decide (x.length ≤ 8) && (cs x).all lowB) = _
              rw [decide_eq_true h0, decide_eq_true h1]; rfl
            rw [e] at k
            exact k _ (same_upd np)
        · have e : labelD (.str x) = false := by
            show (decide (1 ≤ x.length) && decide (x.length ≤ 8) && (cs x).all lowB) = _
            rw [decide_eq_false (p := x.length ≤ 8) (fun z => h1 (decide_eq_true (by omega))), Bool.and_false]; rfl
          rw [e] at k
          exact k _ (Same.refl _)
      · have e : labelD (.str x) = false := by
          show (decide (1 ≤ x.length) && decide (x.length ≤ 8) && (cs x).all lowB) = _
          rw [decide_eq_false (p := 1 ≤ x.length) (fun z => h0 (decide_eq_true (by omega)))]; rfl
        rw [e] at k
        exact ⟨_, rfl, k _ (Same.refl _)⟩
    | none => exact iteT (k _ (Same.refl _))
    | bool b => exact iteT (k _ (Same.refl _))
    | int i => exact iteT (k _ (Same.refl _))
    | list ds => exact iteT (k _ (Same.refl _))
    | tuple ds => exact iteT (k _ (Same.refl _))
    | dict kvs => exact iteT (k _ (Same.refl _))
end g_label
namespace p_path
abbrev st : Stmt := top 22
theorem sc : FnScope ["thing", "labels"] ["thing"] (defScope st) := ⟨rfl, rfl, rfl, by decide +kernel, rfl, by decide +kernel, by decide +kernel⟩
theorem ok {f : Addr} {fd : FuncData} (F : Fun K "is_path" "is_path" st f fd) (T : Txt K mg t1 t2 t3 t4 aP aF aA b1 b2 b3 b4 b5 b6 b7 b8) (C_is_label : Cal P w K mg base 1 "is_label" ["thing"] (spLabel K)) : FnOk P w K mg base CX0 2 f fd ["thing"] (spPath K) := by
  refine F.ok sc (fun vs H Q E h => ?_) (fun cdv A outer s H vs Q E hr h => ?_)
  · obtain ⟨d, v, rfl, _⟩ := h
    rfl
  · obtain ⟨d, v, rfl, hd, sm, k⟩ := h
    refine ⟨_, (pss_cons (ps_if (pt_not (pt_truthK (K := K) (pe_callB (call_isinstD (K := K)) (by rfl) T.isinstance PyProof.Rows.boot_isinstance (pa_cons (pv 0) (pa_cons (pe_bltn (v := .ty "str") rfl T.str PyProof.Rows.boot_str rfl) pa_nil))) (fun _ => rfl)))
        (pss_one (ps_ret pe_bl))
        pss_nil)
      (pss_cons (ps_set (i := 1) sc.nd rfl (Or.inl rfl) (pe_bm PySem.F.plainAttrs_str PySem.F.slot_str_split PySem.F.type_str_split mt_split (pv 0) (pa_cons pe_str pa_nil)))
      (pss_one (ps_ret (pe_and (pe_cmpR op_le (pe_callB call_len_seq (by rfl) T.len PySem.boot_len (pa_cons (pv 1) pa_nil)) (pe_glob (v := .int 4) rfl T.MOST_LABELS ⟨_, rfl⟩) (nomark _)) (pe_one (pe_callB (call_all rfl) (by rfl) T.all PyProof.Rows.boot_all (pa_cons (pe_comp (sc := defScope st) (N := ["thing", "labels"]) (N' := ["label"]) (src := [none]) ⟨by decide +kernel, rfl, rfl, by decide +kernel, by decide +kernel, by decide +kernel, by decide +kernel⟩ rfl rfl rfl (pi_list (pv 1)) (fun _ _ _ _ => (pg_name (i := 0) (show (["label"] : List Str).Nodup by decide +kernel) rfl (Or.inl rfl))) (fun _ _ _ _ => pf_nil) (fun _ _ _ _ => (pe_callC C_is_label (hr.mono (by decide)) (pa_cons (pv 0) pa_nil)))) pa_nil)))))))), ?_⟩
    refine ⟨_, rfl, _, _, d, _, rfl, hd, T.is (by simp [kinds]), _, rfl, ?_⟩
    cases d with
    | str x =>
      cases (show v = _ from hd)
      have xl : x.length ≤ 1000 := of_decide_eq_true sm
      have cl := labs_cnt x
      refine iteF ⟨_, rfl, rfl, x, 47, rfl, sl47, by omega, fun l nl => ?_⟩
      rw [labs47]
      have u := same_upd (o := .lst ((labs x).map V.str)) nl
      refine ⟨_, rfl, l, _, rfl, .inl (SqL.of upd_same), _, _, rfl, rfl, _, rfl, ite2 (fun h1 => ?_) (fun h1 => ?_)⟩
      · have h1 : (labs x).length ≤ 4 := by have := of_decide_eq_true h1; rw [List.length_map] at this; omega
        refine ⟨_, rfl, l, rfl, ⟨_, SqL.of upd_same⟩, comp_list0 (K := K) (a := l) (xs := (labs x).map V.str) (fun i ys σ H2 => ∃ o, σ = [o] ∧ Same (upd H l (.lst ((labs x).map V.str))) H2 ∧ ys = (((labs x).take i).map labelB).map V.bl) ⟨none, rfl, Same.refl _, rfl⟩ (le_line (by rw [List.length_map]; omega)) ?_ ?_ ?_⟩
        · rintro i ys σ H2 hi ⟨o, rfl, e2, rfl⟩
          refine ⟨SqL.of (e2 _ _ upd_same), ?_⟩
          rw [List.length_map, List.length_map, List.length_take]; omega
        · rintro i y ys σ H2 hy ⟨o, rfl, e2, rfl⟩
          rw [List.getElem?_map] at hy
          cases q : (labs x)[i]? with
          | none => rw [q] at hy; cases hy
          | some z =>
            rw [q] at hy
            have hy : V.str z = y := Option.some.inj hy
            subst hy
            have zl := labs_len (List.mem_of_getElem? q)
            refine ⟨_, rfl, .str z, _, rfl, rfl, decide_eq_true (by omega), fun H3 s3 => ⟨_, rfl, e2.trans s3, ?_⟩⟩
            rw [all_take_succ q, List.map_append]; rfl
        · rintro ys σ H2 ⟨o, rfl, e2, rfl⟩ p np
          refine ⟨p, _, rfl, SqL.of upd_same, ?_⟩
          rw [List.length_map, List.take_length, all_map]
          have e : pathD (.str x) = (labs x).all labelB := by
            show (decide ((labs x).length ≤ 4) && (labs x).all labelB) = _
            rw [decide_eq_true h1]; rfl
          rw [e] at k
          exact k _ ((u.trans e2).trans (same_upd np))
      · have e : pathD (.str x) = false := by
          show (decide ((labs x).length ≤ 4) && (labs x).all labelB) = _
          rw [decide_eq_false (p := (labs x).length ≤ 4) (fun z => h1 (decide_eq_true (by rw [List.length_map]; omega)))]; rfl
        rw [e] at k
        exact k _ u
    | none => exact iteT (k _ (Same.refl _))
    | bool b => exact iteT (k _ (Same.refl _))
    | int i => exact iteT (k _ (Same.refl _))
    | list ds => exact iteT (k _ (Same.refl _))
    | tuple ds => exact iteT (k _ (Same.refl _))
    | dict kvs => exact iteT (k _ (Same.refl _))
end p_path
namespace p_labels
abbrev st : Stmt := top 23
theorem sc : FnScope ["path"] ["path"] (defScope st) := ⟨rfl, rfl, rfl, by decide +kernel, rfl, by decide +kernel, by decide +kernel⟩
theorem ok {f : Addr} {fd : FuncData} (F : Fun K "labels_of" "labels_of" st f fd) (T : Txt K mg t1 t2 t3 t4 aP aF aA b1 b2 b3 b4 b5 b6 b7 b8) (C_is_path : Cal P w K mg base 2 "is_path" ["thing"] (spPath K)) : FnOk P w K mg base (CXF P w) 3 f fd ["path"] (spLabels K aP) := by
  refine F.okX sc (fun vs H Q E h => ?_) (fun cdv A outer s H vs Q E hr h => ?_)
  · obtain ⟨d, v, rfl, _⟩ := h
    rfl
  · obtain ⟨d, v, rfl, hd, sm, k1, k2⟩ := h
    refine ⟨_, (pss_cons (ps_if (pt_not (pt_truthK (K := K) (pe_callC C_is_path (hr.mono (by decide)) (pa_cons (pv 0) pa_nil)) (fun _ => rfl)))
        (pss_one (ps_raise rfl throws_fn rfl T.BadPath T.xBadPath (pa_cons pe_str pa_nil)))
        pss_nil)
      (pss_one (ps_ret (pe_bm PySem.F.plainAttrs_str PySem.F.slot_str_split PySem.F.type_str_split mt_split (pv 0) (pa_cons pe_str pa_nil))))), ?_⟩
    refine ⟨_, rfl, d, v, rfl, hd, sm, fun H2 s2 => ⟨_, rfl, ?_⟩⟩
    cases q : pathD d with
    | true =>
      cases d with
      | str x =>
        cases (show v = _ from hd)
        have xl : x.length ≤ 1000 := of_decide_eq_true sm
        refine iteF ⟨_, rfl, rfl, x, 47, rfl, sl47, by omega, fun l nl => ?_⟩
        rw [labs47]
        exact k1 x rfl q l _ (s2.trans (same_upd nl)) (SqL.of upd_same)
      | none => cases q
      | bool b => cases q
      | int i => cases q
      | list ds => cases q
      | tuple ds => cases q
      | dict kvs => cases q
    | false => exact iteT ⟨lineN 1, k2 q _ s2⟩
end p_labels
namespace p_over
abbrev st : Stmt := top 24
theorem sc : FnScope ["one", "other"] ["one", "other"] (defScope st) := ⟨rfl, rfl, rfl, by decide +kernel, rfl, by decide +kernel, by decide +kernel⟩
theorem ok {f : Addr} {fd : FuncData} (F : Fun K "path_over" "path_over" st f fd) (T : Txt K mg t1 t2 t3 t4 aP aF aA b1 b2 b3 b4 b5 b6 b7 b8) : FnOk P w K mg base CX0 1 f fd ["one", "other"] spOver := by
  refine F.ok sc (fun vs H Q E h => ?_) (fun cdv A outer s H vs Q E hr h => ?_)
  · obtain ⟨x, y, rfl, _⟩ := h
    rfl
  · obtain ⟨x, y, rfl, xl, k⟩ := h
    refine ⟨_, (pss_one (ps_ret (pe_bm PySem.F.plainAttrs_str PySem.F.slot_str_startswith PySem.F.type_str_startswith mt_startswith (pv 1) (pa_cons (pe_op op_add_str (pv 0) pe_str) pa_nil)))), ?_⟩
    have e1 : ("/" : Str).length = 1 := by decide +kernel
    exact ⟨_, rfl, rfl, _, rfl, _, _, rfl, rfl, le_line (by rw [e1]; omega), _, _, rfl, rfl, k⟩
end p_over
namespace p_fols
abbrev st : Stmt := top 25
theorem sc : FnScope ["path", "labels"] ["path"] (defScope st) := ⟨rfl, rfl, rfl, by decide +kernel, rfl, by decide +kernel, by decide +kernel⟩
theorem ok {f : Addr} {fd : FuncData} (F : Fun K "folders_of" "folders_of" st f fd) (T : Txt K mg t1 t2 t3 t4 aP aF aA b1 b2 b3 b4 b5 b6 b7 b8) : FnOk P w K mg base CX0 1 f fd ["path"] (spFols K) := by
  refine F.ok sc (fun vs H Q E h => ?_) (fun cdv A outer s H vs Q E hr h => ?_)
  · obtain ⟨x, rfl, _⟩ := h
    rfl
  · obtain ⟨x, rfl, xl, k⟩ := h
    refine ⟨_, (pss_cons (ps_set (i := 1) sc.nd rfl (Or.inr rfl) (pe_bm PySem.F.plainAttrs_str PySem.F.slot_str_split PySem.F.type_str_split mt_split (pv 0) (pa_cons pe_str pa_nil)))
      (pss_one (ps_ret (pe_comp (sc := defScope st) (N := ["path", "labels"]) (N' := ["count", "labels"]) (src := [none, some 1]) ⟨by decide +kernel, rfl, rfl, by decide +kernel, by decide +kernel, by decide +kernel, by decide +kernel⟩ rfl rfl rfl (pi_range2 rfl T.range (pa_cons pe_int (pa_cons (pe_callB call_len_seq (by rfl) T.len PySem.boot_len (pa_cons (pv 1) pa_nil)) pa_nil))) (fun _ _ _ _ => (pg_name (i := 0) (show (["count", "labels"] : List Str).Nodup by decide +kernel) rfl (Or.inl rfl))) (fun _ _ _ _ => pf_nil) (fun _ _ _ _ => (pe_bmK (K := K) PySem.F.plainAttrs_str PySem.F.slot_str_join PySem.F.type_str_join (mt_joinK (K := K)) pe_str (pa_cons (pe_slice (sl_list : SlR _ (rSlL K)) (pv 1) po_none (po_some (pv 0))) pa_nil))))))), ?_⟩
    have cl := labs_cnt x
    have cp := labs_pos x
    have e1 : ("/" : Str).length = 1 := by decide +kernel
    refine ⟨_, rfl, rfl, x, 47, rfl, sl47, by omega, fun l nl => ?_⟩
    rw [labs47]
    have u := same_upd (o := .lst ((labs x).map V.str)) nl
    refine ⟨_, rfl, l, _, rfl, .inl (SqL.of upd_same), 1, (((labs x).map V.str).length : Int), rfl, ⟨by decide, by decide, by omega, by rw [List.length_map]; omega⟩, ?_⟩
    have en : ((((labs x).map V.str).length : Int) - 1).toNat = (labs x).length - 1 := by rw [List.length_map]; omega
    rw [en]
    refine comp_range0 (fun i ys σ H2 => ∃ o, σ = [o, some (.ref l)] ∧ Same (upd H l (.lst ((labs x).map V.str))) H2 ∧ ys = ((List.range i).map fun i => PySem.Txt.join "/" ((labs x).take (i + 1))).map V.str) ⟨none, rfl, Same.refl _, rfl⟩ (le_line (by omega)) ?_ ?_ ?_
    · rintro i ys σ H2 hi ⟨o, rfl, e2, rfl⟩
      rw [List.length_map, List.length_map, List.length_range]
      exact Nat.le_refl _
    · rintro i ys σ H2 hi ⟨o, rfl, e2, rfl⟩
      refine ⟨rfl, _, rfl, _, rfl, _, rfl, l, _, rfl, SqL.of (e2 _ _ upd_same), fun p np => ?_⟩
      have et : cutV ((labs x).map V.str) none (some (1 + (i : Int))) = ((labs x).take (i + 1)).map V.str := by
        rw [cut_to (by omega), List.map_take]
        congr 1
        omega
      rw [et]
      refine ⟨"/", p, (labs x).take (i + 1), rfl, rfl, .inl (SqL.of upd_same), ?_, _, rfl, e2.trans (same_upd np), ?_⟩
      · have h1 := sum_le (n := 1000) ((labs x).take (i + 1)) (fun y hy => by have := labs_len (List.mem_of_mem_take hy); omega)
        have h2 : ((labs x).take (i + 1)).length ≤ 1001 := by rw [List.length_take]; omega
        have h3 : ((labs x).take (i + 1)).length * 1000 ≤ 1001 * 1000 := Nat.mul_le_mul_right _ h2
        refine le_line ?_
        rw [e1]
        omega
      · rw [List.range_succ, List.map_append, List.map_append]; rfl
    · rintro ys σ H2 ⟨o, rfl, e2, rfl⟩ p np
      exact k p _ ((u.trans e2).trans (same_upd np)) (SqL.of upd_same)
end p_fols
namespace p_file
abbrev st : Stmt := top 26
theorem sc : FnScope ["path", "lines"] ["path", "lines"] (defScope st) := ⟨rfl, rfl, rfl, by decide +kernel, rfl, by decide +kernel, by decide +kernel⟩
theorem ok {f : Addr} {fd : FuncData} (F : Fun K "is_file" "is_file" st f fd) (T : Txt K mg t1 t2 t3 t4 aP aF aA b1 b2 b3 b4 b5 b6 b7 b8) (C_is_path : Cal P w K mg base 2 "is_path" ["thing"] (spPath K)) (C_is_lines : Cal P w K mg base 3 "is_lines" ["thing"] (spLines K)) : FnOk P w K mg base CX0 4 f fd ["path", "lines"] (spFile K) := by
  refine F.ok sc (fun vs H Q E h => ?_) (fun cdv A outer s H vs Q E hr h => ?_)
  · obtain ⟨d, e, v, u, rfl, _⟩ := h
    rfl
  · obtain ⟨d, e, v, u, rfl, hd, he, sd, se, k⟩ := h
    refine ⟨_, (pss_one (ps_ret (pe_and (pe_callC C_is_path (hr.mono (by decide)) (pa_cons (pv 0) pa_nil)) (pe_one (pe_callC C_is_lines (hr.mono (by decide)) (pa_cons (pv 1) pa_nil)))))), ?_⟩
    refine ⟨_, rfl, d, v, rfl, hd, sd, fun H2 s2 => ⟨_, rfl, ite2 (fun h1 => ?_) (fun h1 => ?_)⟩⟩
    · rw [h1, Bool.true_and] at k
      exact ⟨_, rfl, e, u, rfl, Dw.same s2 _ _ he, se, fun H3 s3 => k _ (s2.trans s3)⟩
    · have h1 := Bool.eq_false_iff.mpr h1
      rw [h1] at k
      exact k _ s2
end p_file
namespace p_need
abbrev st : Stmt := top 27
theorem sc : FnScope ["files", "path", "lines"] ["files"] (defScope st) := ⟨rfl, rfl, rfl, by decide +kernel, rfl, by decide +kernel, by decide +kernel⟩
theorem ok {f : Addr} {fd : FuncData} (F : Fun K "need_files" "need_files" st f fd) (T : Txt K mg t1 t2 t3 t4 aP aF aA b1 b2 b3 b4 b5 b6 b7 b8) (C_is_file : Cal P w K mg base 4 "is_file" ["path", "lines"] (spFile K)) (C_folders_of : Cal P w K mg base 1 "folders_of" ["path"] (spFols K)) : FnOk P w K mg base (CXF P w) 5 f fd ["files"] (spNeed K aF) := by
  refine F.okX sc (fun vs H Q E h => ?_) (fun cdv A outer s H vs Q E hr h => ?_)
  · obtain ⟨v, rfl, _⟩ := h
    rfl
  · obtain ⟨v, rfl, h⟩ := h
    refine ⟨_, (pss_cons (ps_if (pt_not (pt_truthK (K := K) (pe_callB (CallR.or (call_isinstD (K := K)) (call_isinstZ (K := K))) (by rfl) T.isinstance PyProof.Rows.boot_isinstance (pa_cons (pv 0) (pa_cons (pe_bltn (v := .ty "dict") rfl T.dict PyProof.Rows.boot_dict rfl) pa_nil))) (fun _ => rfl)))
        (pss_one (ps_raise rfl throws_fn rfl T.BadFiles T.xBadFiles (pa_cons pe_str pa_nil)))
        pss_nil)
      (pss_cons (ps_for PassesOwn.leaving rfl (pi_pairs (pv 0)) (pg_tup rfl (pgs_cons (pg_name (i := 1) sc.nd rfl (Or.inl rfl)) (pgs_cons (pg_name (i := 2) sc.nd rfl (Or.inl rfl)) pgs_nil)))
        (pss_one (ps_if (pt_not (pt_truthK (K := K) (pe_callC C_is_file (hr.mono (by decide)) (pa_cons (pv 1) (pa_cons (pv 2) pa_nil))) (fun _ => rfl)))
          (pss_one (ps_raise rfl throws_fn rfl T.BadFiles T.xBadFiles (pa_cons pe_str pa_nil)))
          pss_nil)))
      (pss_one (ps_for PassesOwn.leaving rfl (pi_keys (pv 0)) (pg_name (i := 1) sc.nd rfl (Or.inl rfl))
        (pss_one (ps_if (pt_truthK (K := K) (pe_callB (call_any rfl) (by rfl) T.any PyProof.Rows.boot_any (pa_cons (pe_comp (sc := defScope st) (N := ["files", "path", "lines"]) (N' := ["folder", "files"]) (src := [none, some 0]) ⟨by decide +kernel, rfl, rfl, by decide +kernel, by decide +kernel, by decide +kernel, by decide +kernel⟩ rfl rfl rfl (pi_list (pe_callC C_folders_of (hr.mono (by decide)) (pa_cons (pv 1) pa_nil))) (fun _ _ _ _ => (pg_name (i := 0) (show (["folder", "files"] : List Str).Nodup by decide +kernel) rfl (Or.inl rfl))) (fun _ _ _ _ => pf_nil) (fun _ _ _ _ => (pe_cmpR (op_inZ hr.units) (pv 0) (pv 1) (by with_unfolding_all rfl)))) pa_nil)) (fun _ => rfl))
          (pss_one (ps_raise rfl throws_fn rfl T.BadFiles T.xBadFiles (pa_cons pe_str pa_nil)))
          pss_nil)))))), ?_⟩
    rcases h with ⟨d, hd, nd, kE⟩ | ⟨a, ob, kvs, ps, rfl, ha, hp, pl, kQ, kE⟩
    · refine ⟨_, rfl, .inl ⟨v, "dict", d, _, rfl, hd, T.is (by simp [kinds]), _, rfl, ?_⟩⟩
      rw [nd, show (("dict" : String) == "int") = false from rfl, Bool.and_false]
      exact iteT ⟨lineN 1, kE _ (Same.refl _)⟩
    · refine ⟨_, rfl, .inr ⟨a, "dict", ob, kvs, _, rfl, ha, T.kit _ (by simp [kinds]) _ (by simp [kinds]), _, rfl, iteF ?_⟩⟩
      have kl : kvs.length = ps.length := hp.length
      refine ⟨_, rfl, a, ob, kvs, rfl, ha, for_pairs (fun i σ H2 => ∃ o1 o2, σ = [some (.ref a), o1, o2] ∧ Same H H2 ∧ (ps.take i).all fileB = true) ⟨none, none, rfl, Same.refl _, rfl⟩ (fun i σ H2 hi ⟨_, _, _, e2, _⟩ => e2 _ _ ha) ?_ ?_⟩
      · rintro i k v T0 σ H2 hi ⟨o1, o2, rfl, e2, al⟩ nT
        obtain ⟨d, h1, h2, h3, h4⟩ := (hp.same e2).get hi
        have uT := same_upd (o := .tup [kV k, v]) nT
        refine ⟨T0, _, rfl, SqT.of upd_same, rfl, _, _, rfl, _, _, rfl, rfl, ?_⟩
        refine ⟨_, rfl, _, rfl, keyD k, d, _, _, rfl, keyD_at k, Dw.same uT _ _ h2, h3, h4, fun H3 s3 => ⟨_, rfl, ?_⟩⟩
        have t3 := (e2.trans uT).trans s3
        cases q : (pathD (keyD k) && linesD d) with
        | true =>
          refine iteF ⟨_, _, rfl, t3, ?_⟩
          rw [List.take_add_one, h1, List.all_append, al]
          show (fileB (k, d) && true) = true
          rw [Bool.and_true]; exact q
        | false =>
          refine iteT ⟨lineN 1, kE ?_ _ t3⟩
          unfold goodB
          have : ps.all fileB = false := by
            rw [Bool.eq_false_iff]
            intro z
            have := List.all_eq_true.mp z (k, d) (List.mem_of_getElem? h1)
            rw [show fileB (k, d) = false from q] at this
            cases this
          rw [this]; rfl
      · rintro σ H2 ⟨o1, o2, rfl, e2, al⟩
        rw [kl, List.take_length] at al
        refine ⟨_, rfl, a, ob, kvs, rfl, e2 _ _ ha, for_keys (fun i σ H3 => ∃ o1 o2, σ = [some (.ref a), o1, o2] ∧ Same H H3 ∧ ((ps.take i).all fun p => !clashK (ps.map (·.1)) p.1) = true) ⟨o1, o2, rfl, e2, rfl⟩ (fun i σ H3 hi ⟨_, _, _, e3, _⟩ => e3 _ _ ha) ?_ ?_⟩
        · rintro i k v σ H3 hi ⟨o1, o2, rfl, e3, al2⟩
          obtain ⟨d, h1, h2, h3, h4⟩ := (hp.same e3).get hi
          have hf := List.all_eq_true.mp al (k, d) (List.mem_of_getElem? h1)
          unfold fileB at hf
          rw [Bool.and_eq_true] at hf
          cases k with
          | inl j => cases hf.1
          | inr x =>
            have xl : x.length ≤ 1000 := of_decide_eq_true h3
            refine ⟨_, rfl, x, rfl, xl, fun lp H4 s4 hlp => ?_⟩
            have fl : (fols x).length ≤ 1000 := by
              unfold fols
              rw [List.length_map, List.length_range]
              have := labs_cnt x
              omega
            refine ⟨lp, rfl, ⟨_, hlp⟩, comp_list0 (K := K) (a := lp) (xs := (fols x).map V.str) (fun i ys σ' H5 => ∃ o, σ' = [o, some (.ref a)] ∧ Same H4 H5 ∧ ys = (((fols x).take i).map fun f => memK (.inr f) (ps.map (·.1))).map V.bl) ⟨none, rfl, Same.refl _, rfl⟩ (le_line (by rw [List.length_map]; omega)) ?_ ?_ ?_⟩
            · rintro i ys σ' H5 hi' ⟨o, rfl, e5, rfl⟩
              refine ⟨e5.seq hlp, ?_⟩
              rw [List.length_map, List.length_map, List.length_take]; omega
            · rintro i y ys σ' H5 hy ⟨o, rfl, e5, rfl⟩
              rw [List.getElem?_map] at hy
              cases q : (fols x)[i]? with
              | none => rw [q] at hy; cases hy
              | some z =>
                rw [q] at hy
                have hy : V.str z = y := Option.some.inj hy
                subst hy
                refine ⟨_, rfl, _, rfl, a, _, rfl, get_frz (k := .inr z) (((e3.trans s4).trans e5) _ _ ha), _, rfl, e5, ?_⟩
                rw [val_some, hp.keys, all_take_succ q, List.map_append]; rfl
            · rintro ys σ' H5 ⟨o, rfl, e5, rfl⟩ p np
              refine ⟨p, _, rfl, SqL.of upd_same, _, rfl, ?_⟩
              rw [List.length_map, List.take_length, List.any_map]
              have t5 := ((e3.trans s4).trans e5).trans (same_upd (o := .lst (((fols x).map fun f => memK (.inr f) (ps.map (·.1))).map V.bl)) np)
              cases q : clashK (ps.map (·.1)) (.inr x) with
              | true =>
                have q' : (fols x).any (id ∘ fun f => memK (.inr f) (ps.map (·.1))) = true := q
                rw [q']
                refine iteT ⟨lineN 1, kE ?_ _ t5⟩
                unfold goodB
                have : (ps.all fun p => !clashK (ps.map (·.1)) p.1) = false := by
                  rw [Bool.eq_false_iff]
                  intro z
                  have := List.all_eq_true.mp z (.inr x, d) (List.mem_of_getElem? h1)
                  rw [show clashK (ps.map (·.1)) (Sum.inr x, d).1 = true from q] at this
                  cases this
                rw [this, Bool.and_false]
              | false =>
                have q' : (fols x).any (id ∘ fun f => memK (.inr f) (ps.map (·.1))) = false := q
                rw [q']
                refine iteF ⟨_, _, rfl, t5, ?_⟩
                rw [List.take_add_one, h1, List.all_append, al2]
                show ((!clashK (ps.map (·.1)) (.inr x)) && true) = true
                rw [q]; rfl
        · rintro σ H3 ⟨o1, o2, rfl, e3, al2⟩
          rw [kl, List.take_length] at al2
          refine kQ ?_ _ e3
          unfold goodB
          rw [al, al2]; rfl
end p_need
end
end An05

set_option Elab.async false
set_option linter.all false
set_option maxRecDepth 100000
set_option maxHeartbeats 4000000
/-! data of tuples and texts: what stays, what compares -/
namespace An
open PySem L2
mutual
/-- tuples and single values alone -/
def tupOnly : PyData → Bool
  | .list _ => false
  | .dict _ => false
  | .tuple ds => tupOnlyAll ds
  | _ => true
def tupOnlyAll : List PyData → Bool
  | [] => true
  | d :: ds => tupOnly d && tupOnlyAll ds
end
mutual
theorem Dw.tsame {K : PySem.W.Frag} {H H' : Hp} (e : TSame H H') : ∀ (d : PyData) (v : V), tupOnly d = true → Dw K H d v → Dw K H' d v
  | .none, _, _, h => h
  | .bool _, _, _, h => h
  | .int _, _, _, h => h
  | .str _, _, _, h => h
  | .list _, _, t, _ => by cases t
  | .tuple ds, _, t, ⟨a, xs, h1, h2, h3⟩ => ⟨a, xs, h1, e.tup h2, DwAll.tsame e ds xs t h3⟩
  | .dict _, _, t, _ => by cases t
theorem DwAll.tsame {K : PySem.W.Frag} {H H' : Hp} (e : TSame H H') : ∀ (ds : List PyData) (xs : List V), tupOnlyAll ds = true → DwAll K H ds xs → DwAll K H' ds xs
  | [], _, _, h => h
  | d :: ds, _, t, ⟨x, r, h1, h2, h3⟩ => by
    have t : (tupOnly d && tupOnlyAll ds) = true := t
    rw [Bool.and_eq_true] at t
    exact ⟨x, r, h1, Dw.tsame e d x t.1 h2, DwAll.tsame e ds r t.2 h3⟩
end
mutual
def dictFree : PyData → Bool
  | .dict _ => false
  | .list ds => dictFreeAll ds
  | .tuple ds => dictFreeAll ds
  | _ => true
def dictFreeAll : List PyData → Bool
  | [] => true
  | d :: ds => dictFree d && dictFreeAll ds
end
mutual
theorem Dw.dt {K : PySem.W.Frag} {H : Hp} : ∀ (d : PyData) (v : V), dictFree d = true → Dw K H d v → Dt K H d v
  | .none, _, _, h => h
  | .bool _, _, _, h => h
  | .int _, _, _, h => h
  | .str _, _, _, h => h
  | .list ds, _, t, ⟨a, xs, h1, h2, h3⟩ => ⟨a, xs, h1, h2, DwAll.dt ds xs t h3⟩
  | .tuple ds, _, t, ⟨a, xs, h1, h2, h3⟩ => ⟨a, xs, h1, h2, DwAll.dt ds xs t h3⟩
  | .dict _, _, t, _ => by cases t
theorem DwAll.dt {K : PySem.W.Frag} {H : Hp} : ∀ (ds : List PyData) (xs : List V), dictFreeAll ds = true → DwAll K H ds xs → DtAll K H ds xs
  | [], _, _, h => h
  | d :: ds, _, t, ⟨x, r, h1, h2, h3⟩ => by
    have t : (dictFree d && dictFreeAll ds) = true := t
    rw [Bool.and_eq_true] at t
    exact ⟨x, r, h1, Dw.dt d x t.1 h2, DwAll.dt ds r t.2 h3⟩
end
mutual
theorem eqv_self : ∀ d : PyData, tupOnly d = true → PyData.eqv d d = true
  | .none, _ => rfl
  | .bool b, _ => by cases b <;> rfl
  | .int i, _ => by show (i == i) = true; exact beq_self_eq_true i
  | .str x, _ => by show (x == x) = true; exact beq_self_eq_true x
  | .list _, t => by cases t
  | .tuple ds, t => eqv_selfs ds t
  | .dict _, t => by cases t
theorem eqv_selfs : ∀ ds : List PyData, tupOnlyAll ds = true → PyData.eqvAll ds ds = true
  | [], _ => rfl
  | d :: ds, t => by
    have t : (tupOnly d && tupOnlyAll ds) = true := t
    rw [Bool.and_eq_true] at t
    show (PyData.eqv d d && PyData.eqvAll ds ds) = true
    rw [eqv_self d t.1, eqv_selfs ds t.2]; rfl
end
theorem tupOnly_strs : ∀ ls : List Str, tupOnlyAll (ls.map .str) = true
  | [] => rfl
  | l :: ls => by
    show (true && tupOnlyAll (ls.map .str)) = true
    rw [tupOnly_strs ls]; rfl
theorem shaped_of {d : PyData} (h1 : d.canLay0 = true) (h2 : d.depth ≤ 60) : SeqAt.shaped d = true := by
  show (PyData.canLay0 d && decide (PyData.depth d ≤ 64)) = true
  rw [h1, decide_eq_true (by omega)]; rfl
mutual
theorem dictFree_of : ∀ d : PyData, tupOnly d = true → dictFree d = true
  | .none, _ => rfl
  | .bool _, _ => rfl
  | .int _, _ => rfl
  | .str _, _ => rfl
  | .list _, t => by cases t
  | .tuple ds, t => dictFrees_of ds t
  | .dict _, t => by cases t
theorem dictFrees_of : ∀ ds : List PyData, tupOnlyAll ds = true → dictFreeAll ds = true
  | [], _ => rfl
  | d :: ds, t => by
    have t : (tupOnly d && tupOnlyAll ds) = true := t
    rw [Bool.and_eq_true] at t
    show (dictFree d && dictFreeAll ds) = true
    rw [dictFree_of d t.1, dictFrees_of ds t.2]; rfl
end
theorem atI_of {xs : List V} {n : Nat} {i : Int} {v : V} (e : i = (n : Int)) (h : xs[n]? = some v) : atI xs i = some v := by
  subst e
  exact atI_nat h
theorem mulx21 : Txt.mul "x" 21 = ("xxxxxxxxxxxxxxxxxxxxx" : Str) := by decide +kernel
theorem mulx_ok : MulOk "x" 21 := ⟨by decide, fun _ _ => by decide +kernel, fun _ _ => by decide +kernel⟩
theorem cut_ints {ns : List Int} {f k : Nat} (h : f ≤ k) : ∃ ms : List Int, cutV (ns.map V.int) (some (f : Int)) (some (k : Int)) = ms.map V.int ∧ ms.length ≤ k - f := by
  refine ⟨(ns.drop (min f ns.length)).take (min k ns.length - min f ns.length), ?_, ?_⟩
  · unfold cutV
    rw [HT.sIx_nat, HT.sIx_nat, List.length_map, List.map_take, List.map_drop]
  · rw [List.length_take]
    omega
end An

set_option Elab.async false
set_option linter.all false
set_option maxRecDepth 100000
set_option maxHeartbeats 4000000
/-! a def that is called in an except suite -/
namespace L2
open PySem PySem.Spec PyProof.Rows
structure RoomH (k : Nat) (A : Around) : Prop where
  dp : A.depth + 3 * k + 5 < recursionLimit
  un : A.units + 16 * k + 200 < cLine
theorem Room.h {k : Nat} {A : Around} (r : Room k A) : RoomH k A := ⟨r.dp, r.un⟩
theorem RoomH.mark {k : Nat} {A : Around} (r : RoomH k A) (e : Value) : RoomH k (A.mark (some e)) := ⟨r.dp, r.un⟩
theorem RoomH.deeper {k : Nat} {A : Around} (r : RoomH (k + 1) A) (env : Env) : RoomH k (A.deeper env) :=
  ⟨by have := r.dp; show A.depth + 1 + 3 * k + 5 < _; omega, by have := r.un; show A.units + 3 + 16 * k + 200 < _; omega⟩
structure FnOkH (P : Program) (w : World) (K : PySem.W.Frag) (mg : Str → Option Value) (base : Heap) (CX : CXT) (k : Nat) (f : Addr) (fd : FuncData) (ps : List Str) (sp : Sp) : Prop where
  len : ∀ vs H Q E, sp vs H Q E → vs.length = ps.length
  run : ∀ (A : Around) (outer : List Env) (s : Shared) (H : Hp) (args : Args) (us : List Value) (vs : List V) (Q : VK) (E : XK), RoomH k A → Env0 P w K mg base A outer s H → BindsTo s fd args (ps.zip us) → Vals vs us → sp vs H Q E →
    codeAny (model P w) A (.call (.ref f) args) (CR CX outer P w H s Q E) s
def cxH (P : Program) (w : World) (K : PySem.W.Frag) (mg : Str → Option Value) (base : Heap) (N : List Str) (qual : Str) (scope : Scope) (f : Addr) (cd : Value) (A : Around) (outer : List Env) (s : Shared) (H : Hp) (E : XK) : Cx :=
  { cxOf CX0 P w K mg base N qual scope f cd A outer s H E with calm := false, xe := fun _ _ => False }
section
variable {P : Program} {w : World} {K : PySem.W.Frag} {mg : Str → Option Value} {base : Heap}
theorem inv_startH {N ps : List Str} {qual : Str} {scope : Scope} {f : Addr} {cd : Value} {A : Around} {outer : List Env} {s s1 : Shared} {H : Hp} {E : XK} {us : List Value} {vs : List V}
    (S : FnScope N ps scope) (e0 : Env0 P w K mg base A outer s H) (hl : vs.length = ps.length) (r : Vals vs us)
    (x : InCallC s s.heap.objs.size (bindL (envOfC qual scope s.heap.objs.size f cd).kindOf (ps.zip us) fun _ => none) (cellsFrom (s.heap.objs.size + 1) scope.names []) (bindC (envOfC qual scope s.heap.objs.size f cd).kindOf (ps.zip us) fun _ => none) s1) :
    Inv (cxH P w K mg base N qual scope f cd A outer s H E) [] (start N vs) H s1 := by
  have e1 : Env0 P w K mg base { A with handled := none } outer s H := ⟨e0.frames, e0.mod, e0.bs, e0.bsz, e0.funs, e0.frf, e0.hok, e0.bare⟩
  have I := inv_start (CX := CX0) (E := E) (A := { A with handled := none }) S rfl e1 hl r x
  exact ⟨⟨I.ok.mod, I.ok.kind, I.ok.glob, I.ok.blt, I.ok.above, I.ok.inj, I.ok.has, I.ok.cab, fun z => (by cases z), Around.frames_deeper e0.frames, I.ok.stk, I.ok.exf, I.ok.bs, I.ok.bsz, I.ok.noex, I.ok.exfs, I.ok.funs, I.ok.frf⟩, I.os, I.bare, I.base, I.loc, I.cell, I.free, I.freeC, I.pin, I.hok, I.len⟩
theorem Fun.okH {x qual : Str} {st : Stmt} {f : Addr} {fd : FuncData} {N ps : List Str} {k : Nat} {sp : Sp} (F : Fun K x qual st f fd) (S : FnScope N ps (defScope st)) (len : ∀ vs H Q E, sp vs H Q E → vs.length = ps.length)
    (hbody : ∀ (cdv : Value) (A : Around) (outer : List Env) (s : Shared) (H : Hp) (vs : List V) (Q : VK) (E : XK), RoomH k (A.deeper (envOfC qual (defScope st) s.heap.objs.size f cdv)) → sp vs H Q E →
      ∃ t, PSs (cxH P w K mg base N qual (defScope st) f cdv A outer s H E) (defBody st) t ∧ t { nx := fun _ H' => Q .non H', rt := Q } (start N vs) H) : FnOkH P w K mg base CX0 (k + 1) f fd ps sp := by
  obtain ⟨oc, od, kV, doc, pm, an, cdv, ct, osl, rfl, lk, hcd⟩ := F.ex
  refine ⟨len, fun A outer s H args us vs Q E hr e0 hb r hsp => ?_⟩
  have hl := len _ _ _ _ hsp
  have KX : K.In s.heap := e0.mod.kin.keeps fun b o e => (e0.bs b o e).1
  have lim : s.heap.NoLimit := e0.mod.nolimit.keeps fun b o e => (e0.bs b o e).1
  have hkind : ∀ y ∈ ps.zip us, (defScope st).names.lookup y.1 = some .local ∨ ((defScope st).names.lookup y.1 = some .cell ∧ ((cellsFrom (s.heap.objs.size + 1) (defScope st).names []).lookup y.1).isSome = true) := fun ⟨n, v⟩ hy => by
    rcases S.par n (List.of_mem_zip hy).1 with q | q
    · exact .inl q
    · exact .inr ⟨q, PySem.W.cellsFrom_some _ _ _ (.inl q)⟩
  refine codeAny_call_function (by have := hr.dp; omega) (KX _ _ lk) rfl S.co S.gen rfl (PySem.W.codeRec_of KX hcd) (hb _ _ _ _ ?_)
  refine wpAny_newFunctionEnv_cells S.kind hkind fun env he s1 x => ?_
  subst he
  refine ⟨lim.keeps x.toInCall.keep, codeAny_func ?_⟩
  obtain ⟨t, ht, hq⟩ := hbody cdv A outer s H vs Q E (hr.deeper _) hsp
  have I : Inv (cxH P w K mg base N qual (defScope st) f cdv A outer s H E) [] (start N vs) H s1 := inv_startH S e0 hl r x
  refine wpAny_mono (ht [] s1 (start N vs) H _ I hq) (fun fl s' hs => ?_) fun e s' hs => False.elim hs
  have fin : ∀ {σ' : St} {H' : Hp} {v : V} {u : Value}, Inv (cxH P w K mg base N qual (defScope st) f cdv A outer s H E) [] σ' H' s' → RelV v u → Q v H' → CE outer P w H s Q u s' :=
    fun {σ' H' v u} J rv q => ⟨v, H', J.os, J.bare, J.base, J.hok, rv, q⟩
  cases fl with
  | ret u =>
    obtain ⟨v, σ', H', J, rv, q⟩ := hs
    exact fin J rv q
  | next =>
    obtain ⟨σ', H', J, q⟩ := hs
    exact fin (v := V.non) (u := Value.none) J rfl q
  | brk =>
    obtain ⟨_, _, _, q⟩ := hs
    exact False.elim q
  | cont =>
    obtain ⟨_, _, _, q⟩ := hs
    exact False.elim q
end
structure CalH (P : Program) (w : World) (K : PySem.W.Frag) (mg : Str → Option Value) (base : Heap) (k : Nat) (x : Str) (ps : List Str) (sp : Sp) : Prop where
  ex : ∃ (f : Addr) (fd : FuncData), FnOkH P w K mg base CX0 k f fd ps sp ∧ mg x = some (.ref f) ∧ PySem.W.keepIn K (.ref f) = true ∧ Binds K fd ps []
theorem CalH.mk' {P : Program} {w : World} {K : PySem.W.Frag} {mg : Str → Option Value} {base : Heap} {k : Nat} {x qual : Str} {st : Stmt} {f : Addr} {fd : FuncData} {ps : List Str} {sp : Sp} (F : Fun K x qual st f fd) (G : FnOkH P w K mg base CX0 k f fd ps sp) (hm : mg x = some (.ref f))
    (b : Binds K fd ps []) : CalH P w K mg base k x ps sp := ⟨f, fd, G, hm, F.kp, b⟩
section
variable {X : Cx}
theorem pe_callH {k : Nat} {x : Str} {ps : List Str} {sp : Sp} {e : Expr} {es : List Expr} {t : TA} {p pos : Pos} (C : CalH X.prog X.w X.K X.mg X.base k x ps sp) (hr : RoomH k X.A) (ha : PA X (e :: es) t) (hg : Gl X x := by rfl)
    (hdb : (x == ("__debug__" : Str)) = false := by decide) (he : starEach (e :: es) X.env = (false, eval e X.env) :: starEach es X.env := by rfl) (hpl : (backTo pos (starEach es X.env)).any (·.1) = false := by rfl) :
    PE X (.Call (.Name x p) (e :: es) [] pos) (tCall sp [] E0 t) := by
  obtain ⟨f, fd, F, hm, hk, hb⟩ := C.ex
  intro pins s σ H Q I h
  refine wpAny_Call_Name_kw (ld_glob I hg hm ?_ hdb)
  refine PySem.W.callWith_K (h₀ := X.base) I.ok.mod.kin hk (thn (ha pos pins s σ H _ I h) fun us s1 ⟨vs, H1, I1, r, q⟩ => ⟨I1.kIn, ?_⟩) he hpl
  have r2 : Vals (vs ++ []) (us ++ []) := r.append .nil
  have hl : (us ++ []).length = ps.length := by rw [← r2.length]; exact F.len _ _ _ _ q
  refine wpAny_call (codeAny_mono (F.run X.A X.stack s1 H1 ⟨us, []⟩ (us ++ []) (vs ++ []) Q E0 hr I1.env0 (hb s1 us I1.kIn hl) r2 q) fun r s' hq => ?_)
  cases r with
  | error e => exact pass0 pins σ H1 s1 e s' I1 hq
  | ok fl =>
    cases fl with
    | ret u => exact I1.after hq
    | next => exact False.elim hq
    | brk => exact False.elim hq
    | cont => exact False.elim hq
end
end L2

set_option Elab.async false
set_option linter.all false
set_option maxRecDepth 100000
set_option maxHeartbeats 4000000
namespace An05
open PySem L2 An
seal L2.PS L2.PSs L2.PE L2.PT L2.PW L2.PA L2.PG L2.PGs L2.PI L2.PFi L2.PC
/-- a menu of n signs of a kind -/
def MenuP (p : Nat → Bool) (n : Nat) (x : Str) : Prop := (cs x).length = n ∧ (cs x).all p = true
theorem MenuP.at {p : Nat → Bool} {n : Nat} {x : Str} (h : MenuP p n x) {i : Int} (h0 : 0 ≤ i) (h1 : i < n) : ∃ c, atI x.cps.toList i = some c ∧ p c = true := by
  obtain ⟨j, rfl⟩ := Int.eq_ofNat_of_zero_le h0
  have hj : j < (cs x).length := by rw [h.1]; omega
  exact ⟨(cs x)[j], atI_nat (List.getElem?_eq_getElem hj), List.all_eq_true.mp h.2 _ (List.getElem_mem hj)⟩
theorem MenuP.len {p : Nat → Bool} {n : Nat} {x : Str} (h : MenuP p n x) (hn : n ≤ 1000) : x.length ≤ sizeLine := le_line (by rw [length_cs, h.1]; omega)
def spCellA (K : PySem.W.Frag) : Sp := fun vs H Q _ => ∃ (a : Addr) (ns : List Int) (k : Int), vs = [.ref a, .int k] ∧ SqL K H a (ns.map V.int) ∧ 0 ≤ k ∧ ∀ i, Q (.int i) H
def spLineBy : Sp := fun vs H Q _ => ∃ c, vs = [.int c] ∧ ∀ x H', lineB x = true → Same H H' → Q (.str x) H'
theorem line_parts {x : Str} : lineB x = true ↔ x.length ≤ 20 ∧ (cs x).all signB = true := by
  unfold lineB
  rw [Bool.and_eq_true, decide_eq_true_eq]
theorem label_parts {x : Str} : labelB x = true ↔ 1 ≤ x.length ∧ x.length ≤ 8 ∧ (cs x).all lowB = true := by
  unfold labelB
  rw [Bool.and_eq_true, Bool.and_eq_true, decide_eq_true_eq, decide_eq_true_eq, and_assoc]
def spLabelBy : Sp := fun vs H Q _ => ∃ c, vs = [.int c] ∧ ∀ x H', labelB x = true → x ≠ "zyx" → Same H H' → Q (.str x) H'
theorem abc_at {S : Str} (h : cs S = (List.range 26).map (· + 97)) {i : Int} {d : Nat} (h0 : 0 ≤ i) (h1 : i < 26) (h2 : atI S.cps.toList i = some d) : (d : Int) = 97 + i := by
  obtain ⟨j, rfl⟩ := Int.eq_ofNat_of_zero_le h0
  have hj : j < 26 := by omega
  have h3 : (cs S)[j]? = some (j + 97) := by
    rw [h, List.getElem?_map, List.getElem?_range hj]; rfl
  have h4 : atI S.cps.toList (j : Int) = some (j + 97) := atI_nat h3
  have h5 := Option.some.inj (h2.symm.trans h4)
  omega
theorem not_zyx {c : Int} {l : List Nat} (av : ∀ (j e : Nat), l[j]? = some e → (e : Int) = 97 + (c / 16 + c / 400 % 2 * (0 + (j : Int))) % 26) : l ≠ [122, 121, 120] := by
  rintro rfl
  have h0 := av 0 122 rfl
  have h1 := av 1 121 rfl
  have e0 : (c / 16 + c / 400 % 2 * (0 + ((0 : Nat) : Int))) = c / 16 := by omega
  have e1 : (c / 16 + c / 400 % 2 * (0 + ((1 : Nat) : Int))) = c / 16 + c / 400 % 2 := by omega
  rw [e0] at h0
  rw [e1] at h1
  omega
theorem not_zyx_set {n i d : Nat} : (List.replicate n 97).set i d ≠ [122, 121, 120] := by
  intro h
  have hn : n = 3 := by
    have := congrArg List.length h
    rw [List.length_set, List.length_replicate] at this
    exact this
  subst hn
  have h0 := congrArg (fun l => l[0]?) h
  have h1 := congrArg (fun l => l[1]?) h
  simp only [List.getElem?_set, List.getElem?_replicate] at h0 h1
  by_cases z : i = 0
  · subst z
    simp at h1
  · rw [if_neg z] at h0
    simp at h0
theorem zyx_ne {x : Str} (h : cs x ≠ [122, 121, 120]) : x ≠ "zyx" := by
  rintro rfl
  exact h (by decide +kernel)
/-- signs that may be compared -/
def okB (c : Nat) : Bool := decide (c < 128)
theorem okB_strOk {y : Str} (h : (cs y).all okB = true) : PyData.strOk y = true := by
  rw [strOk_iff]
  intro c hc
  have := of_decide_eq_true (List.all_eq_true.mp h c hc)
  omega
theorem low_ok {c : Nat} (h : lowB c = true) : okB c = true := by
  unfold lowB at h
  unfold okB
  simp only [Bool.and_eq_true, decide_eq_true_eq] at h ⊢
  omega
theorem sign_ok {c : Nat} (h : signB c = true) : okB c = true := by
  unfold signB at h
  unfold okB
  simp only [Bool.and_eq_true, decide_eq_true_eq] at h ⊢
  omega
theorem label_okB {x : Str} (h : labelB x = true) : (cs x).all okB = true := List.all_eq_true.mpr fun c hc => low_ok (List.all_eq_true.mp (label_parts.mp h).2.2 c hc)
theorem line_okB {x : Str} (h : lineB x = true) : (cs x).all okB = true := List.all_eq_true.mpr fun c hc => sign_ok (List.all_eq_true.mp (line_parts.mp h).2 c hc)
theorem cut_okB {x : Str} (h : (cs x).all okB = true) (lo hi : Option Int) : (cs (PySem.Txt.slice x lo hi)).all okB = true := by
  rw [List.all_eq_true] at h ⊢
  intro c hc
  exact h c (mem_slice hc)
theorem app_okB {x y : Str} (h1 : (cs x).all okB = true) (h2 : (cs y).all okB = true) : (cs (x ++ y)).all okB = true := by
  rw [cs_append, List.all_append, h1, h2]; rfl
theorem jn_all {p : Nat → Bool} (h47 : p 47 = true) : ∀ {ps : List (List Nat)}, (∀ l ∈ ps, l.all p = true) → (jn ps).all p = true
  | [], _ => rfl
  | [x], h => h x List.mem_cons_self
  | x :: y :: r, h => by
    show (x ++ 47 :: jn (y :: r)).all p = true
    rw [List.all_append, List.all_cons, h x List.mem_cons_self, h47, jn_all h47 (ps := y :: r) fun l hl => h l (List.mem_cons_of_mem _ hl)]; rfl
theorem join_okB {ys : List Str} (h : ∀ y ∈ ys, (cs y).all okB = true) : (cs (PySem.Txt.join "/" ys)).all okB = true := by
  rw [cs_join]
  refine jn_all rfl fun l hl => ?_
  obtain ⟨y, hy, rfl⟩ := List.mem_map.mp hl
  exact h y hy
theorem spl_mem : ∀ {l p : List Nat} {c : Nat}, p ∈ spl l → c ∈ p → c ∈ l
  | [], p, c, h, hc => by
    have : p = [] := by simpa [spl] using h
    rw [this] at hc; cases hc
  | a :: r, p, c, h, hc => by
    unfold spl at h
    split at h
    · rcases List.mem_cons.mp h with rfl | h
      · cases hc
      · exact List.mem_cons_of_mem _ (spl_mem h hc)
    · cases q : spl r with
      | nil => exact absurd q (spl_ne r)
      | cons b bs =>
        rw [q] at h
        rcases List.mem_cons.mp h with rfl | h
        · rcases List.mem_cons.mp hc with rfl | hc
          · exact List.mem_cons_self
          · exact List.mem_cons_of_mem _ (spl_mem (p := b) (by rw [q]; exact List.mem_cons_self) hc)
        · exact List.mem_cons_of_mem _ (spl_mem (p := p) (by rw [q]; exact List.mem_cons_of_mem _ h) hc)
theorem labs_okB {x y : Str} (h : (cs x).all okB = true) (hy : y ∈ labs x) : (cs y).all okB = true := by
  rw [List.all_eq_true] at h ⊢
  intro c hc
  exact h c (spl_mem (p := cs y) (by rw [← labs_cs]; exact List.mem_map_of_mem hy) hc)
def spBent : Sp := fun vs H Q _ => ∃ (x : Str) (c : Int), vs = [.str x, .int c] ∧ (cs x).all okB = true ∧ x.length ≤ 100 ∧ ∀ y, (cs y).all okB = true → y.length ≤ 300 → Q (.str y) H
def spGood (K : PySem.W.Frag) : Sp := fun vs H Q _ => ∃ y : Str, vs = [.str y] ∧ y.length ≤ 1000 ∧ ∀ H', Same H H' → Q (.bl (pathB y)) H'
def spKind (aP aF : Addr) : Sp := fun vs H Q _ => ∃ e, vs = [.ref e] ∧ ((H e = some (IsExc e (.ref aP)) ∧ Q (.str "path") H) ∨ (H e = some (IsExc e (.ref aF)) ∧ Q (.str "files") H))
def dueD : PyData → PyData
  | .str x => if pathB x = true then .list ((labs x).map .str) else .str "path"
  | _ => .str "path"
theorem due_no {d : PyData} (h : pathD d = false) : dueD d = .str "path" := by
  cases d with
  | str x =>
    have h : pathB x = false := h
    show (if pathB x = true then _ else _) = _
    rw [h]; rfl
  | none => rfl
  | bool _ => rfl
  | int _ => rfl
  | list _ => rfl
  | tuple _ => rfl
  | dict _ => rfl
def spParted (K : PySem.W.Frag) : Sp := fun vs H Q _ => ∃ (d : PyData) (v : V), vs = [v] ∧ Dw K H d v ∧ small d = true ∧ ∀ v' H', Same H H' → Dt K H' (dueD d) v' → Q v' H'
def spNeeded (K : PySem.W.Frag) : Sp := fun vs H Q _ => ∃ v : V, vs = [v] ∧
  ((∃ d, Dw K H d v ∧ (nameD d == "dict") = false ∧ ∀ H', Same H H' → Q (.str "files") H') ∨
   (∃ a ob kvs ps, v = .ref a ∧ H a = some (.frz ob (.dK kvs)) ∧ PairsAt K H ps kvs ∧ ps.length ≤ 100 ∧ (goodB ps = true → ∀ H', Same H H' → Q .non H') ∧ (goodB ps = false → ∀ H', Same H H' → Q (.str "files") H')))
section
variable {P : Program} {w : World} {K : PySem.W.Frag} {mg : Str → Option Value} {base : Heap} {t1 t2 t3 t4 : Tok} {aP aF aA b1 b2 b3 b4 b5 b6 b7 b8 : Addr}
namespace h_cell
abbrev st : Stmt := top 29
theorem sc : FnScope ["_law_script", "_law_k"] ["_law_script", "_law_k"] (defScope st) := ⟨rfl, rfl, rfl, by decide +kernel, rfl, by decide +kernel, by decide +kernel⟩
theorem ok {f : Addr} {fd : FuncData} (F : Fun K "_law_cell_at" "_law_cell_at" st f fd) (T : Txt K mg t1 t2 t3 t4 aP aF aA b1 b2 b3 b4 b5 b6 b7 b8) : FnOk P w K mg base CX0 1 f fd ["_law_script", "_law_k"] (spCellA K) := by
  refine F.ok sc (fun vs H Q E h => ?_) (fun cdv A outer s H vs Q E hr h => ?_)
  · obtain ⟨a, ns, k, rfl, _⟩ := h
    rfl
  · obtain ⟨a, ns, k, rfl, hs, h0, q⟩ := h
    refine ⟨_, (pss_cons (ps_if (pt_cmpR op_lt (pv 1) (pe_callB call_len_seq (by rfl) T.len PySem.boot_len (pa_cons (pv 0) pa_nil)) (nomark _))
        (pss_one (ps_ret (pe_ix (ix_list : IxR _ (rIxL K)) (pv 0) (pv 1) (fun _ _ => rfl))))
        pss_nil)
      (pss_one (ps_ret pe_int))), ?_⟩
    refine ⟨_, rfl, _, rfl, a, _, rfl, .inl hs, _, _, rfl, rfl, _, rfl, ite2 (fun h => ?_) (fun h => ?_)⟩
    · have h1 : k < ns.length := by simpa using h
      obtain ⟨n, _, hn⟩ := at_map (f := V.int) h0 h1
      exact ⟨_, rfl, _, rfl, a, _, _, _, rfl, rfl, hs, hn, q n⟩
    · exact q 0
end h_cell
namespace h_line
abbrev st : Stmt := top 30
theorem sc : FnScope ["_law_cell", "_law_some", "_law_size"] ["_law_cell"] (defScope st) := ⟨rfl, rfl, rfl, by decide +kernel, rfl, by decide +kernel, by decide +kernel⟩
theorem ok {f : Addr} {fd : FuncData} (F : Fun K "_law_line_by" "_law_line_by" st f fd) (T : Txt K mg t1 t2 t3 t4 aP aF aA b1 b2 b3 b4 b5 b6 b7 b8) : FnOk P w K mg base CX0 1 f fd ["_law_cell"] spLineBy := by
  refine F.ok sc (fun vs H Q E h => ?_) (fun cdv A outer s H vs Q E hr h => ?_)
  · obtain ⟨c, rfl, _⟩ := h
    rfl
  · obtain ⟨c, rfl, k⟩ := h
    refine ⟨_, (pss_cons (ps_set (i := 1) sc.nd rfl (Or.inr rfl) pe_str)
      (pss_cons (ps_set (i := 1) sc.nd rfl (Or.inr rfl) (pe_op op_add_str (pv 1) pe_str))
      (pss_cons (ps_set (i := 2) sc.nd rfl (Or.inl rfl) (pe_op op_mod (pv 0) pe_int))
      (pss_cut (ps_if (pt_cmpR op_eq (pe_op op_mod (pe_op op_fdiv (pv 0) pe_int) pe_int) pe_int (nomark _))
        (pss_one (ps_set (i := 2) sc.nd rfl (Or.inl rfl) (pe_op op_add pe_int (pe_op op_mod (pe_op op_fdiv (pv 0) pe_int) pe_int))))
        pss_nil)
      (pss_one (ps_ret (pe_bm PySem.F.plainAttrs_str PySem.F.slot_str_join PySem.F.type_str_join mt_join pe_str (pa_cons (pe_comp (sc := defScope st) (N := ["_law_cell", "_law_some", "_law_size"]) (N' := ["_law_k", "_law_some", "_law_cell"]) (src := [none, some 1, some 0]) ⟨by decide +kernel, rfl, rfl, by decide +kernel, by decide +kernel, by decide +kernel, by decide +kernel⟩ rfl rfl rfl (pi_range1 rfl T.range (pa_cons (pv 2) pa_nil)) (fun _ _ _ _ => (pg_name (i := 0) (show (["_law_k", "_law_some", "_law_cell"] : List Str).Nodup by decide +kernel) rfl (Or.inl rfl))) (fun _ _ _ _ => pf_nil) (fun _ _ _ _ => (pe_ix ix_str (pv 1) (pe_op op_mod (pe_op op_add (pe_op op_add (pe_op op_mul (pe_op op_fdiv (pv 2) pe_int) (pe_op op_add (pv 0) pe_int)) (pe_op op_fdiv (pv 2) pe_int)) (pe_op op_mul pe_int (pv 0))) pe_int) (fun _ _ => rfl)))) pa_nil)))))))), ?_⟩
    refine ⟨_, rfl, _, _, rfl, rfl, le_line (by decide +kernel), _, rfl, _, _, rfl, rfl, (by show (0 : Int) < 4; decide), fun σ' H' => ∃ n S, σ' = [some (.int c), some (.str S), some (.int n)] ∧ H' = H ∧ 0 ≤ n ∧ n ≤ 20 ∧ MenuP signB 94 S, ?_, ?_⟩
    · refine ⟨_, rfl, _, _, rfl, rfl, ⟨by decide, by decide⟩, _, _, rfl, rfl, (by show (0 : Int) < 9; decide), rfl, _, rfl, ite2 (fun _ => ?_) (fun _ => ?_)⟩
      · exact ⟨_, rfl, _, _, rfl, rfl, ⟨by decide, by decide⟩, _, _, rfl, rfl, (by show (0 : Int) < 4; decide), _, _, rfl, rfl, _, _, rfl, rfl, by omega, by omega, by decide +kernel, by decide +kernel⟩
      · exact ⟨_, _, rfl, rfl, by omega, by omega, by decide +kernel, by decide +kernel⟩
    · rintro σ' H' ⟨n, S, rfl, rfl, h0, h20, hS⟩
      refine ⟨rfl, _, rfl, n, rfl, by omega, by omega, comp_range0 (fun i ys σ H2 => ∃ x l, σ = [x, some (.str S), some (.int c)] ∧ H2 = H' ∧ ys = (l.map one).map V.str ∧ l.length = i ∧ ∀ c ∈ l, signB c = true) ⟨none, [], rfl, rfl, rfl, rfl, fun c hc => nomatch hc⟩ (le_line (by omega))
        (fun i ys σ H2 hi ⟨x, l, _, _, ey, el, _⟩ => by rw [ey, List.length_map, List.length_map, el]; exact Nat.le_refl _) ?_ ?_⟩
      · rintro i ys σ H2 hi ⟨x, l, rfl, rfl, rfl, rfl, al⟩
        refine ⟨_, rfl, _, rfl, _, _, rfl, rfl, ⟨by decide, by decide⟩, _, rfl, _, _, rfl, rfl, _, _, rfl, rfl, .inr ⟨by omega, by omega⟩, _, rfl, _, _, rfl, rfl, ⟨by decide, by decide⟩, _, _, rfl, rfl, _, rfl, _, _, rfl, rfl, .inl ⟨by decide, by decide⟩, _, _, rfl, rfl, _, _, rfl, rfl, (by show (0 : Int) < 94; decide), ?_⟩
        obtain ⟨d, hd1, hd2⟩ := hS.at (i := (c / 4 * (0 + ((l.length : Nat) : Int) + 1) + c / 7 + 5 * (0 + ((l.length : Nat) : Int))) % 94) (by omega) (by omega)
        refine ⟨S, _, d, rfl, rfl, hS.len (by decide), hd1, _, l ++ [d], rfl, rfl, ?_, by simp, mem_snoc al hd2⟩
        rw [List.map_append, List.map_append]
        rfl
      · rintro ys σ H2 ⟨x, l, rfl, rfl, rfl, el, al⟩ p np
        have c0 : ("" : Str).length = 0 := by decide +kernel
        refine ⟨_, p, l.map one, rfl, rfl, .inl (SqL.of upd_same), by rw [sum_ones, c0]; omega, k _ _ (line_parts.mpr ⟨?_, ?_⟩) (same_upd np)⟩
        · rw [length_cs, cs_joinOnes]; omega
        · rw [cs_joinOnes, List.all_eq_true]; exact al
end h_line
theorem rep_ones : ∀ n : Nat, (List.replicate n [V.str "a"]).flatten = ((List.replicate n 97).map one).map V.str
  | 0 => rfl
  | n + 1 => by
    rw [List.replicate_succ, List.flatten_cons, rep_ones n, List.replicate_succ, List.map_cons, List.map_cons]
    have e : (one 97) = ("a" : Str) := by decide +kernel
    rw [e]
    rfl
namespace h_label
abbrev st : Stmt := top 31
theorem sc : FnScope ["_law_cell", "_law_letters", "_law_size", "_law_word"] ["_law_cell"] (defScope st) := ⟨rfl, rfl, rfl, by decide +kernel, rfl, by decide +kernel, by decide +kernel⟩
theorem ok {f : Addr} {fd : FuncData} (F : Fun K "_law_label_by" "_law_label_by" st f fd) (T : Txt K mg t1 t2 t3 t4 aP aF aA b1 b2 b3 b4 b5 b6 b7 b8) : FnOk P w K mg base CX0 1 f fd ["_law_cell"] spLabelBy := by
  refine F.ok sc (fun vs H Q E h => ?_) (fun cdv A outer s H vs Q E hr h => ?_)
  · obtain ⟨c, rfl, _⟩ := h
    rfl
  · obtain ⟨c, rfl, k⟩ := h
    refine ⟨_, (pss_cons (ps_set (i := 1) sc.nd rfl (Or.inr rfl) pe_str)
      (pss_cons (ps_set (i := 2) sc.nd rfl (Or.inl rfl) (pe_op op_add pe_int (pe_op op_mod (pv 0) pe_int)))
      (pss_cons (ps_setc (sc := defScope st) (N := ["_law_cell", "_law_letters", "_law_size", "_law_word"]) (N' := ["_law_k", "_law_letters", "_law_cell"]) (src := [none, some 1, some 0]) ⟨by decide +kernel, rfl, rfl, by decide +kernel, by decide +kernel, by decide +kernel, by decide +kernel⟩ rfl rfl rfl (pi_range1 rfl T.range (pa_cons (pv 2) pa_nil)) (fun _ _ _ _ => (pg_name (i := 0) (show (["_law_k", "_law_letters", "_law_cell"] : List Str).Nodup by decide +kernel) rfl (Or.inl rfl))) (fun _ _ _ _ => pf_nil) (fun _ _ _ _ => (pe_ix ix_str (pv 1) (pe_op op_mod (pe_op op_add (pe_op op_fdiv (pv 2) pe_int) (pe_op op_mul (pe_op op_mod (pe_op op_fdiv (pv 2) pe_int) pe_int) (pv 0))) pe_int) (fun _ _ => rfl))) sc.nd rfl (Or.inl rfl) (k := 3))
      (pss_cut (ps_if (pt_cmpR op_eq (pe_op op_mod (pe_op op_fdiv (pv 0) pe_int) pe_int) pe_int (nomark _))
        (pss_cons (ps_set (i := 3) sc.nd rfl (Or.inl rfl) (pe_op op_rep (pe_lst (pa_cons pe_str pa_nil)) (pv 2)))
        (pss_one (ps_asg (pe_ix ix_str (pv 1) (pe_op op_mod (pe_op op_fdiv (pv 0) pe_int) pe_int) (fun _ _ => rfl)) (pg_sub (pv 3) (pe_op op_mod (pe_op op_fdiv (pv 0) pe_int) (pv 2)) set_list))))
        pss_nil)
      (pss_one (ps_ret (pe_bm PySem.F.plainAttrs_str PySem.F.slot_str_join PySem.F.type_str_join mt_join pe_str (pa_cons (pv 3) pa_nil)))))))), ?_⟩
    obtain ⟨S, hS0, hS, hA⟩ : ∃ S : Str, S = "abcdefghijklmnopqrstuvwxyz" ∧ MenuP lowB 26 S ∧ cs S = (List.range 26).map (· + 97) := ⟨_, rfl, ⟨by decide +kernel, by decide +kernel⟩, by decide +kernel⟩
    rw [← hS0]
    have b1 : 0 ≤ c % 8 ∧ c % 8 < 8 := by omega
    refine ⟨_, rfl, _, _, rfl, rfl, (by show (0 : Int) < 8; decide), _, _, rfl, rfl, ?_⟩
    refine ⟨_, rfl, _, rfl, by omega, by omega, comp_range0 (fun i ys σ H2 => ∃ x l, σ = [x, some (.str S), some (.int c)] ∧ H2 = H ∧ ys = (l.map one).map V.str ∧ l.length = i ∧ (∀ c ∈ l, lowB c = true) ∧ ∀ (j e : Nat), l[j]? = some e → (e : Int) = 97 + (c / 16 + c / 400 % 2 * (0 + (j : Int))) % 26) ⟨none, [], rfl, rfl, rfl, rfl, (fun c hc => nomatch hc), fun j e hj => by cases hj⟩ (le_line (by omega))
      (fun i ys σ H2 hi ⟨x, l, _, _, ey, el, _, _⟩ => by rw [ey, List.length_map, List.length_map, el]; exact Nat.le_refl _) ?_ ?_⟩
    · rintro i ys σ H2 hi ⟨x, l, rfl, rfl, rfl, rfl, al, av⟩
      refine ⟨_, rfl, _, rfl, _, _, rfl, rfl, ⟨by decide, by decide⟩, _, rfl, _, _, rfl, rfl, ⟨by decide, by decide⟩, _, _, rfl, rfl, (by show (0 : Int) < 2; decide), _, rfl, _, _, rfl, rfl, .inr ⟨by omega, by omega⟩, _, _, rfl, rfl, _, _, rfl, rfl, (by show (0 : Int) < 26; decide), ?_⟩
      obtain ⟨d, hd1, hd2⟩ := hS.at (i := (c / 16 + c / 400 % 2 * (0 + ((l.length : Nat) : Int))) % 26) (by omega) (by omega)
      have hd3 := abc_at hA (i := (c / 16 + c / 400 % 2 * (0 + ((l.length : Nat) : Int))) % 26) (by omega) (by omega) hd1
      refine ⟨S, _, d, rfl, rfl, hS.len (by decide), hd1, _, l ++ [d], rfl, rfl, ?_, by simp, mem_snoc al hd2, fun j e hj => ?_⟩
      · rw [List.map_append, List.map_append]
        rfl
      · rcases Nat.lt_trichotomy j l.length with z | z | z
        · rw [List.getElem?_append_left z] at hj
          exact av j e hj
        · subst z
          rw [List.getElem?_append_right (Nat.le_refl _), Nat.sub_self] at hj
          have hj : d = e := Option.some.inj hj
          rw [← hj]
          exact hd3
        · rw [List.getElem?_eq_none (by rw [List.length_append, List.length_singleton]; omega)] at hj
          cases hj
    · rintro ys σ H2 ⟨x, l, rfl, rfl, rfl, el, al, av⟩ p np
      refine ⟨fun σ' H' => ∃ (q : Addr) (l : List Nat), σ' = [some (.int c), some (.str S), some (.int (1 + c % 8)), some (.ref q)] ∧ Same H2 H' ∧ H' q = some (.lst ((l.map one).map V.str)) ∧ 1 ≤ l.length ∧ l.length ≤ 8 ∧ (∀ c ∈ l, lowB c = true) ∧ l ≠ [122, 121, 120], ?_, ?_⟩
      · refine ⟨_, rfl, _, _, rfl, rfl, ⟨by decide, by decide⟩, _, _, rfl, rfl, (by show (0 : Int) < 2; decide), rfl, _, rfl, ite2 (fun _ => ?_) (fun _ => ?_)⟩
        · refine ⟨lineN 1, fun l1 n1 => ⟨_, rfl, l1, _, _, rfl, rfl, upd_same, by omega, by omega, ?_, fun l2 n2 => ?_⟩⟩
          · show 1 * (1 + c % 8).toNat ≤ _
            exact le_line (by omega)
          rw [rep_ones]
          refine ⟨_, rfl, _, rfl, _, _, rfl, rfl, ⟨by decide, by decide⟩, _, _, rfl, rfl, (by show (0 : Int) < 26; decide), ?_⟩
          obtain ⟨d, hd1, hd2⟩ := hS.at (i := c / 128 % 26) (by omega) (by omega)
          refine ⟨S, _, d, rfl, rfl, hS.len (by decide), hd1, _, rfl, _, rfl, _, _, rfl, rfl, ⟨by decide, by decide⟩, _, rfl, _, _, rfl, rfl, (by show (0 : Int) < 1 + c % 8; omega), ?_⟩
          have hix : ixN (((List.replicate (1 + c % 8).toNat 97).map one).map V.str).length (c / 16 % (1 + c % 8)) = some (c / 16 % (1 + c % 8)).toNat := by
            have z1 : 0 ≤ c / 16 % (1 + c % 8) := Int.emod_nonneg _ (by omega)
            have z2 : c / 16 % (1 + c % 8) < 1 + c % 8 := Int.emod_lt_of_pos _ (by omega)
            unfold ixN
            rw [if_pos z1, List.length_map, List.length_map, List.length_replicate, if_pos (by omega)]
          refine ⟨l2, _, _, _, rfl, rfl, upd_same, hix, l2, (List.replicate (1 + c % 8).toNat 97).set (c / 16 % (1 + c % 8)).toNat d, rfl, ?_, ?_, ?_, ?_, ?_, ?_⟩
          · rw [upd_upd]
            exact ((same_upd np).trans (same_upd n1)).trans (same_upd n2)
          · rw [upd_same, List.map_set, List.map_set]
            rfl
          · rw [List.length_set, List.length_replicate]
            omega
          · rw [List.length_set, List.length_replicate]
            omega
          · intro e he
            rcases List.mem_or_eq_of_mem_set he with z | z
            · rw [(List.mem_replicate.mp z).2]; decide
            · rw [z]; exact hd2
          · exact not_zyx_set
        · exact ⟨p, l, rfl, same_upd np, upd_same, by omega, by omega, al, not_zyx av⟩
      · rintro σ' H' ⟨q, l', rfl, s1, hq, hl1, hl', al', nz⟩
        have c0 : ("" : Str).length = 0 := by decide +kernel
        refine ⟨rfl, _, rfl, _, q, l'.map one, rfl, rfl, .inl (SqL.of hq), by rw [sum_ones, c0]; omega, k _ _ (label_parts.mpr ⟨?_, ?_, ?_⟩) ?_ s1⟩
        · rw [length_cs, cs_joinOnes]; omega
        · rw [length_cs, cs_joinOnes]; omega
        · rw [cs_joinOnes, List.all_eq_true]; exact al'
        · exact zyx_ne (by rw [cs_joinOnes]; exact nz)
end h_label
namespace h_bent
abbrev st : Stmt := top 32
theorem sc : FnScope ["_law_text", "_law_cell", "_law_some", "_law_at"] ["_law_text", "_law_cell"] (defScope st) := ⟨rfl, rfl, rfl, by decide +kernel, rfl, by decide +kernel, by decide +kernel⟩
theorem ok {f : Addr} {fd : FuncData} (F : Fun K "_law_bent" "_law_bent" st f fd) (T : Txt K mg t1 t2 t3 t4 aP aF aA b1 b2 b3 b4 b5 b6 b7 b8) : FnOk P w K mg base CX0 1 f fd ["_law_text", "_law_cell"] spBent := by
  refine F.ok sc (fun vs H Q E h => ?_) (fun cdv A outer s H vs Q E hr h => ?_)
  · obtain ⟨x, c, rfl, _⟩ := h
    rfl
  · obtain ⟨x, c, rfl, hx, xl, k⟩ := h
    refine ⟨_, (pss_cons (ps_set (i := 2) sc.nd rfl (Or.inl rfl) pe_str)
      (pss_cons (ps_set (i := 3) sc.nd rfl (Or.inl rfl) (pe_op op_mod (pe_op op_fdiv (pv 1) pe_int) (pe_op op_add (pe_callB call_len_str (by rfl) T.len PySem.boot_len (pa_cons (pv 0) pa_nil)) pe_int)))
      (pss_cons (ps_if (pt_cmpR op_eq (pe_op op_mod (pv 1) pe_int) pe_int (nomark _))
        (pss_one (ps_ret (pv 0)))
        pss_nil)
      (pss_one (ps_ret (pe_op op_add_str (pe_op op_add_str (pe_slice sl_str (pv 0) po_none (po_some (pv 3))) (pe_ix ix_str (pv 2) (pe_op op_mod (pe_op op_fdiv (pv 1) pe_int) pe_int) (fun _ _ => rfl))) (pe_slice sl_str (pv 0) (po_some (pv 3)) po_none))))))), ?_⟩
    obtain ⟨S, hS0, hS⟩ : ∃ S : Str, S = " /ABab-09_." ∧ MenuP okB 11 S := ⟨_, rfl, by decide +kernel, by decide +kernel⟩
    rw [← hS0]
    refine ⟨_, rfl, _, _, rfl, rfl, ⟨by decide, by decide⟩, _, rfl, x, rfl, le_line (by omega), _, _, rfl, rfl, _, _, rfl, rfl, (by show (0 : Int) < (x.length : Int) + 1; omega), ?_⟩
    refine ⟨_, rfl, _, _, rfl, rfl, (by show (0 : Int) < 3; decide), rfl, _, rfl, ite2 (fun _ => ⟨_, rfl, k x hx (by omega)⟩) (fun _ => ?_)⟩
    have sl1 := PySem.Txt.slice_le x none (some (c / 3 % ((x.length : Int) + 1)))
    have sl2 := PySem.Txt.slice_le x (some (c / 3 % ((x.length : Int) + 1))) none
    obtain ⟨d, hd1, hd2⟩ := hS.at (i := c / 7 % 11) (by omega) (by omega)
    have o1 : ∀ d, (⟨#[d]⟩ : Str).length = 1 := fun d => rfl
    refine ⟨_, rfl, _, rfl, _, rfl, x, rfl, le_line (by omega), _, rfl, _, rfl, _, _, rfl, rfl, ⟨by decide, by decide⟩, _, _, rfl, rfl, (by show (0 : Int) < 11; decide), S, _, d, rfl, rfl, hS.len (by decide), hd1, ?_⟩
    refine ⟨_, _, rfl, rfl, le_line (by rw [o1]; omega), _, rfl, _, rfl, _, rfl, x, rfl, le_line (by omega), _, _, rfl, rfl, le_line ?_, k _ (app_okB (app_okB (cut_okB hx _ _) ?_) (cut_okB hx _ _)) ?_⟩
    · have := Str.length_append (PySem.Txt.slice x none (some (c / 3 % ((x.length : Int) + 1)))) ⟨#[d]⟩
      rw [this, o1]; omega
    · show (okB d && true) = true
      rw [hd2]; rfl
    · have l1 := Str.length_append (PySem.Txt.slice x none (some (c / 3 % ((x.length : Int) + 1))) ++ ⟨#[d]⟩) (PySem.Txt.slice x (some (c / 3 % ((x.length : Int) + 1))) none)
      have l2 := Str.length_append (PySem.Txt.slice x none (some (c / 3 % ((x.length : Int) + 1)))) ⟨#[d]⟩
      rw [l1, l2, o1]; omega
end h_bent
namespace h_good
abbrev st : Stmt := top 33
theorem sc : FnScope ["_law_text", "_law_labels", "_law_label", "_law_sign"] ["_law_text"] (defScope st) := ⟨rfl, rfl, rfl, by decide +kernel, rfl, by decide +kernel, by decide +kernel⟩
theorem low (c : Nat) : (!(!(Builtin.Str.occurrences ("abcdefghijklmnopqrstuvwxyz" : Str) ⟨#[c]⟩ 0 ("abcdefghijklmnopqrstuvwxyz" : Str).length 1).isEmpty)) = !lowB c := by
  rw [StrLaws.found_one]
  congr 1
  have e : ("abcdefghijklmnopqrstuvwxyz" : Str).cps.toList = (List.range 26).map (· + 97) := by decide +kernel
  rw [e]
  unfold lowB
  rw [← Bool.decide_and]
  refine decide_eq_decide.mpr ?_
  rw [List.mem_map]
  constructor
  · rintro ⟨a, ha, rfl⟩
    have := List.mem_range.mp ha
    omega
  · rintro ⟨h1, h2⟩
    exact ⟨c - 97, List.mem_range.mpr (by omega), by omega⟩
theorem ok {f : Addr} {fd : FuncData} (F : Fun K "_law_good" "_law_good" st f fd) (T : Txt K mg t1 t2 t3 t4 aP aF aA b1 b2 b3 b4 b5 b6 b7 b8) : FnOk P w K mg base CX0 1 f fd ["_law_text"] (spGood K) := by
  refine F.ok sc (fun vs H Q E h => ?_) (fun cdv A outer s H vs Q E hr h => ?_)
  · obtain ⟨y, rfl, _⟩ := h
    rfl
  · obtain ⟨y, rfl, yl, k⟩ := h
    refine ⟨_, (pss_cons (ps_set (i := 1) sc.nd rfl (Or.inl rfl) (pe_bm PySem.F.plainAttrs_str PySem.F.slot_str_split PySem.F.type_str_split mt_split (pv 0) (pa_cons pe_str pa_nil)))
      (pss_cons (ps_if (pt_cmpR op_gt (pe_callB call_len_seq (by rfl) T.len PySem.boot_len (pa_cons (pv 1) pa_nil)) pe_int (nomark _))
        (pss_one (ps_ret pe_bl))
        pss_nil)
      (pss_cons (ps_for PassesOwn.never rfl (pi_list (pv 1)) (pg_name (i := 2) sc.nd rfl (Or.inl rfl))
        (pss_cons (ps_if (pt_not (pt_chain op_le op_le pe_int (pe_callB call_len_str (by rfl) T.len PySem.boot_len (pa_cons (pv 2) pa_nil)) pe_int))
          (pss_one (ps_ret pe_bl))
          pss_nil)
        (pss_one (ps_for PassesOwn.never rfl (pi_str (pv 2)) (pg_name (i := 3) sc.nd rfl (Or.inl rfl))
          (pss_one (ps_if (pt_cmpR op_notin_str (pv 3) pe_str (by with_unfolding_all rfl))
            (pss_one (ps_ret pe_bl))
            pss_nil))))))
      (pss_one (ps_ret pe_bl))))), ?_⟩
    have cl := labs_cnt y
    refine ⟨_, rfl, rfl, y, 47, rfl, sl47, by omega, fun l nl => ?_⟩
    rw [labs47]
    have u := same_upd (o := .lst ((labs y).map V.str)) nl
    refine ⟨_, rfl, l, _, rfl, .inl (SqL.of upd_same), _, _, rfl, rfl, _, rfl, ite2 (fun h1 => ?_) (fun h1 => ?_)⟩
    · have e : pathB y = false := by
        have h1 := of_decide_eq_true h1
        rw [List.length_map] at h1
        unfold pathB
        rw [decide_eq_false (p := (labs y).length ≤ 4) (by omega)]; rfl
      rw [e] at k
      exact k _ u
    have h4 : (labs y).length ≤ 4 := by
      have h1 : ¬ ((((labs y).map V.str).length : Int) > 4) := fun z => h1 (decide_eq_true z)
      rw [List.length_map] at h1
      omega
    have bad : ∀ z ∈ labs y, labelB z = false → pathB y = false := fun z hz e => by
      refine Bool.eq_false_iff.mpr fun q => ?_
      unfold pathB at q
      rw [Bool.and_eq_true] at q
      rw [List.all_eq_true.mp q.2 z hz] at e
      cases e
    refine ⟨_, rfl, l, rfl, ⟨_, SqL.of upd_same⟩, for_list (K := K) (a := l) (xs := (labs y).map V.str) (fun i σ H2 => ∃ o1 o2, σ = [some (.str y), some (.ref l), o1, o2] ∧ H2 = upd H l (.lst ((labs y).map V.str)) ∧ ((labs y).take i).all labelB = true) ⟨none, none, rfl, rfl, rfl⟩ (fun i σ H2 hi ⟨_, _, _, e2, _⟩ => by rw [e2]; exact SqL.of upd_same) ?_ ?_⟩
    · rintro i v σ H2 hv ⟨o1, o2, rfl, rfl, al⟩
      rw [List.getElem?_map] at hv
      cases q : (labs y)[i]? with
      | none => rw [q] at hv; cases hv
      | some z =>
        rw [q] at hv
        have hv : V.str z = v := Option.some.inj hv
        subst hv
        have zm := List.mem_of_getElem? q
        have zl := labs_len zm
        have step : labelB z = true → ((labs y).take (i + 1)).all labelB = true := fun e => by
          rw [List.take_add_one, q, List.all_append, al]
          show (true && (labelB z && true)) = true
          rw [e]; rfl
        have out : labelB z = false → Q (.bl false) (upd H l (.lst ((labs y).map V.str))) := fun e => by
          have := bad z zm e
          rw [this] at k
          exact k _ u
        refine ⟨_, rfl, z, rfl, le_line (by omega), _, _, rfl, rfl, _, rfl, ite2 (fun h2 => ?_) (fun h2 => ?_)⟩
        · have h2 := of_decide_eq_true h2
          refine ⟨_, _, rfl, rfl, ?_⟩
          by_cases h3 : z.length ≤ 8
          · refine ⟨true, congrArg V.bl (decide_eq_true (show ((z.length : Nat) : Int) ≤ 8 by omega)), ?_⟩
            refine iteF ⟨_, rfl, z, rfl, for_str (fun j σ H2 => ∃ o, σ = [some (.str y), some (.ref l), some (.str z), o] ∧ H2 = upd H l (.lst ((labs y).map V.str)) ∧ ((cs z).take j).all lowB = true) ⟨_, rfl, rfl, rfl⟩ ?_ ?_⟩
            · rintro j c σ H2 hc ⟨o, rfl, rfl, al2⟩
              refine ⟨_, rfl, _, _, rfl, rfl, _, rfl, ?_⟩
              rw [low]
              have hc' : (cs z)[j]? = some c := cs_get hc
              cases q2 : lowB c with
              | true =>
                refine iteF ⟨_, rfl, rfl, ?_⟩
                rw [List.take_add_one, hc', List.all_append, al2]
                show (true && (lowB c && true)) = true
                rw [q2]; rfl
              | false =>
                refine iteT (out ?_)
                refine Bool.eq_false_iff.mpr fun w => ?_
                have := List.all_eq_true.mp (label_parts.mp w).2.2 c (List.mem_of_getElem? hc')
                rw [q2] at this; cases this
            · rintro σ H2 ⟨o, rfl, rfl, al2⟩
              rw [length_cs, List.take_length] at al2
              exact ⟨_, _, rfl, rfl, step (label_parts.mpr ⟨by omega, h3, al2⟩)⟩
          · refine ⟨false, congrArg V.bl (decide_eq_false (show ¬ ((z.length : Nat) : Int) ≤ 8 by omega)), ?_⟩
            exact iteT (out (Bool.eq_false_iff.mpr fun w => h3 (label_parts.mp w).2.1))
        · refine ⟨_, rfl, ?_⟩
          refine iteT (out (Bool.eq_false_iff.mpr fun w => h2 (decide_eq_true ?_)))
          have := (label_parts.mp w).1
          omega
    · rintro σ H2 ⟨o1, o2, rfl, rfl, al⟩
      rw [List.length_map, List.take_length] at al
      have e : pathB y = true := by
        unfold pathB
        rw [al, decide_eq_true h4]; rfl
      rw [e] at k
      exact k _ u
end h_good
namespace h_kind
abbrev st : Stmt := top 34
theorem sc : FnScope ["_law_error"] ["_law_error"] (defScope st) := ⟨rfl, rfl, rfl, by decide +kernel, rfl, by decide +kernel, by decide +kernel⟩
theorem ok {f : Addr} {fd : FuncData} (F : Fun K "_law_kind" "_law_kind" st f fd) (T : Txt K mg t1 t2 t3 t4 aP aF aA b1 b2 b3 b4 b5 b6 b7 b8) : FnOkH P w K mg base CX0 1 f fd ["_law_error"] (spKind aP aF) := by
  refine F.okH sc (fun vs H Q E h => ?_) (fun cdv A outer s H vs Q E hr h => ?_)
  · obtain ⟨e, rfl, _⟩ := h
    rfl
  · obtain ⟨e, rfl, h⟩ := h
    refine ⟨_, (pss_cons (ps_if (PW.pt (pw_or (pt_truthK (K := K) (pe_callB (call_isinstE (K := K) (C := b1)) (by rfl) T.isinstance PyProof.Rows.boot_isinstance (pa_cons (pv 0) (pa_cons (pe_glob (v := .ref b1) rfl T.NoName rfl) pa_nil))) (fun _ => rfl)) (pw_or (pt_truthK (K := K) (pe_callB (call_isinstE (K := K) (C := b2)) (by rfl) T.isinstance PyProof.Rows.boot_isinstance (pa_cons (pv 0) (pa_cons (pe_glob (v := .ref b2) rfl T.NoThing rfl) pa_nil))) (fun _ => rfl)) (pw_or1 (pt_truthK (K := K) (pe_callB (call_isinstE (K := K) (C := b3)) (by rfl) T.isinstance PyProof.Rows.boot_isinstance (pa_cons (pv 0) (pa_cons (pe_glob (v := .ref b3) rfl T.BadLine rfl) pa_nil))) (fun _ => rfl))))))
        (pss_one (ps_ret pe_str))
        pss_nil)
      (pss_cons (ps_if (PW.pt (pw_or (pt_truthK (K := K) (pe_callB (call_isinstE (K := K) (C := b4)) (by rfl) T.isinstance PyProof.Rows.boot_isinstance (pa_cons (pv 0) (pa_cons (pe_glob (v := .ref b4) rfl T.NoBranch rfl) pa_nil))) (fun _ => rfl)) (pw_or (pt_truthK (K := K) (pe_callB (call_isinstE (K := K) (C := b5)) (by rfl) T.isinstance PyProof.Rows.boot_isinstance (pa_cons (pv 0) (pa_cons (pe_glob (v := .ref b5) rfl T.BadBranch rfl) pa_nil))) (fun _ => rfl)) (pw_or1 (pt_truthK (K := K) (pe_callB (call_isinstE (K := K) (C := b6)) (by rfl) T.isinstance PyProof.Rows.boot_isinstance (pa_cons (pv 0) (pa_cons (pe_glob (v := .ref b6) rfl T.Clash rfl) pa_nil))) (fun _ => rfl))))))
        (pss_one (ps_ret pe_str))
        pss_nil)
      (pss_cons (ps_if (PW.pt (pw_or (pt_truthK (K := K) (pe_callB (call_isinstE (K := K) (C := b7)) (by rfl) T.isinstance PyProof.Rows.boot_isinstance (pa_cons (pv 0) (pa_cons (pe_glob (v := .ref b7) rfl T.NoVersion rfl) pa_nil))) (fun _ => rfl)) (pw_or (pt_truthK (K := K) (pe_callB (call_isinstE (K := K) (C := b8)) (by rfl) T.isinstance PyProof.Rows.boot_isinstance (pa_cons (pv 0) (pa_cons (pe_glob (v := .ref b8) rfl T.NoFit rfl) pa_nil))) (fun _ => rfl)) (pw_or1 (pt_not (pt_truthK (K := K) (pe_callB (call_isinstET (K := K) (T := "ValueError")) (by rfl) T.isinstance PyProof.Rows.boot_isinstance (pa_cons (pv 0) (pa_cons (pe_bltn (v := .ty "ValueError") rfl T.ValueError (by decide +kernel) rfl) pa_nil))) (fun _ => rfl)))))))
        (pss_one (ps_ret pe_str))
        pss_nil)
      (pss_cons (ps_if (pt_cmpR op_eq (pe_callB (call_isinstE (K := K) (C := aP)) (by rfl) T.isinstance PyProof.Rows.boot_isinstance (pa_cons (pv 0) (pa_cons (pe_glob (v := .ref aP) rfl T.BadPath rfl) pa_nil))) (pe_callB (call_isinstE (K := K) (C := aF)) (by rfl) T.isinstance PyProof.Rows.boot_isinstance (pa_cons (pv 0) (pa_cons (pe_glob (v := .ref aF) rfl T.BadFiles rfl) pa_nil))) (nomark _))
        (pss_one (ps_ret pe_str))
        pss_nil)
      (pss_one (ps_ret (pe_ifExp (pt_truthK (K := K) (pe_callB (call_isinstE (K := K) (C := aP)) (by rfl) T.isinstance PyProof.Rows.boot_isinstance (pa_cons (pv 0) (pa_cons (pe_glob (v := .ref aP) rfl T.BadPath rfl) pa_nil))) (fun _ => rfl)) pe_str pe_str))))))), ?_⟩
    rcases h with ⟨he, k⟩ | ⟨he, k⟩
    · refine ⟨_, rfl, e, aP, false, rfl, he, T.ekP, T.p1, _, rfl, iteF ⟨_, rfl, e, aP, false, rfl, he, T.ekP, T.p2, _, rfl, iteF ⟨_, rfl, e, aP, false, rfl, he, T.ekP, T.p3, _, rfl, iteF ?_⟩⟩⟩
      refine ⟨_, rfl, e, aP, false, rfl, he, T.ekP, T.p4, _, rfl, iteF ⟨_, rfl, e, aP, false, rfl, he, T.ekP, T.p5, _, rfl, iteF ⟨_, rfl, e, aP, false, rfl, he, T.ekP, T.p6, _, rfl, iteF ?_⟩⟩⟩
      refine ⟨_, rfl, e, aP, false, rfl, he, T.ekP, T.p7, _, rfl, iteF ⟨_, rfl, e, aP, false, rfl, he, T.ekP, T.p8, _, rfl, iteF ⟨_, rfl, e, aP, true, rfl, he, T.ekP, T.pV, _, rfl, iteF ?_⟩⟩⟩
      refine ⟨_, rfl, e, aP, true, rfl, he, T.ekP, T.pP, _, rfl, e, aP, false, rfl, he, T.ekP, T.pF, rfl, _, rfl, iteF ?_⟩
      exact ⟨_, rfl, e, aP, true, rfl, he, T.ekP, T.pP, _, rfl, iteT k⟩
    · refine ⟨_, rfl, e, aF, false, rfl, he, T.ekF, T.f1, _, rfl, iteF ⟨_, rfl, e, aF, false, rfl, he, T.ekF, T.f2, _, rfl, iteF ⟨_, rfl, e, aF, false, rfl, he, T.ekF, T.f3, _, rfl, iteF ?_⟩⟩⟩
      refine ⟨_, rfl, e, aF, false, rfl, he, T.ekF, T.f4, _, rfl, iteF ⟨_, rfl, e, aF, false, rfl, he, T.ekF, T.f5, _, rfl, iteF ⟨_, rfl, e, aF, false, rfl, he, T.ekF, T.f6, _, rfl, iteF ?_⟩⟩⟩
      refine ⟨_, rfl, e, aF, false, rfl, he, T.ekF, T.f7, _, rfl, iteF ⟨_, rfl, e, aF, false, rfl, he, T.ekF, T.f8, _, rfl, iteF ⟨_, rfl, e, aF, true, rfl, he, T.ekF, T.fV, _, rfl, iteF ?_⟩⟩⟩
      refine ⟨_, rfl, e, aF, false, rfl, he, T.ekF, T.fP, _, rfl, e, aF, true, rfl, he, T.ekF, T.fF, rfl, _, rfl, iteF ?_⟩
      exact ⟨_, rfl, e, aF, false, rfl, he, T.ekF, T.fP, _, rfl, iteF k⟩
end h_kind
namespace h_parted
abbrev st : Stmt := top 35
theorem sc : FnScope ["_law_thing", "_law_error"] ["_law_thing"] (defScope st) := ⟨rfl, rfl, rfl, by decide +kernel, rfl, by decide +kernel, by decide +kernel⟩
theorem ok {f : Addr} {fd : FuncData} (F : Fun K "_law_parted" "_law_parted" st f fd) (T : Txt K mg t1 t2 t3 t4 aP aF aA b1 b2 b3 b4 b5 b6 b7 b8) (C_labels_of : CalX P w K mg base 3 "labels_of" ["path"] (spLabels K aP)) (C__law_kind : CalH P w K mg base 1 "_law_kind" ["_law_error"] (spKind aP aF)) : FnOk P w K mg base CX0 4 f fd ["_law_thing"] (spParted K) := by
  refine F.ok sc (fun vs H Q E h => ?_) (fun cdv A outer s H vs Q E hr h => ?_)
  · obtain ⟨d, v, rfl, _⟩ := h
    rfl
  · obtain ⟨d, v, rfl, hd, sm, k⟩ := h
    refine ⟨_, (pss_one (ps_try rfl rfl rfl (fun _ _ => (pss_one (ps_ret (pe_callX C_labels_of (hr.mono (by decide)) (raises_tryc rfl) (pa_cons (pv 0) pa_nil))))) rfl T.AnnalsError sc.nd (i := 1) rfl rfl (fun _ => (pss_one (ps_ret (pe_callH C__law_kind ((hr.mono (by decide)).h.mark _) (pa_cons (pv 1) pa_nil))))))), ?_⟩
    refine ⟨fun σ' H' cls => Same H H' ∧ cls = .ref aP ∧ pathD d = false ∧ σ' = [some v, none], ?_, ?_⟩
    · refine ⟨_, rfl, d, v, rfl, hd, sm, fun x ex hx p H' s' hp => k _ H' s' ?_, fun z H' s' => ⟨s', rfl, z, rfl⟩⟩
      subst ex
      show Dt K H' (if pathB x = true then _ else _) _
      rw [hx]
      exact ⟨p, _, rfl, hp, DtAll.strs _⟩
    · rintro σ' H' cls e ⟨s', rfl, z, rfl⟩ ne
      refine ⟨T.exmP, ?_⟩
      exact ⟨_, rfl, e, rfl, .inl ⟨upd_same, k _ _ (s'.trans (same_upd ne)) (by rw [due_no z]; exact rfl)⟩⟩
end h_parted
namespace h_needed
abbrev st : Stmt := top 36
theorem sc : FnScope ["_law_files", "_law_error"] ["_law_files"] (defScope st) := ⟨rfl, rfl, rfl, by decide +kernel, rfl, by decide +kernel, by decide +kernel⟩
theorem ok {f : Addr} {fd : FuncData} (F : Fun K "_law_needed" "_law_needed" st f fd) (T : Txt K mg t1 t2 t3 t4 aP aF aA b1 b2 b3 b4 b5 b6 b7 b8) (C_need_files : CalX P w K mg base 5 "need_files" ["files"] (spNeed K aF)) (C__law_kind : CalH P w K mg base 1 "_law_kind" ["_law_error"] (spKind aP aF)) : FnOk P w K mg base CX0 6 f fd ["_law_files"] (spNeeded K) := by
  refine F.ok sc (fun vs H Q E h => ?_) (fun cdv A outer s H vs Q E hr h => ?_)
  · obtain ⟨v, rfl, _⟩ := h
    rfl
  · obtain ⟨v, rfl, h⟩ := h
    refine ⟨_, (pss_one (ps_try rfl rfl rfl (fun _ _ => (pss_one (ps_ret (pe_callX C_need_files (hr.mono (by decide)) (raises_tryc rfl) (pa_cons (pv 0) pa_nil))))) rfl T.AnnalsError sc.nd (i := 1) rfl rfl (fun _ => (pss_one (ps_ret (pe_callH C__law_kind ((hr.mono (by decide)).h.mark _) (pa_cons (pv 1) pa_nil))))))), ?_⟩
    rcases h with ⟨d, hd, nd, k⟩ | ⟨a, ob, kvs, ps, rfl, ha, hp, pl, k1, k2⟩
    · refine ⟨fun σ' H' cls => Same H H' ∧ cls = .ref aF ∧ σ' = [some v, none], ?_, ?_⟩
      · exact ⟨_, rfl, v, rfl, .inl ⟨d, hd, nd, fun H' s' => ⟨s', rfl, rfl⟩⟩⟩
      · rintro σ' H' cls e ⟨s', rfl, rfl⟩ ne
        refine ⟨T.exmF, ?_⟩
        exact ⟨_, rfl, e, rfl, .inr ⟨upd_same, k _ (s'.trans (same_upd ne))⟩⟩
    · refine ⟨fun σ' H' cls => Same H H' ∧ cls = .ref aF ∧ goodB ps = false ∧ σ' = [some (.ref a), none], ?_, ?_⟩
      · exact ⟨_, rfl, .ref a, rfl, .inr ⟨a, ob, kvs, ps, rfl, ha, hp, pl, k1, fun z H' s' => ⟨s', rfl, z, rfl⟩⟩⟩
      · rintro σ' H' cls e ⟨s', rfl, z, rfl⟩ ne
        refine ⟨T.exmF, ?_⟩
        exact ⟨_, rfl, e, rfl, .inr ⟨upd_same, k2 z _ (s'.trans (same_upd ne))⟩⟩
end h_needed
end
end An05

set_option Elab.async false
set_option linter.all false
set_option maxRecDepth 100000
set_option maxHeartbeats 4000000
namespace An05
open PySem L2 An
/-! ### pairs that are put one behind the other -/
def putP (ps : List (Key × PyData)) (k : Key) (d : PyData) : List (Key × PyData) :=
  if (ps.any fun p => decide (p.1 = k)) = true then ps.map (fun p => if p.1 = k then (p.1, d) else p) else ps ++ [(k, d)]
def mergeP (ps : List (Key × PyData)) : List (Key × PyData) := ps.foldl (fun acc p => putP acc p.1 p.2) []
theorem any_keys {α : Type} (ps : List (Key × α)) (k : Key) : (ps.any fun p => decide (p.1 = k)) = memK k (ps.map (·.1)) := by
  unfold memK
  rw [List.any_map]; rfl
theorem PairsAt.append {K : PySem.W.Frag} {H : Hp} : ∀ {ps qs : List (Key × PyData)} {kvs lvs : List (Key × V)}, PairsAt K H ps kvs → PairsAt K H qs lvs → PairsAt K H (ps ++ qs) (kvs ++ lvs)
  | [], _, _, _, h, h2 => by rw [show _ = [] from h]; exact h2
  | p :: ps, _, _, _, ⟨v, r, h1, h3, h4, h5, h6⟩, h2 => by rw [h1]; exact ⟨v, r ++ _, rfl, h3, h4, h5, PairsAt.append h6 h2⟩
theorem PairsAt.repl {K : PySem.W.Frag} {H : Hp} {k : Key} {d : PyData} {v : V} (hd : Dw K H d v) (sd : small d = true) : ∀ {ps : List (Key × PyData)} {kvs : List (Key × V)}, PairsAt K H ps kvs →
    PairsAt K H (ps.map fun p => if p.1 = k then (p.1, d) else p) (kvs.map fun kv => if kv.1 = k then (kv.1, v) else kv)
  | [], _, h => by rw [show _ = [] from h]; exact rfl
  | p :: ps, _, ⟨u, r, h1, h3, h4, h5, h6⟩ => by
    rw [h1, List.map_cons, List.map_cons]
    by_cases e : p.1 = k
    · rw [if_pos e, if_pos (show ((p.1, u) : Key × V).1 = k from e)]
      exact ⟨v, _, rfl, hd, h4, sd, PairsAt.repl hd sd h6⟩
    · rw [if_neg e, if_neg (show ¬ ((p.1, u) : Key × V).1 = k from e)]
      exact ⟨u, _, rfl, h3, h4, h5, PairsAt.repl hd sd h6⟩
theorem PairsAt.put {K : PySem.W.Frag} {H : Hp} {ps : List (Key × PyData)} {kvs : List (Key × V)} {k : Key} {d : PyData} {v : V} (h : PairsAt K H ps kvs) (hd : Dw K H d v) (sk : small (keyD k) = true) (sd : small d = true) : PairsAt K H (putP ps k d) (putK kvs k v) := by
  have e : (kvs.any fun kv => decide (kv.1 = k)) = (ps.any fun p => decide (p.1 = k)) := by rw [any_keys, any_keys, h.keys]
  unfold putP putK
  rw [e]
  split
  · exact h.repl hd sd
  · exact h.append ⟨v, [], rfl, hd, sk, sd, rfl⟩
theorem put_len (ps : List (Key × PyData)) (k : Key) (d : PyData) : (putP ps k d).length ≤ ps.length + 1 := by
  unfold putP
  split
  · rw [List.length_map]; omega
  · rw [List.length_append]; simp
theorem merge_take {ps : List (Key × PyData)} {i : Nat} {p : Key × PyData} (h : ps[i]? = some p) : mergeP (ps.take (i + 1)) = putP (mergeP (ps.take i)) p.1 p.2 := by
  unfold mergeP
  rw [List.take_add_one, h, List.foldl_append]; rfl
theorem merge_len (ps : List (Key × PyData)) : (mergeP ps).length ≤ ps.length := by
  have : ∀ (l acc : List (Key × PyData)), (l.foldl (fun acc p => putP acc p.1 p.2) acc).length ≤ acc.length + l.length := by
    intro l
    induction l with
    | nil => intro acc; simp
    | cons p l ih =>
      intro acc
      rw [List.foldl_cons]
      have h1 := ih (putP acc p.1 p.2)
      have h2 := put_len acc p.1 p.2
      rw [List.length_cons]
      omega
  have := this ps []
  simpa [mergeP] using this
theorem put_keys (ps : List (Key × PyData)) (k j : Key) (d : PyData) : j ∈ (putP ps k d).map (·.1) ↔ j = k ∨ j ∈ ps.map (·.1) := by
  unfold putP
  split
  · rename_i h
    rw [any_keys, memK_iff] at h
    have e : (ps.map fun p => if p.1 = k then (p.1, d) else p).map (·.1) = ps.map (·.1) := by
      rw [List.map_map]
      refine List.map_congr_left fun p _ => ?_
      show (if p.1 = k then (p.1, d) else p).1 = p.1
      split <;> rfl
    rw [e]
    exact ⟨.inr, fun z => z.elim (fun z => z ▸ h) id⟩
  · rw [List.map_append, List.mem_append]
    simp only [List.map_cons, List.map_nil, List.mem_singleton]
    exact or_comm
theorem fold_keys : ∀ (ps acc : List (Key × PyData)) (j : Key), j ∈ (ps.foldl (fun acc p => putP acc p.1 p.2) acc).map (·.1) ↔ j ∈ ps.map (·.1) ∨ j ∈ acc.map (·.1)
  | [], acc, j => by simp
  | p :: ps, acc, j => by
    rw [List.foldl_cons, fold_keys ps, put_keys, List.map_cons, List.mem_cons]
    exact ⟨fun z => z.elim (fun z => .inl (.inr z)) (fun z => z.elim (fun z => .inl (.inl z)) .inr), fun z => z.elim (fun z => z.elim (fun z => .inr (.inl z)) .inl) (fun z => .inr (.inr z))⟩
theorem merge_keys (ps : List (Key × PyData)) (j : Key) : j ∈ (mergeP ps).map (·.1) ↔ j ∈ ps.map (·.1) := by
  unfold mergeP
  rw [fold_keys]; simp
theorem put_has (ps : List (Key × PyData)) (k : Key) (d : PyData) : (k, d) ∈ putP ps k d := by
  unfold putP
  split
  · rename_i h
    obtain ⟨p, hp, e⟩ := List.any_eq_true.mp h
    have e := of_decide_eq_true e
    exact List.mem_map.mpr ⟨p, hp, by rw [if_pos e, e]⟩
  · simp
theorem put_other {ps : List (Key × PyData)} {k j : Key} {d e : PyData} (h : (j, e) ∈ ps) (n : j ≠ k) : (j, e) ∈ putP ps k d := by
  unfold putP
  split
  · exact List.mem_map.mpr ⟨(j, e), h, by rw [if_neg n]⟩
  · exact List.mem_append_left _ h
theorem fold_other : ∀ {ps acc : List (Key × PyData)} {j : Key} {e : PyData}, (j, e) ∈ acc → j ∉ ps.map (·.1) → (j, e) ∈ ps.foldl (fun acc p => putP acc p.1 p.2) acc
  | [], _, _, _, h, _ => h
  | p :: ps, acc, j, e, h, n => by
    rw [List.foldl_cons]
    rw [List.map_cons, List.mem_cons] at n
    exact fold_other (put_other h fun z => n (.inl z)) fun z => n (.inr z)
theorem merge_at {a b : List (Key × PyData)} {k : Key} {d : PyData} (n : k ∉ b.map (·.1)) : (k, d) ∈ mergeP (a ++ [(k, d)] ++ b) := by
  unfold mergeP
  rw [List.foldl_append, List.foldl_append]
  exact fold_other (put_has _ k d) n
theorem merge_nd : ∀ {ps acc : List (Key × PyData)}, ((acc ++ ps).map (·.1)).Nodup → ps.foldl (fun acc p => putP acc p.1 p.2) acc = acc ++ ps
  | [], acc, _ => by simp
  | p :: ps, acc, h => by
    rw [List.foldl_cons]
    have hn : p.1 ∉ acc.map (·.1) := by
      rw [List.map_append, List.nodup_append] at h
      intro z
      exact h.2.2 _ z _ (by rw [List.map_cons]; exact List.mem_cons_self) rfl
    have e : putP acc p.1 p.2 = acc ++ [p] := by
      unfold putP
      rw [if_neg (by rw [any_keys, memK_iff]; exact hn)]
    rw [e, merge_nd (acc := acc ++ [p]) (by rw [List.append_assoc]; exact h), List.append_assoc]; rfl
/-! ### what is no files -/
theorem bad_file {ps : List (Key × PyData)} {p : Key × PyData} (h : p ∈ ps) (e : fileB p = false) : goodB ps = false := by
  unfold goodB
  have : ps.all fileB = false := by
    rw [Bool.eq_false_iff]
    intro z
    rw [List.all_eq_true.mp z p h] at e
    cases e
  rw [this]; rfl
theorem bad_clash {ps : List (Key × PyData)} {x f : Str} (hx : (Sum.inr x : Key) ∈ ps.map (·.1)) (hf : (Sum.inr f : Key) ∈ ps.map (·.1)) (o : overB f x = true) : goodB ps = false := by
  unfold goodB
  obtain ⟨p, hp, e⟩ := List.mem_map.mp hx
  have : (ps.all fun p => !clashK (ps.map (·.1)) p.1) = false := by
    rw [Bool.eq_false_iff]
    intro z
    have := List.all_eq_true.mp z p hp
    rw [e] at this
    have q : clashK (ps.map (·.1)) (.inr x) = true := List.any_eq_true.mpr ⟨f, fols_iff.mpr o, memK_iff.mpr hf⟩
    rw [q] at this
    cases this
  rw [this, Bool.and_false]
/-! ### rows of paths and lines -/
def pairG (r : Str × List Str) : Key × PyData := (.inr r.1, .tuple (r.2.map .str))
def rowK (p : Key × PyData) : PyData := .tuple [keyD p.1, p.2]
def apartR (r q : Str × List Str) : Prop := r.1 ≠ q.1 ∧ overB r.1 q.1 = false ∧ overB q.1 r.1 = false
structure GoodR (R : List (Str × List Str)) : Prop where
  path : ∀ r ∈ R, pathB r.1 = true
  nz : ∀ r ∈ R, r.1 ≠ "zyx"
  len : ∀ r ∈ R, r.1.length ≤ 40
  ok : ∀ r ∈ R, (cs r.1).all okB = true
  line : ∀ r ∈ R, ∀ l ∈ r.2, lineB l = true
  cnt : ∀ r ∈ R, r.2.length ≤ 2
  apart : R.Pairwise apartR
theorem GoodR.nil : GoodR [] := ⟨fun _ h => (nomatch h), fun _ h => (nomatch h), fun _ h => (nomatch h), fun _ h => (nomatch h), fun _ h => (nomatch h), fun _ h => (nomatch h), List.Pairwise.nil⟩
theorem GoodR.snoc {R : List (Str × List Str)} {r : Str × List Str} (g : GoodR R) (h1 : pathB r.1 = true) (h2 : r.1 ≠ "zyx") (h3 : r.1.length ≤ 40) (h4 : (cs r.1).all okB = true) (h5 : ∀ l ∈ r.2, lineB l = true) (h6 : r.2.length ≤ 2) (h7 : ∀ q ∈ R, apartR q r) : GoodR (R ++ [r]) :=
  ⟨mem_snoc g.path h1, mem_snoc g.nz h2, mem_snoc g.len h3, mem_snoc g.ok h4, mem_snoc g.line h5, mem_snoc g.cnt h6, List.pairwise_append.mpr ⟨g.apart, List.pairwise_singleton _ _, fun a ha b hb => by rw [List.mem_singleton.mp hb]; exact h7 a ha⟩⟩
theorem GoodR.keys (R : List (Str × List Str)) : (R.map pairG).map (·.1) = R.map fun r => (Sum.inr r.1 : Key) := by rw [List.map_map]; rfl
theorem GoodR.nd {R : List (Str × List Str)} (g : GoodR R) : ((R.map pairG).map (·.1)).Nodup := by
  rw [GoodR.keys]
  exact List.Pairwise.map _ (fun a b h z => h.1 (Sum.inr.inj z)) g.apart
theorem GoodR.merge {R : List (Str × List Str)} (g : GoodR R) : mergeP (R.map pairG) = R.map pairG := by
  unfold mergeP
  exact merge_nd (acc := []) g.nd
theorem pair_apart {R : List (Str × List Str)} (g : GoodR R) {r q : Str × List Str} (hr : r ∈ R) (hq : q ∈ R) : overB r.1 q.1 = false := by
  by_cases e : r = q
  · subst e; exact not_over_self _
  · have sym : ∀ {a b : Str × List Str}, apartR a b → apartR b a := fun h => ⟨fun z => h.1 z.symm, h.2.2, h.2.1⟩
    obtain ⟨i, hi, rfl⟩ := List.mem_iff_getElem.mp hr
    obtain ⟨j, hj, rfl⟩ := List.mem_iff_getElem.mp hq
    have := List.pairwise_iff_getElem.mp g.apart
    rcases Nat.lt_trichotomy i j with z | z | z
    · exact (this i j hi hj z).2.1
    · subst z; exact absurd rfl e
    · exact (this j i hj hi z).2.2
theorem GoodR.good {R : List (Str × List Str)} (g : GoodR R) : goodB (R.map pairG) = true := by
  unfold goodB
  rw [Bool.and_eq_true, List.all_eq_true, List.all_eq_true]
  constructor
  · intro p hp
    obtain ⟨r, hr, rfl⟩ := List.mem_map.mp hp
    show (pathB r.1 && (r.2.map PyData.str).all lineD) = true
    rw [g.path r hr, Bool.true_and, List.all_map, List.all_eq_true]
    exact g.line r hr
  · intro p hp
    obtain ⟨r, hr, rfl⟩ := List.mem_map.mp hp
    rw [GoodR.keys]
    show (!clashK _ (.inr r.1)) = true
    rw [Bool.not_eq_true', Bool.eq_false_iff]
    intro z
    obtain ⟨f, hf, hm⟩ := List.any_eq_true.mp z
    obtain ⟨q, hq, e⟩ := List.mem_map.mp (memK_iff.mp hm)
    have e : q.1 = f := Sum.inr.inj e
    have := fols_iff.mp hf
    rw [← e, pair_apart g hq hr] at this
    cases this
/-- a pair that is put in, and makes it no files -/
def Wr (R : List (Str × List Str)) (q : Key × PyData) : Prop :=
  pathD (keyD q.1) = false ∨ (linesD q.2 = false ∧ q.1 ∉ R.map fun r => (Sum.inr r.1 : Key)) ∨ ∃ r ∈ R, ∃ y, q.1 = .inr y ∧ (overB r.1 y = true ∨ overB y r.1 = true)
theorem wrong_in {R : List (Str × List Str)} {q : Key × PyData} {n : Nat} (h : Wr R q) : goodB (mergeP ((R.map pairG).take n ++ [q] ++ (R.map pairG).drop n)) = false := by
  have hk : ∀ j, j ∈ (mergeP ((R.map pairG).take n ++ [q] ++ (R.map pairG).drop n)).map (·.1) ↔ j = q.1 ∨ j ∈ (R.map pairG).map (·.1) := fun j => by
    rw [merge_keys, List.map_append, List.map_append, List.mem_append, List.mem_append]
    have e : j ∈ (R.map pairG).map (·.1) ↔ j ∈ ((R.map pairG).take n).map (·.1) ∨ j ∈ ((R.map pairG).drop n).map (·.1) := by
      rw [← List.mem_append, ← List.map_append, List.take_append_drop]
    rw [e]
    simp only [List.map_cons, List.map_nil, List.mem_singleton]
    exact ⟨fun z => z.elim (fun z => z.elim (fun z => .inr (.inl z)) .inl) (fun z => .inr (.inr z)), fun z => z.elim (fun z => .inl (.inr z)) (fun z => z.elim (fun z => .inl (.inl z)) .inr)⟩
  rcases h with h | ⟨h1, h2⟩ | ⟨r, hr, y, ey, h⟩
  · obtain ⟨p, hp, e⟩ := List.mem_map.mp ((hk q.1).mpr (.inl rfl))
    refine bad_file hp ?_
    unfold fileB
    rw [show p.1 = q.1 from e, h]; rfl
  · have hn : q.1 ∉ ((R.map pairG).drop n).map (·.1) := fun z => h2 (by
      rw [← GoodR.keys]
      obtain ⟨p, hp, e⟩ := List.mem_map.mp z
      exact List.mem_map.mpr ⟨p, List.mem_of_mem_drop hp, e⟩)
    obtain ⟨k, d⟩ := q
    refine bad_file (merge_at (a := (R.map pairG).take n) (d := d) hn) ?_
    unfold fileB
    rw [show linesD ((k, d) : Key × PyData).2 = false from h1, Bool.and_false]
  · have hr' : (Sum.inr r.1 : Key) ∈ (R.map pairG).map (·.1) := by
      rw [GoodR.keys]; exact List.mem_map.mpr ⟨r, hr, rfl⟩
    have h1 := (hk _).mpr (.inl ey.symm)
    have h2 := (hk _).mpr (.inr hr')
    rcases h with h | h
    · exact bad_clash h1 h2 h
    · exact bad_clash h2 h1 h
/-! ### data of the rows -/
theorem small_pair {R : List (Str × List Str)} (g : GoodR R) {r : Str × List Str} (hr : r ∈ R) : small (keyD (pairG r).1) = true ∧ small (pairG r).2 = true := by
  refine ⟨decide_eq_true (by have := g.len r hr; omega), ?_⟩
  show (decide ((r.2.map PyData.str).length ≤ 1000) && smallAll (r.2.map .str)) = true
  have h1 := g.cnt r hr
  have h2 := g.line r hr
  rw [List.length_map, decide_eq_true (by omega), Bool.true_and]
  have : ∀ ls : List Str, (∀ l ∈ ls, lineB l = true) → smallAll (ls.map .str) = true := by
    intro ls
    induction ls with
    | nil => intro _; rfl
    | cons l ls ih =>
      intro h
      show (decide (l.length ≤ 1000) && smallAll (ls.map .str)) = true
      have := (line_parts.mp (h l List.mem_cons_self)).1
      rw [decide_eq_true (by omega), ih fun x hx => h x (List.mem_cons_of_mem _ hx)]; rfl
  exact this _ h2
theorem only_rows : ∀ R : List (Str × List Str), tupOnlyAll ((R.map pairG).map rowK) = true
  | [] => rfl
  | r :: R => by
    show ((true && (tupOnlyAll (r.2.map .str) && true)) && tupOnlyAll ((R.map pairG).map rowK)) = true
    rw [tupOnly_strs, only_rows R]; rfl
def oddP : List (Key × PyData) := [(.inr "a b", .tuple []), (.inr "", .tuple []), (.inr "a/", .tuple []), (.inl 5, .tuple []), (.inr "zz/y/x/w/v", .tuple []), (.inr "zyx", .list [.str "a"]), (.inr "zyx", .tuple [.str "a", .str "xxxxxxxxxxxxxxxxxxxxx"]), (.inr "zyx", .str "a"), (.inr "zyx", .tuple [.none])]
theorem odd_wr {R : List (Str × List Str)} (g : GoodR R) {q : Key × PyData} (h : q ∈ oddP) : Wr R q ∧ small (keyD q.1) = true ∧ small q.2 = true := by
  have nz : (Sum.inr "zyx" : Key) ∉ R.map fun r => (Sum.inr r.1 : Key) := fun z => by
    obtain ⟨r, hr, e⟩ := List.mem_map.mp z
    exact g.nz r hr (Sum.inr.inj e)
  simp only [oddP, List.mem_cons, List.not_mem_nil, or_false] at h
  rcases h with rfl | rfl | rfl | rfl | rfl | rfl | rfl | rfl | rfl
  · exact ⟨.inl (by decide +kernel), by decide +kernel, by decide +kernel⟩
  · exact ⟨.inl (by decide +kernel), by decide +kernel, by decide +kernel⟩
  · exact ⟨.inl (by decide +kernel), by decide +kernel, by decide +kernel⟩
  · exact ⟨.inl rfl, rfl, rfl⟩
  · exact ⟨.inl (by decide +kernel), by decide +kernel, by decide +kernel⟩
  · exact ⟨.inr (.inl ⟨rfl, nz⟩), by decide +kernel, by decide +kernel⟩
  · exact ⟨.inr (.inl ⟨by decide +kernel, nz⟩), by decide +kernel, by decide +kernel⟩
  · exact ⟨.inr (.inl ⟨rfl, nz⟩), by decide +kernel, by decide +kernel⟩
  · exact ⟨.inr (.inl ⟨rfl, nz⟩), by decide +kernel, by decide +kernel⟩
/-! ### the path of a row -/
theorem jn_le : ∀ {ps : List (List Nat)} {n : Nat}, (∀ p ∈ ps, p.length ≤ n) → (jn ps).length ≤ ps.length * (n + 1)
  | [], _, _ => by simp [jn]
  | [x], n, h => by
    have := h x List.mem_cons_self
    show x.length ≤ 1 * (n + 1)
    omega
  | x :: y :: r, n, h => by
    have h1 := h x List.mem_cons_self
    have h2 := jn_le (ps := y :: r) (n := n) fun p hp => h p (List.mem_cons_of_mem _ hp)
    have e : (jn (x :: y :: r)).length = x.length + ((jn (y :: r)).length + 1) := by
      show (x ++ 47 :: jn (y :: r)).length = _
      rw [List.length_append, List.length_cons]
    have e2 : (x :: y :: r).length = (y :: r).length + 1 := List.length_cons
    rw [e, e2, Nat.add_mul]
    omega
theorem join_len {ys : List Str} (h : ∀ y ∈ ys, y.length ≤ 8) : (PySem.Txt.join "/" ys).length ≤ ys.length * 9 := by
  rw [length_cs, cs_join]
  have := jn_le (ps := ys.map cs) (n := 8) fun p hp => by
    obtain ⟨y, hy, rfl⟩ := List.mem_map.mp hp
    rw [← length_cs]; exact h y hy
  rw [List.length_map] at this
  exact this
theorem join_nz {ys : List Str} (h : ∀ y ∈ ys, y ≠ "zyx") : PySem.Txt.join "/" ys ≠ "zyx" := by
  intro e
  have := congrArg cs e
  rw [cs_join, show cs ("zyx" : Str) = [122, 121, 120] by decide +kernel] at this
  match ys, this, h with
  | [], e, _ => cases e
  | [y], e, h =>
    refine h y List.mem_cons_self (cs_inj ?_)
    rw [show cs ("zyx" : Str) = [122, 121, 120] by decide +kernel]
    exact e
  | x :: y :: r, e, _ =>
    have : (47 : Nat) ∈ cs x ++ 47 :: jn ((y :: r).map cs) := by simp
    rw [show cs x ++ 47 :: jn ((y :: r).map cs) = [122, 121, 120] from e] at this
    exact absurd this (by decide)
def hitB (path : Str) (r : Str × List Str) : Bool := decide (r.1 = path) || (overB path r.1 || overB r.1 path)
theorem hit_false {path : Str} {r : Str × List Str} (h : hitB path r = false) : r.1 ≠ path ∧ overB r.1 path = false ∧ overB path r.1 = false := by
  unfold hitB at h
  rw [Bool.or_eq_false_iff, Bool.or_eq_false_iff] at h
  exact ⟨of_decide_eq_false h.1, h.2.2, h.2.1⟩
/-! ### two dicts of the same rows -/
theorem val_cons {p : Key × V} {r : List (Key × V)} {k : Key} : valV (p :: r) k = if p.1 = k then some p.2 else valV r k := by
  unfold valV
  rw [List.find?_cons]
  by_cases e : p.1 = k
  · rw [if_pos e, decide_eq_true e]; rfl
  · rw [if_neg e, decide_eq_false e]
theorem PairsAt.val {K : PySem.W.Frag} {H : Hp} : ∀ {ps : List (Key × PyData)} {kvs : List (Key × V)} {k : Key} {d : PyData}, PairsAt K H ps kvs → (ps.map (·.1)).Nodup → (k, d) ∈ ps → ∃ v, valV kvs k = some v ∧ Dw K H d v
  | [], _, _, _, _, _, hm => nomatch hm
  | p :: ps, _, k, d, ⟨v, r, h1, h2, _, _, h5⟩, nd, hm => by
    rw [h1, val_cons]
    rw [List.map_cons, List.nodup_cons] at nd
    rcases List.mem_cons.mp hm with e | hm
    · subst e
      rw [if_pos rfl]
      exact ⟨v, rfl, h2⟩
    · rw [if_neg (fun z => nd.1 (List.mem_map.mpr ⟨(k, d), hm, (show k = p.1 from z.symm)⟩))]
      exact PairsAt.val h5 nd.2 hm
theorem hits_same {K : PySem.W.Frag} {H : Hp} {R : List (Str × List Str)} (g : GoodR R) {kb : List (Key × V)} (hb : PairsAt K H (R.map pairG) kb) : ∀ {S : List (Str × List Str)} {ka : List (Key × V)}, (∀ r ∈ S, r ∈ R) → PairsAt K H (S.map pairG) ka → Hits K H kb ka true
  | [], _, _, h => by rw [show _ = [] from h]; exact .nil
  | r :: S, _, hs, ⟨v, t, h1, h2, _, _, h5⟩ => by
    rw [h1]
    have hr := hs r List.mem_cons_self
    obtain ⟨y, hy, dy⟩ := hb.val g.nd (List.mem_map.mpr ⟨r, hr, rfl⟩ : ((Sum.inr r.1 : Key), PyData.tuple (r.2.map .str)) ∈ R.map pairG)
    have to : tupOnly (.tuple (r.2.map .str)) = true := tupOnly_strs r.2
    have sh : SeqAt.shaped (.tuple (r.2.map .str)) = true := by
      obtain ⟨l1, l2⟩ := lay_strs r.2 fun l hl => okB_strOk (line_okB (g.line r hr l hl))
      refine shaped_of (show PyData.canLayAll0 (r.2.map .str) = true from l1) ?_
      show PyData.depthAll (r.2.map .str) + 1 ≤ 60
      omega
    have := Hits.hit (K := K) (H := H) (kb := kb) (k := .inr r.1) (v := v) (y := y) (d := .tuple (r.2.map .str)) (e := .tuple (r.2.map .str)) hy (Dw.dt _ _ (dictFree_of _ to) h2) (Dw.dt _ _ (dictFree_of _ to) dy) sh sh (hits_same g hb (fun q hq => hs q (List.mem_cons_of_mem _ hq)) h5)
    rw [eqv_self _ to] at this
    exact this
end An05

set_option Elab.async false
set_option linter.all false
set_option maxRecDepth 100000
set_option maxHeartbeats 4000000
namespace An05
open PySem L2 An
seal L2.PS L2.PSs L2.PE L2.PT L2.PW L2.PA L2.PG L2.PGs L2.PI L2.PFi L2.PC
def spDict (K : PySem.W.Frag) : Sp := fun vs H Q _ => ∃ (a : Addr) (xs : List V) (ps : List (Key × PyData)), vs = [.ref a] ∧ SqL K H a xs ∧ DwAll K H (ps.map rowK) xs ∧ ps.length ≤ 100 ∧ (∀ p ∈ ps, small (keyD p.1) = true ∧ small p.2 = true) ∧
  ∀ d ob kvs H', Same H H' → H' d = some (.frz ob (.dK kvs)) → PairsAt K H' (mergeP ps) kvs → Q (.ref d) H'
def spRowsBy (K : PySem.W.Frag) : Sp := fun vs H Q _ => ∃ (a : Addr) (ns : List Int), vs = [.ref a] ∧ SqL K H a (ns.map V.int) ∧ ns.length ≤ 5 ∧ ∀ p xs R H', Same H H' → H' p = some (.lst xs) → DwAll K H' ((R.map pairG).map rowK) xs → GoodR R → R.length ≤ 5 → Q (.ref p) H'
def spWrong (K : PySem.W.Frag) : Sp := fun vs H Q _ => ∃ (a : Addr) (c : Int) (xs : List V) (R : List (Str × List Str)), vs = [.ref a, .int c] ∧ SqL K H a xs ∧ DwAll K H ((R.map pairG).map rowK) xs ∧ GoodR R ∧ R.length ≤ 5 ∧
  ∀ p xs' q n H', Same H H' → H' p = some (.lst xs') → DwAll K H' (((R.map pairG).take n ++ [q] ++ (R.map pairG).drop n).map rowK) xs' → Wr R q → small (keyD q.1) = true → small q.2 = true → Q (.ref p) H'
theorem row_is {K : PySem.W.Frag} {H : Hp} {k : Key} {d : PyData} {v : V} (h : Dw K H (rowK (k, d)) v) : ∃ t u, v = .ref t ∧ SqT K H t [kV k, u] ∧ Dw K H d u := by
  obtain ⟨t, ys, rfl, ht, x0, r0, rfl, h0, x1, r1, rfl, h1, e⟩ := h
  have e : r1 = [] := e
  subst e
  have e0 : x0 = kV k := by
    cases k with
    | inl i => exact h0
    | inr x => exact h0
  rw [e0] at ht
  exact ⟨t, x1, rfl, ht, h1⟩
section
variable {P : Program} {w : World} {K : PySem.W.Frag} {mg : Str → Option Value} {base : Heap} {t1 t2 t3 t4 : Tok} {aP aF aA b1 b2 b3 b4 b5 b6 b7 b8 : Addr}
namespace h_dict
abbrev st : Stmt := top 39
theorem sc : FnScope ["_law_rows", "_law_found", "_law_path", "_law_lines"] ["_law_rows"] (defScope st) := ⟨rfl, rfl, rfl, by decide +kernel, rfl, by decide +kernel, by decide +kernel⟩
theorem ok {f : Addr} {fd : FuncData} (F : Fun K "_law_dict" "_law_dict" st f fd) (T : Txt K mg t1 t2 t3 t4 aP aF aA b1 b2 b3 b4 b5 b6 b7 b8) : FnOk P w K mg base CX0 1 f fd ["_law_rows"] (spDict K) := by
  refine F.ok sc (fun vs H Q E h => ?_) (fun cdv A outer s H vs Q E hr h => ?_)
  · obtain ⟨a, xs, ps, rfl, _⟩ := h
    rfl
  · obtain ⟨a, xs, ps, rfl, ha, hD, pl, sm, k⟩ := h
    have hu := hu_of hr
    refine ⟨_, (pss_cons (ps_set (i := 1) sc.nd rfl (Or.inl rfl) pe_dnewK)
      (pss_cons (ps_for PassesOwn.never rfl (pi_list (pv 0)) (pg_tup rfl (pgs_cons (pg_name (i := 2) sc.nd rfl (Or.inl rfl)) (pgs_cons (pg_name (i := 3) sc.nd rfl (Or.inl rfl)) pgs_nil)))
        (pss_one (ps_dput hu (pv 1) (pv 2) (pv 3) rfl)))
      (pss_one (ps_ret (pe_frz (pv 1)))))), ?_⟩
    refine fun d nd => ?_
    have xl : xs.length = ps.length := by rw [hD.length, List.length_map]
    have u0 := same_upd (o := .dK []) nd
    refine ⟨_, rfl, a, rfl, ⟨_, u0.seq ha⟩, for_list (K := K) (a := a) (xs := xs) (fun i σ H2 => ∃ kvs o2 o3, σ = [some (.ref a), some (.ref d), o2, o3] ∧ H2 = upd H d (.dK kvs) ∧ PairsAt K H (mergeP (ps.take i)) kvs) ⟨[], none, none, rfl, rfl, rfl⟩ (fun i σ H2 hi ⟨kvs, _, _, _, e2, _⟩ => by rw [e2]; exact (same_upd nd).seq ha) ?_ ?_⟩
    · rintro i x σ H2 hx ⟨kvs, o2, o3, rfl, rfl, hp⟩
      obtain ⟨e, he, hv⟩ := hD.get hx
      rw [List.getElem?_map] at he
      cases q : ps[i]? with
      | none => rw [q] at he; cases he
      | some p =>
        rw [q] at he
        have he : rowK p = e := Option.some.inj he
        subst he
        obtain ⟨pk, pd⟩ := p
        obtain ⟨t, u, rfl, ht, hd⟩ := row_is hv
        obtain ⟨s1, s2⟩ := sm _ (List.mem_of_getElem? q)
        have kl : kvs.length < 1000 := by
          have h1 := merge_len (ps.take i)
          have h2 := hp.length
          rw [List.length_take] at h1
          omega
        refine ⟨t, _, rfl, (same_upd nd).tupS ht, rfl, _, _, rfl, _, _, rfl, rfl, ?_⟩
        refine ⟨_, rfl, _, rfl, _, rfl, d, _, rfl, DPut.k (k := pk) upd_same (small1000 (by omega)), putK kvs pk u, _, _, rfl, upd_upd, ?_⟩
        rw [merge_take q]
        exact hp.put hd s1 s2
    · rintro σ H2 ⟨kvs, o2, o3, rfl, rfl, hp⟩
      rw [xl, List.take_length] at hp
      refine ⟨_, rfl, d, kvs, rfl, upd_same, fun ob => ?_⟩
      rw [upd_upd]
      have u := same_upd (o := .frz ob (.dK kvs)) nd
      exact k d ob kvs _ u upd_same (hp.same u)
end h_dict
namespace h_rows
abbrev st : Stmt := top 37
theorem sc : FnScope ["_law_cells", "_law_rows", "_law_cell", "_law_path", "_law_clash", "_law_row"] ["_law_cells"] (defScope st) := ⟨rfl, rfl, rfl, by decide +kernel, rfl, by decide +kernel, by decide +kernel⟩
theorem ok {f : Addr} {fd : FuncData} (F : Fun K "_law_rows_by" "_law_rows_by" st f fd) (T : Txt K mg t1 t2 t3 t4 aP aF aA b1 b2 b3 b4 b5 b6 b7 b8) (C__law_label_by : Cal P w K mg base 1 "_law_label_by" ["_law_cell"] spLabelBy) (C__law_line_by : Cal P w K mg base 1 "_law_line_by" ["_law_cell"] spLineBy) : FnOk P w K mg base CX0 2 f fd ["_law_cells"] (spRowsBy K) := by
  refine F.ok sc (fun vs H Q E h => ?_) (fun cdv A outer s H vs Q E hr h => ?_)
  · obtain ⟨a, ns, rfl, _⟩ := h
    rfl
  · obtain ⟨a, ns, rfl, ha, nl, k⟩ := h
    refine ⟨_, (pss_cons (ps_set (i := 1) sc.nd rfl (Or.inl rfl) (pe_lst pa_nil))
      (pss_cons (ps_for PassesOwn.never rfl (pi_list (pv 0)) (pg_name (i := 2) sc.nd rfl (Or.inr rfl))
        (pss_cons (ps_set (i := 3) sc.nd rfl (Or.inl rfl) (pe_bm PySem.F.plainAttrs_str PySem.F.slot_str_join PySem.F.type_str_join mt_join pe_str (pa_cons (pe_comp (sc := defScope st) (N := ["_law_cells", "_law_rows", "_law_cell", "_law_path", "_law_clash", "_law_row"]) (N' := ["_law_k", "_law_cell"]) (src := [none, some 2]) ⟨by decide +kernel, rfl, rfl, by decide +kernel, by decide +kernel, by decide +kernel, by decide +kernel⟩ rfl rfl rfl (pi_range1 rfl T.range (pa_cons (pe_op op_add pe_int (pe_op op_mod (pv 2) pe_int)) pa_nil)) (fun _ _ _ _ => (pg_name (i := 0) (show (["_law_k", "_law_cell"] : List Str).Nodup by decide +kernel) rfl (Or.inl rfl))) (fun _ _ _ _ => pf_nil) (fun _ _ _ _ => (pe_callC C__law_label_by (hr.mono (by decide)) (pa_cons (pe_op op_add (pe_op op_fdiv (pv 1) pe_int) (pe_op op_mul pe_int (pv 0))) pa_nil)))) pa_nil)))
        (pss_cons (ps_set (i := 4) sc.nd rfl (Or.inl rfl) pe_bl)
        (pss_cons (ps_for PassesOwn.never rfl (pi_list (pv 1)) (pg_name (i := 5) sc.nd rfl (Or.inl rfl))
          (pss_cons (ps_set (i := 4) sc.nd rfl (Or.inl rfl) (pe_or (pv 4) (pe_or (pe_cmpR op_eq (pe_ix (ix_tup : IxR _ (rIxT K)) (pv 5) pe_int (fun _ _ => rfl)) (pv 3) (nomark _)) (pe_one (pe_bm PySem.F.plainAttrs_str PySem.F.slot_str_startswith PySem.F.type_str_startswith mt_startswith (pe_ix (ix_tup : IxR _ (rIxT K)) (pv 5) pe_int (fun _ _ => rfl)) (pa_cons (pe_op op_add_str (pv 3) pe_str) pa_nil))))))
          (pss_one (ps_set (i := 4) sc.nd rfl (Or.inl rfl) (pe_or (pv 4) (pe_one (pe_bm PySem.F.plainAttrs_str PySem.F.slot_str_startswith PySem.F.type_str_startswith mt_startswith (pv 3) (pa_cons (pe_op op_add_str (pe_ix (ix_tup : IxR _ (rIxT K)) (pv 5) pe_int (fun _ _ => rfl)) pe_str) pa_nil))))))))
        (pss_one (ps_if (pt_not (pt_truthK (K := K) (pv 4) (fun _ => rfl)))
          (pss_one (ps_expr (pe_bm PySem.F.plainAttrs_list PySem.F.slot_list_append PySem.F.type_list_append mt_append (pv 1) (pa_cons (pe_tup (pa_cons (pv 3) (pa_cons (pe_callTy call_tuple_of (by rfl) T.tuple PyProof.Rows.boot_tuple (pa_cons (pe_comp (sc := defScope st) (N := ["_law_cells", "_law_rows", "_law_cell", "_law_path", "_law_clash", "_law_row"]) (N' := ["_law_k", "_law_cell"]) (src := [none, some 2]) ⟨by decide +kernel, rfl, rfl, by decide +kernel, by decide +kernel, by decide +kernel, by decide +kernel⟩ rfl rfl rfl (pi_range1 rfl T.range (pa_cons (pe_op op_mod (pe_op op_fdiv (pv 2) pe_int) pe_int) pa_nil)) (fun _ _ _ _ => (pg_name (i := 0) (show (["_law_k", "_law_cell"] : List Str).Nodup by decide +kernel) rfl (Or.inl rfl))) (fun _ _ _ _ => pf_nil) (fun _ _ _ _ => (pe_callC C__law_line_by (hr.mono (by decide)) (pa_cons (pe_op op_add (pv 1) (pe_op op_mul pe_int (pv 0))) pa_nil)))) pa_nil)) pa_nil))) pa_nil))))
          pss_nil))))))
      (pss_one (ps_ret (pv 1))))), ?_⟩
    have e1 : ("/" : Str).length = 1 := by decide +kernel
    refine ⟨lineN 0, fun l0 n0 => ?_⟩
    have u0 := same_upd (o := .lst []) n0
    refine ⟨_, rfl, a, rfl, ⟨_, u0.seq ha⟩, for_list (K := K) (a := a) (xs := ns.map V.int) (fun i σ H2 => ∃ (xs : List V) (R : List (Str × List Str)) (o2 o3 o4 o5 : Option V), σ = [some (.ref a), some (.ref l0), o2, o3, o4, o5] ∧ Same H H2 ∧ H2 l0 = some (.lst xs) ∧ DwAll K H2 ((R.map pairG).map rowK) xs ∧ GoodR R ∧ R.length ≤ i)
      ⟨[], [], none, none, none, none, rfl, u0, upd_same, rfl, GoodR.nil, Nat.le_refl _⟩ (fun i σ H2 hi ⟨_, _, _, _, _, _, _, e2, _⟩ => e2.seq ha) ?_ ?_⟩
    · rintro i x σ H2 hx ⟨xs, R, o2, o3, o4, o5, rfl, e2, hl0, hD, gR, Rl⟩
      rw [List.getElem?_map] at hx
      cases q : ns[i]? with
      | none => rw [q] at hx; cases hx
      | some n =>
        rw [q] at hx
        have hx : V.int n = x := Option.some.inj hx
        subst hx
        have il : i < 5 := by have := (List.getElem?_eq_some_iff.mp q).1; omega
        have b4 : 0 ≤ n % 4 ∧ n % 4 < 4 := by omega
        refine ⟨rfl, _, rfl, _, _, rfl, rfl, (by show (0 : Int) < 4; decide), _, _, rfl, rfl, _, rfl, by omega, by omega, comp_range0 (fun j ys σ H3 => ∃ (o : Option V) (ls : List Str), σ = [o, some (.int n)] ∧ Same H2 H3 ∧ ys = ls.map V.str ∧ ls.length = j ∧ (∀ y ∈ ls, labelB y = true) ∧ ∀ y ∈ ls, y ≠ "zyx") ⟨none, [], rfl, Same.refl _, rfl, rfl, (fun y hy => nomatch hy), fun y hy => nomatch hy⟩ (le_line (by omega))
          (fun j ys σ H3 hj ⟨_, ls, _, _, ey, el, _⟩ => by rw [ey, List.length_map, el]; exact Nat.le_refl _) ?_ ?_⟩
        · rintro j ys σ H3 hj ⟨o, ls, rfl, e3, rfl, rfl, al, az⟩
          refine ⟨_, rfl, _, _, rfl, rfl, ⟨by decide, by decide⟩, _, rfl, _, _, rfl, rfl, .inl ⟨by decide, by decide⟩, _, _, rfl, rfl, _, rfl, fun y H4 hy nz s4 => ⟨_, ls ++ [y], rfl, e3.trans s4, ?_, by simp, mem_snoc al hy, mem_snoc az nz⟩⟩
          rw [List.map_append]; rfl
        rintro ys σ H3 ⟨o, ls, rfl, e3, rfl, el, al, az⟩ p np
        have l1 : 1 ≤ ls.length := by omega
        have l4 : ls.length ≤ 4 := by omega
        have al8 : ∀ y ∈ ls, y.length ≤ 8 := fun y hy => (label_parts.mp (al y hy)).2.1
        refine ⟨"/", p, ls, rfl, rfl, .inl (SqL.of upd_same), ?_, ?_⟩
        · have := sum_le (n := 8) ls al8
          rw [e1]
          exact le_line (by omega)
        have hls : ls ≠ [] := fun z => by rw [z] at l1; cases l1
        have ph := path_join hls l4 al
        have pn := join_nz az
        have pl : (PySem.Txt.join "/" ls).length ≤ 40 := by have := join_len al8; omega
        have po := join_okB fun y hy => label_okB (al y hy)
        generalize PySem.Txt.join "/" ls = path at ph pn pl po
        have s4 := e3.trans (same_upd (o := .lst (ls.map V.str)) np)
        have hl4 := s4 _ _ hl0
        have hD4 := DwAll.same s4 _ _ hD
        have e4 := e2.trans s4
        generalize upd H3 p (.lst (ls.map V.str)) = H4 at s4 hl4 hD4 e4
        have xl : xs.length = R.length := by rw [hD4.length, List.length_map, List.length_map]
        refine ⟨_, rfl, l0, rfl, ⟨_, SqL.of hl4⟩, for_list (K := K) (a := l0) (xs := xs) (fun j σ H5 => ∃ o, σ = [some (.ref a), some (.ref l0), some (.int n), some (.str path), some (.bl ((R.take j).any (hitB path))), o] ∧ H5 = H4) ⟨o5, rfl, rfl⟩ (fun j σ H5 hj ⟨_, _, e5⟩ => by rw [e5]; exact SqL.of hl4) ?_ ?_⟩
        · rintro j v σ H5 hv ⟨o, rfl, rfl⟩
          obtain ⟨e, he, hw⟩ := hD4.get hv
          rw [List.getElem?_map, List.getElem?_map] at he
          cases q2 : R[j]? with
          | none => rw [q2] at he; cases he
          | some r =>
            rw [q2] at he
            have he : rowK (pairG r) = e := Option.some.inj he
            subst he
            obtain ⟨t, u, rfl, ht, hd⟩ := row_is hw
            have rl := gR.len r (List.mem_of_getElem? q2)
            have et : (R.take (j + 1)).any (hitB path) = ((R.take j).any (hitB path) || hitB path r) := by
              rw [List.take_add_one, q2, List.any_append]
              show (_ || (hitB path r || false)) = _
              rw [Bool.or_false]
            rw [et]
            generalize (R.take j).any (hitB path) = b
            cases b with
            | true => exact ⟨_, rfl, true, rfl, iteT ⟨_, rfl, true, rfl, iteT ⟨_, rfl, rfl⟩⟩⟩
            | false =>
              rw [Bool.false_or]
              refine ⟨_, rfl, false, rfl, iteF ⟨_, rfl, t, _, _, _, rfl, rfl, ht, rfl, _, rfl, rfl, _, rfl, ite2 (fun h1 => ?_) (fun h1 => ?_)⟩⟩
              · have h1 : r.1 = path := by have := of_decide_eq_true h1; injection this
                have eh : hitB path r = true := by unfold hitB; rw [decide_eq_true h1]; rfl
                rw [eh]
                exact ⟨_, rfl, true, rfl, iteT ⟨_, rfl, rfl⟩⟩
              · have h1 : ¬ r.1 = path := fun z => h1 (decide_eq_true (by rw [← z]; rfl))
                refine ⟨_, rfl, t, _, _, _, rfl, rfl, ht, rfl, rfl, _, rfl, _, _, rfl, rfl, le_line (by rw [e1]; omega), _, _, rfl, rfl, ?_⟩
                have eh : hitB path r = (overB path r.1 || overB r.1 path) := by unfold hitB; rw [decide_eq_false h1]; rfl
                rw [eh]
                refine ⟨_, rfl, overB path r.1, rfl, ?_⟩
                cases overB path r.1 with
                | true => exact iteT ⟨_, rfl, rfl⟩
                | false => exact iteF ⟨_, rfl, rfl, _, rfl, t, _, _, _, rfl, rfl, ht, rfl, _, _, rfl, rfl, le_line (by rw [e1]; omega), _, _, rfl, rfl, _, rfl, rfl⟩
        · rintro σ H5 ⟨o, rfl, rfl⟩
          rw [xl, List.take_length]
          refine ⟨_, rfl, _, rfl, ?_⟩
          cases hb : R.any (hitB path) with
          | true => exact iteF ⟨xs, R, _, _, _, _, rfl, e4, hl4, hD4, gR, by omega⟩
          | false =>
            refine iteT ⟨_, rfl, .inl ⟨rfl, _, SqL.of hl4⟩, _, rfl, ?_⟩
            have b3 : 0 ≤ n / 4 % 3 ∧ n / 4 % 3 < 3 := by omega
            refine ⟨_, rfl, _, _, rfl, rfl, ⟨by decide, by decide⟩, _, _, rfl, rfl, (by show (0 : Int) < 3; decide), _, rfl, by omega, by omega, comp_range0 (fun j ys σ H6 => ∃ (o : Option V) (ls : List Str), σ = [o, some (.int n)] ∧ Same H5 H6 ∧ ys = ls.map V.str ∧ ls.length = j ∧ ∀ y ∈ ls, lineB y = true) ⟨none, [], rfl, Same.refl _, rfl, rfl, fun y hy => nomatch hy⟩ (le_line (by omega))
              (fun j ys σ H6 hj ⟨_, ls, _, _, ey, el, _⟩ => by rw [ey, List.length_map, el]; exact Nat.le_refl _) ?_ ?_⟩
            · rintro j ys σ H6 hj ⟨o, ls, rfl, e6, rfl, rfl, al⟩
              refine ⟨_, rfl, _, rfl, _, _, rfl, rfl, .inl ⟨by decide, by decide⟩, _, _, rfl, rfl, _, rfl, fun y H7 hy s7 => ⟨_, ls ++ [y], rfl, e6.trans s7, ?_, by simp, mem_snoc al hy⟩⟩
              rw [List.map_append]; rfl
            rintro ys σ H6 ⟨o, ls2, rfl, e6, rfl, el2, al2⟩ p2 np2
            refine ⟨p2, _, rfl, .inl ⟨SqL.of upd_same, fun t2 nt2 => ⟨lineN 2, fun t3 nt3 => ?_⟩⟩⟩
            have s7 := (e6.trans (same_upd (o := .lst (ls2.map V.str)) np2)).trans (same_upd (o := .tup (ls2.map V.str)) nt2)
            have s8 := s7.trans (same_upd (o := .tup [V.str path, V.ref t2]) nt3)
            have ht2 : upd (upd H6 p2 (.lst (ls2.map V.str))) t2 (.tup (ls2.map V.str)) t2 = some (.tup (ls2.map V.str)) := upd_same
            have ht2' := (same_upd (o := .tup [V.str path, V.ref t2]) nt3) _ _ ht2
            have hl8 := s8 _ _ hl4
            have ts : TSame _ (upd (upd (upd (upd H6 p2 (.lst (ls2.map V.str))) t2 (.tup (ls2.map V.str))) t3 (.tup [V.str path, V.ref t2])) l0 (.lst (xs ++ [V.ref t3]))) := TSame.upd hl8
            refine ⟨l0, xs, _, rfl, rfl, hl8, lt_line (by omega), xs ++ [V.ref t3], R ++ [(path, ls2)], _, _, _, _, rfl, An.Same.updF (e4.trans s8) n0, upd_same, ?_, ?_, ?_⟩
            · rw [List.map_append, List.map_append]
              refine DwAll.append (DwAll.tsame ts _ _ (only_rows R) (DwAll.same s8 _ _ hD4)) ⟨V.ref t3, [], rfl, ?_, rfl⟩
              refine Dw.tsame ts _ _ (show (true && (tupOnlyAll (ls2.map .str) && true)) = true by rw [tupOnly_strs]; rfl) ?_
              exact ⟨t3, _, rfl, SqT.of upd_same, _, _, rfl, rfl, _, _, rfl, ⟨t2, _, rfl, SqT.of ht2', (DtAll.strs ls2).dw⟩, rfl⟩
            · refine gR.snoc ph pn pl po al2 (by show ls2.length ≤ 2; omega) fun r hr => ?_
              have := List.any_eq_false.mp hb r hr
              exact hit_false (Bool.eq_false_iff.mpr this)
            · rw [List.length_append, List.length_singleton]; omega
    · rintro σ H2 ⟨xs, R, o2, o3, o4, o5, rfl, e2, hl0, hD, gR, Rl⟩
      rw [List.length_map] at Rl
      exact ⟨_, rfl, k l0 xs R H2 e2 hl0 hD gR (by omega)⟩
end h_rows
theorem DwAll.take {K : PySem.W.Frag} {H : Hp} : ∀ (n : Nat) {ds : List PyData} {xs : List V}, DwAll K H ds xs → DwAll K H (ds.take n) (xs.take n)
  | 0, _, _, _ => rfl
  | n + 1, [], _, h => by rw [show _ = [] from h]; exact rfl
  | n + 1, d :: ds, _, ⟨x, r, h1, h2, h3⟩ => by rw [h1]; exact ⟨x, r.take n, rfl, h2, DwAll.take n h3⟩
theorem mulb {m : Int} (h1 : 1 ≤ m) (h4 : m ≤ 4) : MulOk "/b" m ∧ (∃ t, cs (PySem.Txt.mul "/b" m) = 47 :: t) ∧ (PySem.Txt.mul "/b" m).length ≤ 8 := by
  have : m = 1 ∨ m = 2 ∨ m = 3 ∨ m = 4 := by omega
  rcases this with rfl | rfl | rfl | rfl
  · exact ⟨⟨by decide, fun _ _ => by decide +kernel, fun _ _ => by decide +kernel⟩, ⟨[98], by decide +kernel⟩, by decide +kernel⟩
  · exact ⟨⟨by decide, fun _ _ => by decide +kernel, fun _ _ => by decide +kernel⟩, ⟨[98, 47, 98], by decide +kernel⟩, by decide +kernel⟩
  · exact ⟨⟨by decide, fun _ _ => by decide +kernel, fun _ _ => by decide +kernel⟩, ⟨[98, 47, 98, 47, 98], by decide +kernel⟩, by decide +kernel⟩
  · exact ⟨⟨by decide, fun _ _ => by decide +kernel, fun _ _ => by decide +kernel⟩, ⟨[98, 47, 98, 47, 98, 47, 98], by decide +kernel⟩, by decide +kernel⟩
namespace h_wrong
abbrev st : Stmt := top 38
theorem sc : FnScope ["_law_rows", "_law_cell", "_law_odd", "_law_row", "_law_near", "_law_labels", "_law_at"] ["_law_rows", "_law_cell"] (defScope st) := ⟨rfl, rfl, rfl, by decide +kernel, rfl, by decide +kernel, by decide +kernel⟩
theorem ok {f : Addr} {fd : FuncData} (F : Fun K "_law_wrong_by" "_law_wrong_by" st f fd) (T : Txt K mg t1 t2 t3 t4 aP aF aA b1 b2 b3 b4 b5 b6 b7 b8) : FnOk P w K mg base CX0 1 f fd ["_law_rows", "_law_cell"] (spWrong K) := by
  refine F.ok sc (fun vs H Q E h => ?_) (fun cdv A outer s H vs Q E hr h => ?_)
  · obtain ⟨a, c, xs, R, rfl, _⟩ := h
    rfl
  · obtain ⟨a, c, xs, R, rfl, ha, hD, gR, Rl, k⟩ := h
    refine ⟨_, (pss_cons (ps_set (i := 2) sc.nd rfl (Or.inl rfl) (pe_lst (pd_cons (pd_tup (pd_cons pd_str (pd_cons (pd_tup pd_nil) pd_nil))) (pd_cons (pd_tup (pd_cons pd_str (pd_cons (pd_tup pd_nil) pd_nil))) (pd_cons (pd_tup (pd_cons pd_str (pd_cons (pd_tup pd_nil) pd_nil))) (pd_cons (pd_tup (pd_cons pd_int (pd_cons (pd_tup pd_nil) pd_nil))) (pd_cons (pd_tup (pd_cons pd_str (pd_cons (pd_tup pd_nil) pd_nil))) (pd_cons (pd_tup (pd_cons pd_str (pd_cons (pd_lst (pd_cons pd_str pd_nil)) pd_nil))) (pd_cons (pd_tup (pd_cons pd_str (pd_cons (pd_tup (pd_cons pd_str (pd_cons (pd_mulS mulx_ok mulx21) pd_nil))) pd_nil))) pd_nil)))))))))
      (pss_cons (ps_set (i := 2) sc.nd rfl (Or.inl rfl) (pe_op op_cat (pv 2) (pe_lst (pd_cons (pd_tup (pd_cons pd_str (pd_cons pd_str pd_nil))) (pd_cons (pd_tup (pd_cons pd_str (pd_cons (pd_tup (pd_cons pd_non pd_nil)) pd_nil))) pd_nil)))))
      (pss_cons (ps_set (i := 3) sc.nd rfl (Or.inl rfl) (pe_ix (ix_list : IxR _ (rIxL K)) (pv 2) (pe_op op_mod (pv 1) pe_int) (fun _ _ => rfl)))
      (pss_cut (ps_if (PW.pt (pw_and (pt_cmpR op_eq (pe_op op_mod (pe_op op_fdiv (pv 1) pe_int) pe_int) pe_int (nomark _)) (pw_and1 (pt_cmpR op_gt (pe_callB call_len_seq (by rfl) T.len PySem.boot_len (pa_cons (pv 0) pa_nil)) pe_int (nomark _)))))
        (pss_cons (ps_set (i := 4) sc.nd rfl (Or.inl rfl) (pe_ix (ix_tup : IxR _ (rIxT K)) (pe_ix (ix_list : IxR _ (rIxL K)) (pv 0) (pe_op op_mod (pe_op op_fdiv (pv 1) pe_int) (pe_callB call_len_seq (by rfl) T.len PySem.boot_len (pa_cons (pv 0) pa_nil))) (fun _ _ => rfl)) pe_int (fun _ _ => rfl)))
        (pss_cons (ps_set (i := 5) sc.nd rfl (Or.inl rfl) (pe_bm PySem.F.plainAttrs_str PySem.F.slot_str_split PySem.F.type_str_split mt_split (pv 4) (pa_cons pe_str pa_nil)))
        (pss_cons (ps_set (i := 3) sc.nd rfl (Or.inl rfl) (pe_tup (pa_cons (pe_op op_add_str (pv 4) (pe_op op_mulS pe_str (pe_op op_add pe_int (pe_op op_mod (pe_op op_fdiv (pv 1) pe_int) (pe_callB (call_max2 rfl) (by rfl) T.max PyProof.Rows.boot_max (pa_cons pe_int (pa_cons (pe_op op_sub pe_int (pe_callB call_len_seq (by rfl) T.len PySem.boot_len (pa_cons (pv 5) pa_nil))) pa_nil))))))) (pa_cons (pe_tup (pa_cons pe_str pa_nil)) pa_nil))))
        (pss_one (ps_if (PW.pt (pw_or (pt_cmpR op_eq (pe_callB call_len_seq (by rfl) T.len PySem.boot_len (pa_cons (pv 5) pa_nil)) pe_int (nomark _)) (pw_or1 (PW.pt (pw_and (pt_cmpR op_gt (pe_callB call_len_seq (by rfl) T.len PySem.boot_len (pa_cons (pv 5) pa_nil)) pe_int (nomark _)) (pw_and1 (pt_cmpR op_eq (pe_op op_mod (pe_op op_fdiv (pv 1) pe_int) pe_int) pe_int (nomark _))))))))
          (pss_one (ps_set (i := 3) sc.nd rfl (Or.inl rfl) (pe_tup (pa_cons (pe_bm PySem.F.plainAttrs_str PySem.F.slot_str_join PySem.F.type_str_join mt_join pe_str (pa_cons (pe_slice (sl_list : SlR _ (rSlL K)) (pv 5) po_none (po_some (pe_op op_add pe_int (pe_op op_mod (pe_op op_fdiv (pv 1) pe_int) (pe_op op_sub (pe_callB call_len_seq (by rfl) T.len PySem.boot_len (pa_cons (pv 5) pa_nil)) pe_int))))) pa_nil)) (pa_cons (pe_tup pa_nil) pa_nil)))))
          pss_nil)))))
        pss_nil)
      (pss_cons (ps_set (i := 6) sc.nd rfl (Or.inl rfl) (pe_op op_mod (pe_op op_fdiv (pv 1) pe_int) (pe_op op_add (pe_callB call_len_seq (by rfl) T.len PySem.boot_len (pa_cons (pv 0) pa_nil)) pe_int)))
      (pss_one (ps_ret (pe_op op_cat (pe_op op_cat (pe_slice (sl_list : SlR _ (rSlL K)) (pv 0) po_none (po_some (pv 6))) (pe_lst (pa_cons (pv 3) pa_nil))) (pe_slice (sl_list : SlR _ (rSlL K)) (pv 0) (po_some (pv 6)) po_none))))))))), ?_⟩
    have e1 : ("/" : Str).length = 1 := by decide +kernel
    have xl : xs.length = R.length := by rw [hD.length, List.length_map, List.length_map]
    refine ⟨fun _ => .none, EnvD.sub EnvD.nil, fun v1 H1 s1 d1 => ⟨le_line (by rw [d1.length]; show 7 ≤ 16777216; decide), fun l1 n1 => ?_⟩⟩
    have d1 : DwAll K H1 ((oddP.take 7).map rowK) v1 := d1
    have u1 := same_upd (o := .lst v1) n1
    refine ⟨_, rfl, fun _ => .none, EnvD.sub EnvD.nil, fun v2 H2 s2 d2 => ⟨le_line (by rw [d2.length]; show 2 ≤ 16777216; decide), fun l2 n2 => ?_⟩⟩
    have d2 : DwAll K H2 ((oddP.drop 7).map rowK) v2 := d2
    have u2 := same_upd (o := .lst v2) n2
    have lv1 : v1.length = 7 := d1.length
    have lv2 : v2.length = 2 := d2.length
    refine ⟨l1, l2, v1, v2, rfl, rfl, (s2.trans u2) _ _ upd_same, upd_same, le_line (by omega), fun l3 n3 => ?_⟩
    have u3 := same_upd (o := .lst (v1 ++ v2)) n3
    have t3 := (((s1.trans u1).trans s2).trans u2).trans u3
    have D3 : DwAll K (upd (upd H2 l2 (.lst v2)) l3 (.lst (v1 ++ v2))) (oddP.map rowK) (v1 ++ v2) := L2.DwAll.append (DwAll.same (((u1.trans s2).trans u2).trans u3) _ _ d1) (DwAll.same (u2.trans u3) _ _ d2)
    have h3 : SqL K (upd (upd H2 l2 (.lst v2)) l3 (.lst (v1 ++ v2))) l3 (v1 ++ v2) := SqL.of upd_same
    show tSeq _ _ _ _ (upd (upd H2 l2 (.lst v2)) l3 (.lst (v1 ++ v2)))
    generalize upd (upd H2 l2 (.lst v2)) l3 (.lst (v1 ++ v2)) = H3 at t3 D3 h3
    obtain ⟨j, hj, jl⟩ : ∃ j : Nat, c % 9 = j ∧ j < 9 := ⟨(c % 9).toNat, by omega, by omega⟩
    have l9 : (v1 ++ v2).length = 9 := by rw [List.length_append]; omega
    have hx : (v1 ++ v2)[j]? = some ((v1 ++ v2)[j]'(by rw [l9]; exact jl)) := List.getElem?_eq_getElem _
    generalize (v1 ++ v2)[j]'(by rw [l9]; exact jl) = v0 at hx
    obtain ⟨e0, he0, dv0⟩ := D3.get hx
    rw [List.getElem?_map] at he0
    obtain ⟨q0, hq0, eq0⟩ : ∃ q, oddP[j]? = some q ∧ rowK q = e0 := by
      cases z : oddP[j]? with
      | none => rw [z] at he0; cases he0
      | some q => rw [z] at he0; exact ⟨q, rfl, Option.some.inj he0⟩
    subst eq0
    obtain ⟨wr0, sk0, sd0⟩ := odd_wr gR (List.mem_of_getElem? hq0)
    refine ⟨_, rfl, _, rfl, _, _, rfl, rfl, (by show (0 : Int) < 9; decide), l3, _, _, v0, rfl, rfl, h3, atI_of hj hx, ?_⟩
    refine ⟨fun σ' H' => ∃ (v : V) (q : Key × PyData) (o4 o5 : Option V), σ' = [some (.ref a), some (.int c), some (.ref l3), some v, o4, o5, none] ∧ Same H H' ∧ Dw K H' (rowK q) v ∧ Wr R q ∧ small (keyD q.1) = true ∧ small q.2 = true, ?_, ?_⟩
    · have ha3 := t3.seq ha
      refine ⟨_, rfl, _, _, rfl, rfl, ⟨by decide, by decide⟩, _, _, rfl, rfl, (by show (0 : Int) < 2; decide), rfl, _, rfl, ite2 (fun _ => ?g1) (fun _ => ?g2)⟩
      case g2 => exact iteF (A := False) ⟨v0, q0, _, _, rfl, t3, dv0, wr0, sk0, sd0⟩
      refine ⟨_, rfl, a, _, rfl, .inl ha3, _, _, rfl, rfl, _, rfl, ite2 (fun hp => ?g3) (fun _ => ?g4)⟩
      case g4 => exact iteF (A := False) ⟨v0, q0, _, _, rfl, t3, dv0, wr0, sk0, sd0⟩
      refine iteT (B := False) ?_
      have hp : 0 < xs.length := by have := of_decide_eq_true hp; omega
      have DR := DwAll.same t3 _ _ hD
      obtain ⟨n, hn, nl⟩ : ∃ n : Nat, c / 18 % (xs.length : Int) = n ∧ n < xs.length := ⟨(c / 18 % (xs.length : Int)).toNat, (Int.toNat_of_nonneg (Int.emod_nonneg _ (by omega))).symm, by
        have z1 : 0 ≤ c / 18 % (xs.length : Int) := Int.emod_nonneg _ (by omega)
        have z2 : c / 18 % (xs.length : Int) < xs.length := Int.emod_lt_of_pos _ (by omega)
        omega⟩
      have hv : xs[n]? = some (xs[n]'nl) := List.getElem?_eq_getElem _
      obtain ⟨e, he, dv⟩ := DR.get hv
      rw [List.getElem?_map, List.getElem?_map] at he
      obtain ⟨r, hr, er⟩ : ∃ r, R[n]? = some r ∧ rowK (pairG r) = e := by
        cases z : R[n]? with
        | none => rw [z] at he; cases he
        | some r => rw [z] at he; exact ⟨r, rfl, Option.some.inj he⟩
      subst er
      obtain ⟨t, u, ev, ht, hd⟩ := row_is dv
      have rm := List.mem_of_getElem? hr
      have rl := gR.len r rm
      refine ⟨_, rfl, _, rfl, _, _, rfl, rfl, ⟨by decide, by decide⟩, _, rfl, a, _, rfl, .inl ha3, _, _, rfl, rfl, (by show (0 : Int) < (xs.length : Int); omega), a, xs, _, _, rfl, rfl, ha3, atI_of hn hv, ?_⟩
      rw [ev]
      refine ⟨t, _, _, _, rfl, rfl, ht, rfl, ?_⟩
      refine ⟨_, rfl, rfl, r.1, 47, rfl, sl47, by omega, fun l4 n4 => ?_⟩
      rw [labs47]
      have u4 := same_upd (o := .lst ((labs r.1).map V.str)) n4
      have h4 : SqL K (upd H3 l4 (.lst ((labs r.1).map V.str))) l4 ((labs r.1).map V.str) := SqL.of upd_same
      have t4 := t3.trans u4
      show tSeq _ _ _ _ (upd H3 l4 (.lst ((labs r.1).map V.str)))
      generalize upd H3 l4 (.lst ((labs r.1).map V.str)) = H4 at u4 h4 t4
      have lp := labs_pos r.1
      have lm : ((labs r.1).map V.str).length = (labs r.1).length := List.length_map _
      have l4le : (labs r.1).length ≤ 4 := by
        have := gR.path r rm
        unfold pathB at this
        rw [Bool.and_eq_true] at this
        exact of_decide_eq_true this.1
      obtain ⟨mx, hmx, m1, m4⟩ : ∃ mx : Int, (if 4 - (((labs r.1).map V.str).length : Int) > 1 then 4 - (((labs r.1).map V.str).length : Int) else 1) = mx ∧ 1 ≤ mx ∧ mx ≤ 3 := ⟨_, rfl, by split <;> omega, by split <;> omega⟩
      refine ⟨_, rfl, _, rfl, _, _, rfl, rfl, ⟨by decide, by decide⟩, _, rfl, l4, _, rfl, .inl h4, _, _, rfl, rfl, _, _, rfl, ?_⟩
      rw [hmx]
      have z1 : 0 ≤ c / 36 % mx := Int.emod_nonneg _ (by omega)
      have z2 : c / 36 % mx < mx := Int.emod_lt_of_pos _ (by omega)
      obtain ⟨mk, ⟨tl, mt⟩, ml⟩ := mulb (m := 1 + c / 36 % mx) (by omega) (by omega)
      refine ⟨_, _, rfl, rfl, (by show 0 < mx; omega), _, _, rfl, rfl, _, _, rfl, rfl, mk, _, _, rfl, rfl, le_line (by omega), lineN 1, fun t5 n5 => ⟨lineN 2, fun t6 n6 => ?_⟩⟩
      have u5 := same_upd (o := .tup [V.str "x"]) n5
      have u6 := same_upd (o := .tup [V.str (r.1 ++ PySem.Txt.mul "/b" (1 + c / 36 % mx)), V.ref t5]) n6
      have t6' := (t4.trans u5).trans u6
      have h46 := (u5.trans u6).seq h4
      have w6 : Dw K (upd (upd H4 t5 (.tup [V.str "x"])) t6 (.tup [V.str (r.1 ++ PySem.Txt.mul "/b" (1 + c / 36 % mx)), V.ref t5])) (rowK (.inr (r.1 ++ PySem.Txt.mul "/b" (1 + c / 36 % mx)), .tuple [.str "x"])) (.ref t6) :=
        ⟨t6, _, rfl, SqT.of upd_same, _, _, rfl, rfl, _, _, rfl, ⟨t5, _, rfl, SqT.of (u6 _ _ upd_same), _, _, rfl, rfl, rfl⟩, rfl⟩
      have wr6 : Wr R (.inr (r.1 ++ PySem.Txt.mul "/b" (1 + c / 36 % mx)), .tuple [.str "x"]) := .inr (.inr ⟨r, rm, _, rfl, .inl (over_cs.mpr ⟨tl, by rw [cs_append, mt]⟩)⟩)
      have sk6 : small (keyD (Sum.inr (r.1 ++ PySem.Txt.mul "/b" (1 + c / 36 % mx)))) = true := decide_eq_true (by rw [len_append]; omega)
      have sd6 : small (.tuple [.str "x"]) = true := by decide +kernel
      generalize upd (upd H4 t5 (.tup [V.str "x"])) t6 (.tup [V.str (r.1 ++ PySem.Txt.mul "/b" (1 + c / 36 % mx)), V.ref t5]) = H6 at t6' h46 w6
      refine ⟨_, rfl, l4, _, rfl, .inl h46, rfl, _, rfl, ite2 (fun hl => iteT (B := False) ?b1) (fun _ => ⟨_, rfl, l4, _, rfl, .inl h46, _, _, rfl, rfl, _, rfl, ite2 (fun hl => ⟨_, rfl, _, _, rfl, rfl, ⟨by decide, by decide⟩, _, _, rfl, rfl, (by show (0 : Int) < 2; decide), rfl, _, rfl, ite2 (fun _ => iteT (B := False) ?b2) (fun _ => iteF (A := False) ⟨_, _, _, _, rfl, t6', w6, wr6, sk6, sd6⟩)⟩) (fun _ => iteF (A := False) ⟨_, _, _, _, rfl, t6', w6, wr6, sk6, sd6⟩)⟩)⟩
      case b1 | b2 =>
        have l2 : 2 ≤ (labs r.1).length := by
          have hl := of_decide_eq_true hl
          first
            | (injection hl with hl; omega)
            | omega
        have y1 : 0 ≤ c / 36 % ((((labs r.1).map V.str).length : Int) - 1) := Int.emod_nonneg _ (by omega)
        have y2 : c / 36 % ((((labs r.1).map V.str).length : Int) - 1) < (((labs r.1).map V.str).length : Int) - 1 := Int.emod_lt_of_pos _ (by omega)
        refine ⟨rfl, _, rfl, _, rfl, _, _, rfl, rfl, ⟨by decide, by decide⟩, _, rfl, l4, _, rfl, .inl h46, _, _, rfl, rfl, _, _, rfl, rfl, (by show (0 : Int) < (((labs r.1).map V.str).length : Int) - 1; omega), _, _, rfl, rfl, _, rfl, l4, _, rfl, h46, fun l7 n7 => ?_⟩
        obtain ⟨m, em, ml2⟩ : ∃ m : Nat, 1 + c / 36 % ((((labs r.1).map V.str).length : Int) - 1) = ((m + 1 : Nat) : Int) ∧ m + 1 < (labs r.1).length := ⟨(c / 36 % ((((labs r.1).map V.str).length : Int) - 1)).toNat, by omega, by omega⟩
        rw [em]
        have et : cutV ((labs r.1).map V.str) none (some ((m + 1 : Nat) : Int)) = ((labs r.1).take (m + 1)).map V.str := by
          rw [cut_to (by omega), List.map_take]; rfl
        rw [et]
        have u7 := same_upd (o := .lst (((labs r.1).take (m + 1)).map V.str)) n7
        refine ⟨"/", l7, (labs r.1).take (m + 1), rfl, rfl, .inl (SqL.of upd_same), ?_, lineN 0, fun t8 n8 => ⟨lineN 2, fun t9 n9 => ?_⟩⟩
        · have h1 := sum_le (n := 1000) ((labs r.1).take (m + 1)) (fun y hy => by have := labs_len (List.mem_of_mem_take hy); omega)
          have h2 : ((labs r.1).take (m + 1)).length ≤ 4 := by rw [List.length_take]; omega
          have h3 : ((labs r.1).take (m + 1)).length * 1000 ≤ 4 * 1000 := Nat.mul_le_mul_right _ h2
          refine le_line ?_
          rw [e1]
          omega
        have fm : PySem.Txt.join "/" ((labs r.1).take (m + 1)) ∈ fols r.1 := List.mem_map.mpr ⟨m, List.mem_range.mpr (by omega), rfl⟩
        have fl := fol_len fm
        have fo := fols_iff.mp fm
        generalize PySem.Txt.join "/" ((labs r.1).take (m + 1)) = g at fm fl fo n9 ⊢
        have u8 := same_upd (o := .tup []) n8
        have u9 := same_upd (o := .tup [V.str g, V.ref t8]) n9
        exact ⟨.ref t9, (.inr g, .tuple []), _, _, rfl, ((t6'.trans u7).trans u8).trans u9, ⟨t9, _, rfl, SqT.of upd_same, _, _, rfl, rfl, _, _, rfl, ⟨t8, _, rfl, SqT.of (u9 _ _ upd_same), rfl⟩, rfl⟩, .inr (.inr ⟨r, rm, g, rfl, .inr fo⟩), decide_eq_true (by omega), rfl⟩
    · rintro σ' H' ⟨v, q, o4, o5, rfl, t', dv, wr, sk, sd⟩
      have ha' := t'.seq ha
      obtain ⟨n, hn, nl⟩ : ∃ n : Nat, c / 18 % ((xs.length : Int) + 1) = n ∧ n ≤ xs.length := ⟨(c / 18 % ((xs.length : Int) + 1)).toNat, (Int.toNat_of_nonneg (Int.emod_nonneg _ (by omega))).symm, by
        have z1 : 0 ≤ c / 18 % ((xs.length : Int) + 1) := Int.emod_nonneg _ (by omega)
        have z2 : c / 18 % ((xs.length : Int) + 1) < (xs.length : Int) + 1 := Int.emod_lt_of_pos _ (by omega)
        omega⟩
      refine ⟨_, rfl, _, _, rfl, rfl, ⟨by decide, by decide⟩, _, rfl, a, _, rfl, .inl ha', _, _, rfl, rfl, _, _, rfl, rfl, (by show (0 : Int) < (xs.length : Int) + 1; omega), ?_⟩
      show gName 6 (V.int (c / 18 % ((xs.length : Int) + 1))) _ H' _
      rw [hn]
      refine ⟨_, rfl, _, rfl, _, rfl, a, _, rfl, ha', fun l5 n5 => ?_⟩
      rw [cut_to (show (0 : Int) ≤ (n : Int) by omega), Int.toNat_natCast]
      refine ⟨_, rfl, lineN 1, fun l6 n6 => ?_⟩
      have u5 := same_upd (o := .lst (xs.take n)) n5
      have u6 := same_upd (o := .lst [v]) n6
      have tl : (xs.take n).length ≤ 5 := by rw [List.length_take]; omega
      refine ⟨l5, l6, _, _, rfl, rfl, u6 _ _ upd_same, upd_same, le_line (by show (xs.take n).length + 1 ≤ _; omega), fun l7 n7 => ⟨_, rfl, _, rfl, _, rfl, a, _, rfl, (u5.trans (u6.trans (same_upd n7))).seq ha', fun l8 n8 => ?_⟩⟩
      rw [cut_from (show (0 : Int) ≤ (n : Int) by omega), Int.toNat_natCast]
      have u7 := same_upd (o := .lst (xs.take n ++ [v])) n7
      have u8 := same_upd (o := .lst (xs.drop n)) n8
      refine ⟨l7, l8, _, _, rfl, rfl, u8 _ _ upd_same, upd_same, le_line ?_, fun l9 n9 => ?_⟩
      · rw [List.length_append, List.length_drop]
        show (xs.take n).length + 1 + (xs.length - n) ≤ _
        omega
      have u9 := same_upd (o := .lst (xs.take n ++ [v] ++ xs.drop n)) n9
      have t9 := t'.trans ((((u5.trans u6).trans u7).trans u8).trans u9)
      refine k l9 _ q n _ t9 upd_same ?_ wr sk sd
      rw [List.map_append, List.map_append, List.map_take, List.map_drop]
      have DR := DwAll.same t9 _ _ hD
      exact L2.DwAll.append (L2.DwAll.append (DwAll.take n DR) ⟨v, [], rfl, Dw.same ((((u5.trans u6).trans u7).trans u8).trans u9) _ _ dv, rfl⟩) (L2.DwAll.drop n DR)
end h_wrong
end
end An05

set_option Elab.async false
set_option linter.all false
set_option maxRecDepth 100000
set_option maxHeartbeats 4000000
namespace An05
open PySem L2 An
seal L2.PS L2.PSs L2.PE L2.PT L2.PW L2.PA L2.PG L2.PGs L2.PI L2.PFi L2.PC
def spLaw (K : PySem.W.Frag) : Sp := fun vs H Q _ => ∃ (a : Addr) (ns : List Int), vs = [.ref a] ∧ SqL K H a (ns.map V.int) ∧ ∀ H', Q (.bl true) H'
theorem small_str {x : Str} (h : x.length ≤ 1000) : small (.str x) = true := decide_eq_true h
theorem small_strs : ∀ {ls : List Str}, (∀ l ∈ ls, l.length ≤ 1000) → smallAll (ls.map .str) = true
  | [], _ => rfl
  | l :: ls, h => by
    show (decide (l.length ≤ 1000) && smallAll (ls.map .str)) = true
    rw [decide_eq_true (h l List.mem_cons_self), small_strs fun x hx => h x (List.mem_cons_of_mem _ hx)]; rfl
theorem small_list {ls : List Str} (h : ∀ l ∈ ls, l.length ≤ 1000) (hl : ls.length ≤ 1000) : small (.list (ls.map .str)) = true := by
  show (decide ((ls.map PyData.str).length ≤ 1000) && smallAll (ls.map .str)) = true
  rw [small_strs h, List.length_map, decide_eq_true hl]; rfl
theorem list_self (ls : List Str) : PyData.eqv (.list (ls.map .str)) (.list (ls.map .str)) = true := by
  show PyData.eqvAll (ls.map .str) (ls.map .str) = true
  rw [eqv_strs, decide_eq_true rfl]
theorem list_shaped {ls : List Str} (h : ∀ l ∈ ls, (cs l).all okB = true) : SeqAt.shaped (.list (ls.map .str)) = true := by
  obtain ⟨l1, l2⟩ := lay_strs ls fun l hl => okB_strOk (h l hl)
  refine shaped_of (show PyData.canLayAll0 (ls.map .str) = true from l1) ?_
  show PyData.depthAll (ls.map .str) + 1 ≤ 60
  omega
theorem str_self (x : Str) : PyData.eqv (.str x) (.str x) = true := by show (x == x) = true; exact beq_self_eq_true x
theorem due_self (y : Str) : PyData.eqv (dueD (.str y)) (dueD (.str y)) = true := by
  show PyData.eqv (if pathB y = true then _ else _) (if pathB y = true then _ else _) = true
  split
  · exact list_self _
  · exact str_self _
theorem due_shaped {y : Str} (h : (cs y).all okB = true) : SeqAt.shaped (dueD (.str y)) = true := by
  show SeqAt.shaped (if pathB y = true then _ else _) = true
  split
  · exact list_shaped fun l hl => labs_okB h hl
  · decide +kernel
theorem bools_self (a b : Bool) : PyData.eqv (.list [.bool a, .bool b]) (.list [.bool a, .bool b]) = true := by cases a <;> cases b <;> rfl
def oddL : List PyData := [.none, .int 5, .list [.str "a"], .tuple [.str "a"], .dict []]
theorem oddL_ok : ∀ d ∈ oddL, pathD d = false ∧ small d = true := by
  intro d hd
  simp only [oddL, List.mem_cons, List.not_mem_nil, or_false] at hd
  rcases hd with rfl | rfl | rfl | rfl | rfl
  · exact ⟨rfl, rfl⟩
  · exact ⟨rfl, rfl⟩
  · exact ⟨rfl, by decide +kernel⟩
  · exact ⟨rfl, by decide +kernel⟩
  · exact ⟨rfl, rfl⟩
theorem ne_self {v : V} : (!decide (v = v)) = false := by rw [decide_eq_true rfl]; rfl
section
variable {P : Program} {w : World} {K : PySem.W.Frag} {mg : Str → Option Value} {base : Heap} {t1 t2 t3 t4 : Tok} {aP aF aA b1 b2 b3 b4 b5 b6 b7 b8 : Addr}
namespace g_law
abbrev st : Stmt := top 40
theorem sc : FnScope ["_law_script", "_law_labels", "_law_text", "_law_good_here", "_law_found", "_law_odd", "_law_due", "_law_near", "_law_other", "_law_told", "_law_rows", "_law_files", "_law_wrong"] ["_law_script"] (defScope st) := ⟨rfl, rfl, rfl, by decide +kernel, rfl, by decide +kernel, by decide +kernel⟩
theorem ok {f : Addr} {fd : FuncData} (F : Fun K "law" "law" st f fd) (T : Txt K mg t1 t2 t3 t4 aP aF aA b1 b2 b3 b4 b5 b6 b7 b8) (C__law_cell_at : Cal P w K mg base 1 "_law_cell_at" ["_law_script", "_law_k"] (spCellA K))
    (C__law_label_by : Cal P w K mg base 1 "_law_label_by" ["_law_cell"] spLabelBy) (C__law_bent : Cal P w K mg base 1 "_law_bent" ["_law_text", "_law_cell"] spBent) (C__law_good : Cal P w K mg base 1 "_law_good" ["_law_text"] (spGood K))
    (C_is_path : Cal P w K mg base 2 "is_path" ["thing"] (spPath K)) (C__law_parted : Cal P w K mg base 4 "_law_parted" ["_law_thing"] (spParted K)) (C_path_over : Cal P w K mg base 1 "path_over" ["one", "other"] spOver)
    (C__law_rows_by : Cal P w K mg base 2 "_law_rows_by" ["_law_cells"] (spRowsBy K)) (C__law_dict : Cal P w K mg base 1 "_law_dict" ["_law_rows"] (spDict K)) (C__law_needed : Cal P w K mg base 6 "_law_needed" ["_law_files"] (spNeeded K))
    (C__law_wrong_by : Cal P w K mg base 1 "_law_wrong_by" ["_law_rows", "_law_cell"] (spWrong K)) : FnOk P w K mg base CX0 8 f fd ["_law_script"] (spLaw K) := by
  refine F.ok sc (fun vs H Q E h => ?_) (fun cdv A outer s H vs Q E hr h => ?_)
  · obtain ⟨a, ns, rfl, _⟩ := h
    rfl
  · obtain ⟨a, ns, rfl, ha, k⟩ := h
    refine ⟨_, (pss_cons (ps_setc (sc := defScope st) (N := ["_law_script", "_law_labels", "_law_text", "_law_good_here", "_law_found", "_law_odd", "_law_due", "_law_near", "_law_other", "_law_told", "_law_rows", "_law_files", "_law_wrong"]) (N' := ["_law_k", "_law_script"]) (src := [none, some 0]) ⟨by decide +kernel, rfl, rfl, by decide +kernel, by decide +kernel, by decide +kernel, by decide +kernel⟩ rfl rfl rfl (pi_range1 rfl T.range (pa_cons (pe_op op_mod (pe_callC C__law_cell_at (hr.mono (by decide)) (pa_cons (pv 0) (pa_cons pe_int pa_nil))) pe_int) pa_nil)) (fun _ _ _ _ => (pg_name (i := 0) (show (["_law_k", "_law_script"] : List Str).Nodup by decide +kernel) rfl (Or.inl rfl))) (fun _ _ _ _ => pf_nil) (fun _ _ _ _ => (pe_callC C__law_label_by (hr.mono (by decide)) (pa_cons (pe_callC C__law_cell_at (hr.mono (by decide)) (pa_cons (pv 1) (pa_cons (pe_op op_add pe_int (pv 0)) pa_nil))) pa_nil))) sc.nd rfl (Or.inl rfl) (k := 1))
      (pss_cons (ps_set (i := 2) sc.nd rfl (Or.inl rfl) (pe_callC C__law_bent (hr.mono (by decide)) (pa_cons (pe_bm PySem.F.plainAttrs_str PySem.F.slot_str_join PySem.F.type_str_join mt_join pe_str (pa_cons (pv 1) pa_nil)) (pa_cons (pe_callC C__law_cell_at (hr.mono (by decide)) (pa_cons (pv 0) (pa_cons pe_int pa_nil))) pa_nil))))
      (pss_cons (ps_set (i := 3) sc.nd rfl (Or.inl rfl) (pe_callC C__law_good (hr.mono (by decide)) (pa_cons (pv 2) pa_nil)))
      (pss_cons (ps_set (i := 4) sc.nd rfl (Or.inl rfl) (pe_callC C_is_path (hr.mono (by decide)) (pa_cons (pv 2) pa_nil)))
      (pss_cons (ps_set (i := 5) sc.nd rfl (Or.inl rfl) (pe_ix (ix_list : IxR _ (rIxL K)) (pe_lst (pd_cons pd_non (pd_cons pd_int (pd_cons (pd_lst (pd_cons pd_str pd_nil)) (pd_cons (pd_tup (pd_cons pd_str pd_nil)) (pd_cons pd_dict0 pd_nil)))))) (pe_op op_mod (pe_callB call_len_seq (by rfl) T.len PySem.boot_len (pa_cons (pv 1) pa_nil)) pe_int) (fun _ _ => rfl)))
      (pss_cons (ps_if (PW.pt (pw_or (pt_not (pt_truthK (K := K) (pe_callB (call_isinstK (K := K)) (by rfl) T.isinstance PyProof.Rows.boot_isinstance (pa_cons (pv 4) (pa_cons (pe_bltn (v := .ty "bool") rfl T.bool PyProof.Rows.boot_bool rfl) pa_nil))) (fun _ => rfl))) (pw_or (pt_cmpR op_ne (pv 4) (pv 3) (nomark _)) (pw_or1 (pt_cmpR op_isnotB (pe_callC C_is_path (hr.mono (by decide)) (pa_cons (pv 5) pa_nil)) pe_bl (nomark _))))))
        (pss_one (ps_ret pe_bl))
        pss_nil)
      (pss_cut (ps_set (i := 6) sc.nd rfl (Or.inl rfl) (pe_ifExp (pt_truthK (K := K) (pv 3) (fun _ => rfl)) (pe_bm PySem.F.plainAttrs_str PySem.F.slot_str_split PySem.F.type_str_split mt_split (pv 2) (pa_cons pe_str pa_nil)) pe_str))
      (pss_cons (ps_if (PW.pt (pw_or (pt_cmpR (op_neD hr.units) (pe_callC C__law_parted (hr.mono (by decide)) (pa_cons (pv 2) pa_nil)) (pv 6) (nomark _)) (pw_or (pt_cmpR (op_neD hr.units) (pe_callC C__law_parted (hr.mono (by decide)) (pa_cons (pv 2) pa_nil)) (pv 6) (nomark _)) (pw_or1 (pt_cmpR (op_neD hr.units) (pe_callC C__law_parted (hr.mono (by decide)) (pa_cons (pv 1) pa_nil)) pe_str (nomark _))))))
        (pss_one (ps_ret pe_bl))
        pss_nil)
      (pss_cons (ps_set (i := 7) sc.nd rfl (Or.inl rfl) (pe_lst (pa_cons (pv 2) (pa_cons (pe_op op_add_str (pv 2) pe_str) (pa_cons (pe_op op_add_str (pv 2) pe_str) (pa_cons (pe_slice sl_str (pv 2) po_none (po_some (pe_un un_neg pe_int))) (pa_cons (pe_op op_add_str (pv 2) pe_str) (pa_cons (pe_op op_add_str pe_str (pv 2)) (pa_cons (pe_slice sl_str (pv 2) po_none (po_some pe_int)) (pa_cons (pe_slice sl_str (pv 2) po_none (po_some pe_int)) pa_nil))))))))))
      (pss_cons (ps_for PassesOwn.never rfl (pi_list (pe_op op_cat (pv 7) (pe_lst (pa_cons pe_str (pa_cons pe_str (pa_cons pe_str (pa_cons (pe_op op_add_str (pv 2) pe_str) (pa_cons (pe_op op_add_str pe_str (pv 2)) (pa_cons (pe_op op_add_str (pv 2) pe_str) pa_nil))))))))) (pg_name (i := 8) sc.nd rfl (Or.inl rfl))
        (pss_cons (ps_set (i := 9) sc.nd rfl (Or.inl rfl) (pe_lst (pa_cons (pe_callC C_path_over (hr.mono (by decide)) (pa_cons (pv 2) (pa_cons (pv 8) pa_nil))) (pa_cons (pe_callC C_path_over (hr.mono (by decide)) (pa_cons (pv 8) (pa_cons (pv 2) pa_nil))) pa_nil))))
        (pss_cons (ps_set (i := 6) sc.nd rfl (Or.inl rfl) (pe_lst (pa_cons (pe_bm PySem.F.plainAttrs_str PySem.F.slot_str_startswith PySem.F.type_str_startswith mt_startswith (pv 8) (pa_cons (pe_op op_add_str (pv 2) pe_str) pa_nil)) (pa_cons (pe_bm PySem.F.plainAttrs_str PySem.F.slot_str_startswith PySem.F.type_str_startswith mt_startswith (pv 2) (pa_cons (pe_op op_add_str (pv 8) pe_str) pa_nil)) pa_nil))))
        (pss_one (ps_if (PW.pt (pw_or (pt_cmpR (op_neD hr.units) (pv 9) (pv 6) (nomark _)) (pw_or (pt_not (pt_truthK (K := K) (pe_callB (call_isinstK (K := K)) (by rfl) T.isinstance PyProof.Rows.boot_isinstance (pa_cons (pe_ix (ix_list : IxR _ (rIxL K)) (pv 9) pe_int (fun _ _ => rfl)) (pa_cons (pe_bltn (v := .ty "bool") rfl T.bool PyProof.Rows.boot_bool rfl) pa_nil))) (fun _ => rfl))) (pw_or1 (pt_not (pt_truthK (K := K) (pe_callB (call_isinstK (K := K)) (by rfl) T.isinstance PyProof.Rows.boot_isinstance (pa_cons (pe_ix (ix_list : IxR _ (rIxL K)) (pv 9) pe_int (fun _ _ => rfl)) (pa_cons (pe_bltn (v := .ty "bool") rfl T.bool PyProof.Rows.boot_bool rfl) pa_nil))) (fun _ => rfl)))))))
          (pss_one (ps_ret pe_bl))
          pss_nil)))))
      (pss_cons (ps_set (i := 10) sc.nd rfl (Or.inl rfl) (pe_callC C__law_rows_by (hr.mono (by decide)) (pa_cons (pe_slice (sl_list : SlR _ (rSlL K)) (pv 0) (po_some pe_int) (po_some pe_int)) pa_nil)))
      (pss_cons (ps_set (i := 11) sc.nd rfl (Or.inl rfl) (pe_callC C__law_dict (hr.mono (by decide)) (pa_cons (pv 10) pa_nil)))
      (pss_cons (ps_if (PW.pt (pw_or (pt_cmpR op_notN (pe_callC C__law_needed (hr.mono (by decide)) (pa_cons (pv 11) pa_nil)) pe_non (nomark _)) (pw_or1 (pt_cmpR (op_neD hr.units) (pe_callTy (call_listZ rfl) (by rfl) T.list PyProof.Rows.boot_list (pa_cons (pv 11) pa_nil)) (pe_comp (sc := defScope st) (N := ["_law_script", "_law_labels", "_law_text", "_law_good_here", "_law_found", "_law_odd", "_law_due", "_law_near", "_law_other", "_law_told", "_law_rows", "_law_files", "_law_wrong"]) (N' := ["_law_row"]) (src := [none]) ⟨by decide +kernel, rfl, rfl, by decide +kernel, by decide +kernel, by decide +kernel, by decide +kernel⟩ rfl rfl rfl (pi_list (pv 10)) (fun _ _ _ _ => (pg_name (i := 0) (show (["_law_row"] : List Str).Nodup by decide +kernel) rfl (Or.inl rfl))) (fun _ _ _ _ => pf_nil) (fun _ _ _ _ => (pe_ix (ix_tup : IxR _ (rIxT K)) (pv 0) pe_int (fun _ _ => rfl)))) (nomark _)))))
        (pss_one (ps_ret pe_bl))
        pss_nil)
      (pss_cons (ps_if (pt_cmpR (op_neZ hr.units128) (pv 11) (pe_callC C__law_dict (hr.mono (by decide)) (pa_cons (pv 10) pa_nil)) (nomark _))
        (pss_one (ps_ret pe_bl))
        pss_nil)
      (pss_cons (ps_set (i := 12) sc.nd rfl (Or.inl rfl) (pe_callC C__law_dict (hr.mono (by decide)) (pa_cons (pe_callC C__law_wrong_by (hr.mono (by decide)) (pa_cons (pv 10) (pa_cons (pe_callC C__law_cell_at (hr.mono (by decide)) (pa_cons (pv 0) (pa_cons pe_int pa_nil))) pa_nil))) pa_nil)))
      (pss_cons (ps_if (PW.pt (pw_or (pt_cmpR (op_neD hr.units) (pe_callC C__law_needed (hr.mono (by decide)) (pa_cons (pv 12) pa_nil)) pe_str (nomark _)) (pw_or (pt_cmpR (op_neD hr.units) (pe_callC C__law_needed (hr.mono (by decide)) (pa_cons (pv 10) pa_nil)) pe_str (nomark _)) (pw_or1 (pt_cmpR (op_neD hr.units) (pe_callC C__law_needed (hr.mono (by decide)) (pa_cons pe_non pa_nil)) pe_str (nomark _))))))
        (pss_one (ps_ret pe_bl))
        pss_nil)
      (pss_one (ps_ret (pe_cmpR op_isN (pe_callC C__law_needed (hr.mono (by decide)) (pa_cons (pv 11) pa_nil)) pe_non (nomark _)))))))))))))))))))), ?_⟩
    have ls1 : ("/" : Str).length = 1 := by decide +kernel
    -- labels
    refine ⟨_, rfl, a, ns, 0, rfl, ha, by decide, fun i0 => ⟨_, _, rfl, rfl, (by show (0 : Int) < 6; decide), _, rfl, by omega, by omega, comp_range0 (fun j ys σ H2 => ∃ (o : Option V) (ls : List Str), σ = [o, some (.ref a)] ∧ Same H H2 ∧ ys = ls.map V.str ∧ ls.length = j ∧ ∀ y ∈ ls, labelB y = true) ⟨none, [], rfl, Same.refl _, rfl, rfl, fun y hy => nomatch hy⟩ (le_line (by omega))
      (fun j ys σ H3 hj ⟨_, ls, _, _, ey, el, _⟩ => by rw [ey, List.length_map, el]; exact Nat.le_refl _) ?_ ?_⟩⟩
    · rintro j ys σ H2 hj ⟨o, ls, rfl, e2, rfl, rfl, al⟩
      refine ⟨_, rfl, _, rfl, _, _, rfl, rfl, a, ns, _, rfl, e2.seq ha, by omega, fun i1 => ⟨_, rfl, fun y H3 hy _ s3 => ⟨_, ls ++ [y], rfl, e2.trans s3, ?_, by simp, mem_snoc al hy⟩⟩⟩
      rw [List.map_append]; rfl
    rintro ys σ H1 ⟨o, ls, rfl, e1, rfl, el, al⟩ l1 n1
    have ll : ls.length ≤ 5 := by omega
    have al8 : ∀ y ∈ ls, y.length ≤ 8 := fun y hy => (label_parts.mp (al y hy)).2.1
    have u1 := same_upd (o := .lst (ls.map V.str)) n1
    have T1 := e1.trans u1
    have hl1 : SqL K (upd H1 l1 (.lst (ls.map V.str))) l1 (ls.map V.str) := SqL.of upd_same
    show tSeq _ _ _ _ (upd H1 l1 (.lst (ls.map V.str)))
    generalize upd H1 l1 (.lst (ls.map V.str)) = H2 at T1 hl1
    -- the text
    refine ⟨rfl, _, rfl, "/", l1, ls, rfl, rfl, .inl hl1, ?_, ?_⟩
    · have := sum_le (n := 8) ls al8
      rw [ls1]
      exact le_line (by omega)
    refine ⟨_, rfl, a, ns, 6, rfl, T1.seq ha, by decide, fun i2 => ⟨_, _, rfl, join_okB fun y hy => label_okB (al y hy), by have := join_len al8; omega, fun y hy yl => ?_⟩⟩
    refine ⟨_, rfl, y, rfl, by omega, fun H3 s3 => ?_⟩
    refine ⟨_, rfl, .str y, _, rfl, rfl, small_str (by omega), fun H4 s4 => ?_⟩
    have T4 := (T1.trans s3).trans s4
    have hl4 := (s3.trans s4).seq hl1
    -- what is no text
    refine ⟨fun _ => .none, EnvD.sub EnvD.nil, fun v5 H5 s5 d5 => ⟨le_line (by rw [d5.length]; show 5 ≤ 16777216; decide), fun l5 n5 => ?_⟩⟩
    have d5 : DwAll K H5 oddL v5 := d5
    have u5 := same_upd (o := .lst v5) n5
    have T5 := (T4.trans s5).trans u5
    have hl5 := (s5.trans u5).seq hl4
    have lv5 : v5.length = 5 := d5.length
    have lml : (ls.map V.str).length = ls.length := List.length_map _
    obtain ⟨j, hj, jl⟩ : ∃ j : Nat, ((ls.map V.str).length : Int) % 5 = j ∧ j < 5 := ⟨(((ls.map V.str).length : Int) % 5).toNat, by omega, by omega⟩
    have hx : v5[j]? = some (v5[j]'(by rw [lv5]; exact jl)) := List.getElem?_eq_getElem _
    generalize v5[j]'(by rw [lv5]; exact jl) = v at hx
    obtain ⟨d, hd, hdw⟩ := d5.get hx
    obtain ⟨pd, sd⟩ := oddL_ok d (List.mem_of_getElem? hd)
    refine ⟨_, rfl, l1, _, rfl, .inl hl5, _, _, rfl, rfl, (by show (0 : Int) < 5; decide), l5, _, _, v, rfl, rfl, SqL.of upd_same, atI_of hj hx, ?_⟩
    have hdw5 := Dw.same u5 _ _ hdw
    refine ⟨_, rfl, _, _, _, _, rfl, .bl _, T.kit _ (by simp [kinds]) _ (by simp [kinds]), _, rfl, iteF ?_⟩
    refine ⟨_, rfl, _, rfl, rfl, false, congrArg V.bl ne_self, iteF ?_⟩
    refine ⟨_, rfl, d, v, rfl, hdw5, sd, fun H6 s6 => ⟨_, _, rfl, rfl, false, by rw [pd]; rfl, iteF ?_⟩⟩
    have T6 := T5.trans s6
    have hl6 := s6.seq hl5
    -- what is due
    refine ⟨fun σ' H' => ∃ vd : V, σ' = [some (.ref a), some (.ref l1), some (.str y), some (.bl (pathB y)), some (.bl (pathD (.str y))), some v, some vd, none, none, none, none, none, none] ∧ Same H6 H' ∧ Dt K H' (dueD (.str y)) vd, ?_, ?_⟩
    · refine ⟨_, rfl, _, rfl, ?_⟩
      cases q : pathB y with
      | true =>
        refine iteT (B := False) ⟨_, rfl, rfl, y, 47, rfl, sl47, by omega, fun l nl => ?_⟩
        rw [labs47]
        refine ⟨_, rfl, same_upd nl, ?_⟩
        show Dt K _ (if pathB y = true then _ else _) _
        rw [q]
        exact ⟨l, _, rfl, SqL.of upd_same, DtAll.strs _⟩
      | false =>
        refine iteF (A := False) ⟨_, rfl, Same.refl _, ?_⟩
        rw [due_no (show pathD (.str y) = false from q)]
        exact rfl
    rintro σ' H7 ⟨vd, rfl, s7, dd⟩
    have T7 := T6.trans s7
    have hl7 := s7.seq hl6
    have sh := due_shaped hy
    have se := due_self y
    refine ⟨_, rfl, .str y, _, rfl, rfl, small_str (by omega), fun v8 H8 s8 dd8 => ⟨_, rfl, _, _, dd8, Dt.same s8 _ _ dd, sh, sh, false, by rw [se]; rfl, iteF ?_⟩⟩
    refine ⟨_, rfl, .str y, _, rfl, rfl, small_str (by omega), fun v9 H9 s9 dd9 => ⟨_, rfl, _, _, dd9, Dt.same (s8.trans s9) _ _ dd, sh, sh, false, by rw [se]; rfl, iteF ?_⟩⟩
    have hl9 := (s8.trans s9).seq hl7
    refine ⟨_, rfl, .list (ls.map .str), _, rfl, ⟨l1, _, rfl, hl9, (DtAll.strs ls).dw⟩, small_list (fun z hz => by have := al8 z hz; omega) (by omega), fun v10 H10 s10 dd10 => ⟨_, .str "path", dd10, rfl, (show SeqAt.shaped (.str "path") = true by decide +kernel), by decide +kernel, false, by rw [show dueD (.list (ls.map .str)) = .str "path" from rfl, str_self]; rfl, iteF ?_⟩⟩
    have T10 := ((T7.trans s8).trans s9).trans s10
    -- texts that are near
    have la : ("a" : Str).length = 1 := by decide +kernel
    have lb : ("/b" : Str).length = 2 := by decide +kernel
    have lc : ("/b/c" : Str).length = 4 := by decide +kernel
    have ld : ("a/" : Str).length = 2 := by decide +kernel
    have lA : ("/A" : Str).length = 2 := by decide +kernel
    have c1 := PySem.Txt.slice_le y none (some (-1))
    have c2 := PySem.Txt.slice_le y none (some 2)
    have c3 := PySem.Txt.slice_le y none (some 5)
    refine ⟨_, rfl, _, rfl, _, _, rfl, rfl, le_line (by rw [la]; omega), _, rfl, _, _, rfl, rfl, le_line (by rw [lb]; omega), _, rfl, _, rfl, _, rfl, y, rfl, le_line (by omega), _, rfl, _, _, rfl, rfl, le_line (by rw [lc]; omega), _, rfl, _, _, rfl, rfl, le_line (by rw [ld]; omega), _, rfl, _, rfl, y, rfl, le_line (by omega), _, rfl, _, rfl, y, rfl, le_line (by omega), lineN 8, fun l11 n11 => ?_⟩
    refine ⟨_, rfl, _, rfl, _, _, rfl, rfl, le_line (by rw [lA]; omega), _, rfl, _, _, rfl, rfl, le_line (by rw [ls1]; omega), _, rfl, _, _, rfl, rfl, le_line (by rw [ls1]; omega), lineN 6, fun l12 n12 => ?_⟩
    obtain ⟨zs, ez, zl, zn⟩ : ∃ zs : List Str, [V.str y, V.str (y ++ "a"), V.str (y ++ "/b"), V.str (PySem.Txt.slice y none (some (-1))), V.str (y ++ "/b/c"), V.str ("a/" ++ y), V.str (PySem.Txt.slice y none (some 2)), V.str (PySem.Txt.slice y none (some 5))] ++ [V.str "", V.str "A", V.str "a b", V.str (y ++ "/A"), V.str ("/" ++ y), V.str (y ++ "/")] = zs.map V.str ∧ (∀ z ∈ zs, z.length ≤ 400) ∧ zs.length = 14 := by
      refine ⟨[y, y ++ "a", y ++ "/b", PySem.Txt.slice y none (some (-1)), y ++ "/b/c", "a/" ++ y, PySem.Txt.slice y none (some 2), PySem.Txt.slice y none (some 5), "", "A", "a b", y ++ "/A", "/" ++ y, y ++ "/"], rfl, ?_, rfl⟩
      intro z hz
      simp only [List.mem_cons, List.not_mem_nil, or_false] at hz
      have k1 : ("" : Str).length ≤ 400 := by decide +kernel
      have k2 : ("A" : Str).length ≤ 400 := by decide +kernel
      have k3 : ("a b" : Str).length ≤ 400 := by decide +kernel
      rcases hz with rfl | rfl | rfl | rfl | rfl | rfl | rfl | rfl | rfl | rfl | rfl | rfl | rfl | rfl <;> first | (rw [len_append]; omega) | omega
    have u11 := same_upd (o := .lst [V.str y, V.str (y ++ "a"), V.str (y ++ "/b"), V.str (PySem.Txt.slice y none (some (-1))), V.str (y ++ "/b/c"), V.str ("a/" ++ y), V.str (PySem.Txt.slice y none (some 2)), V.str (PySem.Txt.slice y none (some 5))]) n11
    have u12 := same_upd (o := .lst [V.str "", V.str "A", V.str "a b", V.str (y ++ "/A"), V.str ("/" ++ y), V.str (y ++ "/")]) n12
    refine ⟨l11, l12, _, _, rfl, rfl, u12 _ _ upd_same, upd_same, le_line (by show 8 + 6 ≤ 16777216; decide), fun l13 n13 => ?_⟩
    rw [ez]
    have u13 := same_upd (o := .lst (zs.map V.str)) n13
    have T13 := ((T10.trans u11).trans u12).trans u13
    have hl13 : SqL K (upd (upd (upd H10 l11 (.lst [V.str y, V.str (y ++ "a"), V.str (y ++ "/b"), V.str (PySem.Txt.slice y none (some (-1))), V.str (y ++ "/b/c"), V.str ("a/" ++ y), V.str (PySem.Txt.slice y none (some 2)), V.str (PySem.Txt.slice y none (some 5))])) l12 (.lst [V.str "", V.str "A", V.str "a b", V.str (y ++ "/A"), V.str ("/" ++ y), V.str (y ++ "/")])) l13 (.lst (zs.map V.str))) l13 (zs.map V.str) := SqL.of upd_same
    refine ⟨l13, rfl, ⟨_, hl13⟩, ?_⟩
    generalize upd (upd (upd H10 l11 (.lst [V.str y, V.str (y ++ "a"), V.str (y ++ "/b"), V.str (PySem.Txt.slice y none (some (-1))), V.str (y ++ "/b/c"), V.str ("a/" ++ y), V.str (PySem.Txt.slice y none (some 2)), V.str (PySem.Txt.slice y none (some 5))])) l12 (.lst [V.str "", V.str "A", V.str "a b", V.str (y ++ "/A"), V.str ("/" ++ y), V.str (y ++ "/")])) l13 (.lst (zs.map V.str)) = H13 at T13 hl13
    refine for_list (K := K) (a := l13) (xs := zs.map V.str) (fun i σ H2 => ∃ o6 o8 o9, σ = [some (.ref a), some (.ref l1), some (.str y), some (.bl (pathB y)), some (.bl (pathD (.str y))), some v, o6, some (.ref l11), o8, o9, none, none, none] ∧ Same H13 H2) ⟨_, none, none, rfl, Same.refl _⟩ (fun i σ H2 hi ⟨_, _, _, _, e2⟩ => e2.seq hl13) ?_ ?_
    · rintro i x σ H2 hx ⟨o6, o8, o9, rfl, e2⟩
      rw [List.getElem?_map] at hx
      cases q : zs[i]? with
      | none => rw [q] at hx; cases hx
      | some z =>
        rw [q] at hx
        have hx : V.str z = x := Option.some.inj hx
        subst hx
        have zl' := zl z (List.mem_of_getElem? q)
        refine ⟨_, rfl, _, rfl, y, z, rfl, by omega, _, rfl, _, rfl, z, y, rfl, by omega, lineN 2, fun l14 n14 => ?_⟩
        have u14 := same_upd (o := .lst [V.bl (overB y z), V.bl (overB z y)]) n14
        refine ⟨_, rfl, rfl, _, rfl, _, _, rfl, rfl, le_line (by rw [ls1]; omega), _, _, rfl, rfl, _, rfl, rfl, _, rfl, _, _, rfl, rfl, le_line (by rw [ls1]; omega), _, _, rfl, rfl, lineN 2, fun l15 n15 => ?_⟩
        have u15 := same_upd (o := .lst [V.bl (overB y z), V.bl (overB z y)]) n15
        have h14 : SqL K (upd (upd H2 l14 (.lst [V.bl (overB y z), V.bl (overB z y)])) l15 (.lst [V.bl (overB y z), V.bl (overB z y)])) l14 [V.bl (overB y z), V.bl (overB z y)] := u15.seq (SqL.of upd_same)
        have h15 : SqL K (upd (upd H2 l14 (.lst [V.bl (overB y z), V.bl (overB z y)])) l15 (.lst [V.bl (overB y z), V.bl (overB z y)])) l15 [V.bl (overB y z), V.bl (overB z y)] := SqL.of upd_same
        refine ⟨_, rfl, _, rfl, .list [.bool (overB y z), .bool (overB z y)], .list [.bool (overB y z), .bool (overB z y)], ⟨l14, _, rfl, h14, _, _, rfl, rfl, _, _, rfl, rfl, rfl⟩, ⟨l15, _, rfl, h15, _, _, rfl, rfl, _, _, rfl, rfl, rfl⟩, rfl, rfl, false, by rw [bools_self]; rfl, iteF ?_⟩
        refine ⟨_, rfl, l14, _, _, _, rfl, rfl, h14, rfl, _, _, _, _, rfl, .bl _, T.kit _ (by simp [kinds]) _ (by simp [kinds]), _, rfl, iteF ?_⟩
        refine ⟨_, rfl, l14, _, _, _, rfl, rfl, h14, rfl, _, _, _, _, rfl, .bl _, T.kit _ (by simp [kinds]) _ (by simp [kinds]), _, rfl, iteF ?_⟩
        exact ⟨_, _, _, rfl, (e2.trans u14).trans u15⟩
    rintro σ H14 ⟨o6, o8, o9, rfl, e14⟩
    have T14 := T13.trans e14
    -- files
    refine ⟨_, rfl, _, rfl, _, rfl, a, _, rfl, T14.seq ha, fun l15 n15 => ?_⟩
    obtain ⟨ms, em, ml⟩ := cut_ints (ns := ns) (f := 8) (k := 13) (by decide)
    have em : cutV (ns.map V.int) (some 8) (some 13) = ms.map V.int := em
    rw [em]
    have u15 := same_upd (o := .lst (ms.map V.int)) n15
    refine ⟨l15, ms, rfl, SqL.of upd_same, by omega, fun p xs R H16 s16 hp D16 g Rl => ?_⟩
    have T16 := (T14.trans u15).trans s16
    have lR : (R.map pairG).length ≤ 100 := by rw [List.length_map]; omega
    have smR : ∀ q ∈ R.map pairG, small (keyD q.1) = true ∧ small q.2 = true := fun q hq => by
      obtain ⟨r, hr, rfl⟩ := List.mem_map.mp hq
      exact small_pair g hr
    refine ⟨_, rfl, p, xs, R.map pairG, rfl, SqL.of hp, D16, lR, smR, fun d1 ob1 kv1 H17 s17 hd1 pa1 => ?_⟩
    rw [g.merge] at pa1
    refine ⟨_, rfl, .ref d1, rfl, .inr ⟨d1, ob1, kv1, R.map pairG, rfl, hd1, pa1, lR, fun _ H18 s18 => ?_, fun z => by rw [g.good] at z; cases z⟩⟩
    refine ⟨rfl, false, congrArg V.bl ne_self, iteF ?_⟩
    have xl : xs.length = R.length := by rw [D16.length, List.length_map, List.length_map]
    refine ⟨_, rfl, d1, ob1, kv1, rfl, s18 _ _ hd1, fun l19 n19 => ?_⟩
    have u19 := same_upd (o := .lst (kv1.map fun kv => kV kv.1)) n19
    have s19 := (s17.trans s18).trans u19
    have hp19 := s19 _ _ hp
    have D19 := DwAll.same s19 _ _ D16
    have h19 : SqL K (upd H18 l19 (.lst (kv1.map fun kv => kV kv.1))) l19 (kv1.map fun kv => kV kv.1) := SqL.of upd_same
    generalize upd H18 l19 (.lst (kv1.map fun kv => kV kv.1)) = H19 at u19 s19 hp19 D19 h19
    have ek : (kv1.map fun kv => kV kv.1) = (R.map (·.1)).map V.str := by
      have := congrArg (List.map kV) pa1.keys
      rw [List.map_map, List.map_map, List.map_map] at this
      rw [List.map_map]
      exact this
    rw [ek] at h19
    have okR : ∀ l ∈ R.map (·.1), (cs l).all okB = true := fun l hl => by
      obtain ⟨r, hr, rfl⟩ := List.mem_map.mp hl
      exact g.ok r hr
    have shR := list_shaped okR
    refine ⟨_, rfl, p, rfl, ⟨_, SqL.of hp19⟩, comp_list0 (K := K) (a := p) (xs := xs) (fun i ys σ' H2 => ∃ o, σ' = [o] ∧ H2 = H19 ∧ ys = ((R.take i).map (·.1)).map V.str) ⟨none, rfl, rfl, rfl⟩ (le_line (by omega)) ?_ ?_ ?_⟩
    · rintro i ys σ' H2 hi ⟨o, rfl, rfl, rfl⟩
      refine ⟨SqL.of hp19, ?_⟩
      rw [List.length_map, List.length_map, List.length_take]; omega
    · rintro i x ys σ' H2 hx ⟨o, rfl, rfl, rfl⟩
      obtain ⟨e, he, hw⟩ := D19.get hx
      rw [List.getElem?_map, List.getElem?_map] at he
      cases q : R[i]? with
      | none => rw [q] at he; cases he
      | some r =>
        rw [q] at he
        have he : rowK (pairG r) = e := Option.some.inj he
        subst he
        obtain ⟨t, u, rfl, ht, hd⟩ := row_is hw
        refine ⟨_, rfl, t, _, _, _, rfl, rfl, ht, rfl, _, rfl, rfl, ?_⟩
        rw [List.take_add_one, q, List.map_append, List.map_append]; rfl
    rintro ys σ' H20 ⟨o, rfl, rfl, rfl⟩ l20 n20
    rw [xl, List.take_length]
    have u20 := same_upd (o := .lst ((R.map (·.1)).map V.str)) n20
    refine ⟨.list ((R.map (·.1)).map .str), .list ((R.map (·.1)).map .str), ⟨l19, _, rfl, u20.seq h19, DtAll.strs _⟩, ⟨l20, _, rfl, SqL.of upd_same, DtAll.strs _⟩, shR, shR, false, by rw [list_self]; rfl, iteF ?_⟩
    -- the very same dict
    have s20 := s19.trans u20
    have hp20 := s20 _ _ hp
    have D20 := DwAll.same s20 _ _ D16
    have s20' := (s18.trans u19).trans u20
    refine ⟨_, rfl, _, rfl, p, xs, R.map pairG, rfl, SqL.of hp20, D20, lR, smR, fun d2 ob2 kv2 H21 s21 hd2 pa2 => ?_⟩
    rw [g.merge] at pa2
    have pa1' := pa1.same (s20'.trans s21)
    have kl1 := pa1'.length
    have kl2 := pa2.length
    refine ⟨d1, d2, ob1, ob2, kv1, kv2, true, rfl, rfl, (s20'.trans s21) _ _ hd1, hd2, hits_same g pa2 (fun r hr => hr) pa1', false, ?_, iteF ?_⟩
    · rw [kl1, kl2, beq_self_eq_true]; rfl
    -- wrong ones
    have T21 := ((T16.trans s20).trans s21)
    have hp21 := s21 _ _ hp20
    have D21 := DwAll.same s21 _ _ D20
    refine ⟨_, rfl, _, rfl, a, ns, 7, rfl, T21.seq ha, by decide, fun i7 => ⟨p, i7, xs, R, rfl, SqL.of hp21, D21, g, Rl, fun p2 xs2 q n H22 s22 hp2 D22 wr sk sd2 => ?_⟩⟩
    refine ⟨p2, xs2, (R.map pairG).take n ++ [q] ++ (R.map pairG).drop n, rfl, SqL.of hp2, D22, ?_, ?_, fun d3 ob3 kv3 H23 s23 hd3 pa3 => ?_⟩
    · rw [List.length_append, List.length_append, List.length_take, List.length_drop, List.length_map, List.length_singleton]; omega
    · intro q' hq'
      rcases List.mem_append.mp hq' with hq' | hq'
      · rcases List.mem_append.mp hq' with hq' | hq'
        · exact smR q' (List.mem_of_mem_take hq')
        · rw [List.mem_singleton.mp hq']; exact ⟨sk, sd2⟩
      · exact smR q' (List.mem_of_mem_drop hq')
    have lw := merge_len ((R.map pairG).take n ++ [q] ++ (R.map pairG).drop n)
    rw [List.length_append, List.length_append, List.length_take, List.length_drop, List.length_map, List.length_singleton] at lw
    refine ⟨_, rfl, .ref d3, rfl, .inr ⟨d3, ob3, kv3, _, rfl, hd3, pa3, by omega, (fun z => by rw [wrong_in wr] at z; cases z), fun _ H24 s24 => ?_⟩⟩
    refine ⟨.str "files", .str "files", rfl, rfl, by decide +kernel, by decide +kernel, false, by rw [str_self]; rfl, iteF ?_⟩
    have s2124 := (s22.trans s23).trans s24
    have D24 := DwAll.same s2124 _ _ D21
    refine ⟨_, rfl, .ref p, rfl, .inl ⟨.list ((R.map pairG).map rowK), ⟨p, xs, rfl, SqL.of (s2124 _ _ hp21), D24⟩, rfl, fun H25 s25 => ?_⟩⟩
    refine ⟨.str "files", .str "files", rfl, rfl, by decide +kernel, by decide +kernel, false, by rw [str_self]; rfl, iteF ?_⟩
    refine ⟨.non, rfl, .inl ⟨.none, rfl, rfl, fun H26 s26 => ?_⟩⟩
    refine ⟨.str "files", .str "files", rfl, rfl, by decide +kernel, by decide +kernel, false, by rw [str_self]; rfl, iteF ?_⟩
    -- and the good ones once more
    have s26' := (((s20'.trans s21).trans s2124).trans s25).trans s26
    refine ⟨_, rfl, .ref d1, rfl, .inr ⟨d1, ob1, kv1, R.map pairG, rfl, s26' _ _ hd1, pa1.same s26', lR, fun _ H27 s27 => ?_, fun z => by rw [g.good] at z; cases z⟩⟩
    refine ⟨rfl, ?_⟩
    rw [decide_eq_true (show (V.non = V.non) from rfl)]
    exact k _
end g_law
end
end An05

namespace An05
open PySem L2 An
theorem all_mk {l : PySem.W.OpenLaw} {w : World} {K : PySem.W.Frag} {h : Heap} {mg : Str → Option Value} {fa : Addr} {t1 t2 t3 t4 : Tok} {aP aF aA b1 b2 b3 b4 b5 b6 b7 b8 : Addr} (X : K.In h) (G : h.Ns mainGlobals mg) (hfa : mg "law" = some (.ref fa))
    {f0 : Addr} {od0 an0 : Option Addr} {sl0 : Array (Option Value)} {oc0 kV0 dc0 pm0 cd0 ct0 : Value}
    (a0 : PySem.W.nsIn K mainGlobals "_law_cell_at" = some (some (.ref f0))) (l0 : K.lookup f0 = some ⟨oc0, od0, .func (PySem.W.fnOf "_law_cell_at" "_law_cell_at" (defArgs h_cell.st) (defBody h_cell.st) (defScope h_cell.st) .none kV0 dc0 pm0 an0 cd0 ct0), sl0⟩) (c0 : PySem.W.codeIn K cd0 "_law_cell_at" = true) (k0 : PySem.W.keepIn K (.ref f0) = true)
    {f1 : Addr} {od1 an1 : Option Addr} {sl1 : Array (Option Value)} {oc1 kV1 dc1 pm1 cd1 ct1 : Value}
    (a1 : PySem.W.nsIn K mainGlobals "_law_label_by" = some (some (.ref f1))) (l1 : K.lookup f1 = some ⟨oc1, od1, .func (PySem.W.fnOf "_law_label_by" "_law_label_by" (defArgs h_label.st) (defBody h_label.st) (defScope h_label.st) .none kV1 dc1 pm1 an1 cd1 ct1), sl1⟩) (c1 : PySem.W.codeIn K cd1 "_law_label_by" = true) (k1 : PySem.W.keepIn K (.ref f1) = true)
    {f2 : Addr} {od2 an2 : Option Addr} {sl2 : Array (Option Value)} {oc2 kV2 dc2 pm2 cd2 ct2 : Value}
    (a2 : PySem.W.nsIn K mainGlobals "_law_bent" = some (some (.ref f2))) (l2 : K.lookup f2 = some ⟨oc2, od2, .func (PySem.W.fnOf "_law_bent" "_law_bent" (defArgs h_bent.st) (defBody h_bent.st) (defScope h_bent.st) .none kV2 dc2 pm2 an2 cd2 ct2), sl2⟩) (c2 : PySem.W.codeIn K cd2 "_law_bent" = true) (k2 : PySem.W.keepIn K (.ref f2) = true)
    {f3 : Addr} {od3 an3 : Option Addr} {sl3 : Array (Option Value)} {oc3 kV3 dc3 pm3 cd3 ct3 : Value}
    (a3 : PySem.W.nsIn K mainGlobals "_law_good" = some (some (.ref f3))) (l3 : K.lookup f3 = some ⟨oc3, od3, .func (PySem.W.fnOf "_law_good" "_law_good" (defArgs h_good.st) (defBody h_good.st) (defScope h_good.st) .none kV3 dc3 pm3 an3 cd3 ct3), sl3⟩) (c3 : PySem.W.codeIn K cd3 "_law_good" = true) (k3 : PySem.W.keepIn K (.ref f3) = true)
    {f4 : Addr} {od4 an4 : Option Addr} {sl4 : Array (Option Value)} {oc4 kV4 dc4 pm4 cd4 ct4 : Value}
    (a4 : PySem.W.nsIn K mainGlobals "is_label" = some (some (.ref f4))) (l4 : K.lookup f4 = some ⟨oc4, od4, .func (PySem.W.fnOf "is_label" "is_label" (defArgs g_label.st) (defBody g_label.st) (defScope g_label.st) .none kV4 dc4 pm4 an4 cd4 ct4), sl4⟩) (c4 : PySem.W.codeIn K cd4 "is_label" = true) (k4 : PySem.W.keepIn K (.ref f4) = true)
    {f5 : Addr} {od5 an5 : Option Addr} {sl5 : Array (Option Value)} {oc5 kV5 dc5 pm5 cd5 ct5 : Value}
    (a5 : PySem.W.nsIn K mainGlobals "is_path" = some (some (.ref f5))) (l5 : K.lookup f5 = some ⟨oc5, od5, .func (PySem.W.fnOf "is_path" "is_path" (defArgs p_path.st) (defBody p_path.st) (defScope p_path.st) .none kV5 dc5 pm5 an5 cd5 ct5), sl5⟩) (c5 : PySem.W.codeIn K cd5 "is_path" = true) (k5 : PySem.W.keepIn K (.ref f5) = true)
    {f6 : Addr} {od6 an6 : Option Addr} {sl6 : Array (Option Value)} {oc6 kV6 dc6 pm6 cd6 ct6 : Value}
    (a6 : PySem.W.nsIn K mainGlobals "labels_of" = some (some (.ref f6))) (l6 : K.lookup f6 = some ⟨oc6, od6, .func (PySem.W.fnOf "labels_of" "labels_of" (defArgs p_labels.st) (defBody p_labels.st) (defScope p_labels.st) .none kV6 dc6 pm6 an6 cd6 ct6), sl6⟩) (c6 : PySem.W.codeIn K cd6 "labels_of" = true) (k6 : PySem.W.keepIn K (.ref f6) = true)
    {f7 : Addr} {od7 an7 : Option Addr} {sl7 : Array (Option Value)} {oc7 kV7 dc7 pm7 cd7 ct7 : Value}
    (a7 : PySem.W.nsIn K mainGlobals "_law_kind" = some (some (.ref f7))) (l7 : K.lookup f7 = some ⟨oc7, od7, .func (PySem.W.fnOf "_law_kind" "_law_kind" (defArgs h_kind.st) (defBody h_kind.st) (defScope h_kind.st) .none kV7 dc7 pm7 an7 cd7 ct7), sl7⟩) (c7 : PySem.W.codeIn K cd7 "_law_kind" = true) (k7 : PySem.W.keepIn K (.ref f7) = true)
    {f8 : Addr} {od8 an8 : Option Addr} {sl8 : Array (Option Value)} {oc8 kV8 dc8 pm8 cd8 ct8 : Value}
    (a8 : PySem.W.nsIn K mainGlobals "_law_parted" = some (some (.ref f8))) (l8 : K.lookup f8 = some ⟨oc8, od8, .func (PySem.W.fnOf "_law_parted" "_law_parted" (defArgs h_parted.st) (defBody h_parted.st) (defScope h_parted.st) .none kV8 dc8 pm8 an8 cd8 ct8), sl8⟩) (c8 : PySem.W.codeIn K cd8 "_law_parted" = true) (k8 : PySem.W.keepIn K (.ref f8) = true)
    {f9 : Addr} {od9 an9 : Option Addr} {sl9 : Array (Option Value)} {oc9 kV9 dc9 pm9 cd9 ct9 : Value}
    (a9 : PySem.W.nsIn K mainGlobals "path_over" = some (some (.ref f9))) (l9 : K.lookup f9 = some ⟨oc9, od9, .func (PySem.W.fnOf "path_over" "path_over" (defArgs p_over.st) (defBody p_over.st) (defScope p_over.st) .none kV9 dc9 pm9 an9 cd9 ct9), sl9⟩) (c9 : PySem.W.codeIn K cd9 "path_over" = true) (k9 : PySem.W.keepIn K (.ref f9) = true)
    {f10 : Addr} {od10 an10 : Option Addr} {sl10 : Array (Option Value)} {oc10 kV10 dc10 pm10 cd10 ct10 : Value}
    (a10 : PySem.W.nsIn K mainGlobals "_law_line_by" = some (some (.ref f10))) (l10 : K.lookup f10 = some ⟨oc10, od10, .func (PySem.W.fnOf "_law_line_by" "_law_line_by" (defArgs h_line.st) (defBody h_line.st) (defScope h_line.st) .none kV10 dc10 pm10 an10 cd10 ct10), sl10⟩) (c10 : PySem.W.codeIn K cd10 "_law_line_by" = true) (k10 : PySem.W.keepIn K (.ref f10) = true)
    {f11 : Addr} {od11 an11 : Option Addr} {sl11 : Array (Option Value)} {oc11 kV11 dc11 pm11 cd11 ct11 : Value}
    (a11 : PySem.W.nsIn K mainGlobals "_law_rows_by" = some (some (.ref f11))) (l11 : K.lookup f11 = some ⟨oc11, od11, .func (PySem.W.fnOf "_law_rows_by" "_law_rows_by" (defArgs h_rows.st) (defBody h_rows.st) (defScope h_rows.st) .none kV11 dc11 pm11 an11 cd11 ct11), sl11⟩) (c11 : PySem.W.codeIn K cd11 "_law_rows_by" = true) (k11 : PySem.W.keepIn K (.ref f11) = true)
    {f12 : Addr} {od12 an12 : Option Addr} {sl12 : Array (Option Value)} {oc12 kV12 dc12 pm12 cd12 ct12 : Value}
    (a12 : PySem.W.nsIn K mainGlobals "_law_dict" = some (some (.ref f12))) (l12 : K.lookup f12 = some ⟨oc12, od12, .func (PySem.W.fnOf "_law_dict" "_law_dict" (defArgs h_dict.st) (defBody h_dict.st) (defScope h_dict.st) .none kV12 dc12 pm12 an12 cd12 ct12), sl12⟩) (c12 : PySem.W.codeIn K cd12 "_law_dict" = true) (k12 : PySem.W.keepIn K (.ref f12) = true)
    {f13 : Addr} {od13 an13 : Option Addr} {sl13 : Array (Option Value)} {oc13 kV13 dc13 pm13 cd13 ct13 : Value}
    (a13 : PySem.W.nsIn K mainGlobals "is_sign" = some (some (.ref f13))) (l13 : K.lookup f13 = some ⟨oc13, od13, .func (PySem.W.fnOf "is_sign" "is_sign" (defArgs f_is_sign.st) (defBody f_is_sign.st) (defScope f_is_sign.st) .none kV13 dc13 pm13 an13 cd13 ct13), sl13⟩) (c13 : PySem.W.codeIn K cd13 "is_sign" = true) (k13 : PySem.W.keepIn K (.ref f13) = true)
    {f14 : Addr} {od14 an14 : Option Addr} {sl14 : Array (Option Value)} {oc14 kV14 dc14 pm14 cd14 ct14 : Value}
    (a14 : PySem.W.nsIn K mainGlobals "is_line" = some (some (.ref f14))) (l14 : K.lookup f14 = some ⟨oc14, od14, .func (PySem.W.fnOf "is_line" "is_line" (defArgs f_is_line.st) (defBody f_is_line.st) (defScope f_is_line.st) .none kV14 dc14 pm14 an14 cd14 ct14), sl14⟩) (c14 : PySem.W.codeIn K cd14 "is_line" = true) (k14 : PySem.W.keepIn K (.ref f14) = true)
    {f15 : Addr} {od15 an15 : Option Addr} {sl15 : Array (Option Value)} {oc15 kV15 dc15 pm15 cd15 ct15 : Value}
    (a15 : PySem.W.nsIn K mainGlobals "is_lines" = some (some (.ref f15))) (l15 : K.lookup f15 = some ⟨oc15, od15, .func (PySem.W.fnOf "is_lines" "is_lines" (defArgs f_is_lines.st) (defBody f_is_lines.st) (defScope f_is_lines.st) .none kV15 dc15 pm15 an15 cd15 ct15), sl15⟩) (c15 : PySem.W.codeIn K cd15 "is_lines" = true) (k15 : PySem.W.keepIn K (.ref f15) = true)
    {f16 : Addr} {od16 an16 : Option Addr} {sl16 : Array (Option Value)} {oc16 kV16 dc16 pm16 cd16 ct16 : Value}
    (a16 : PySem.W.nsIn K mainGlobals "is_file" = some (some (.ref f16))) (l16 : K.lookup f16 = some ⟨oc16, od16, .func (PySem.W.fnOf "is_file" "is_file" (defArgs p_file.st) (defBody p_file.st) (defScope p_file.st) .none kV16 dc16 pm16 an16 cd16 ct16), sl16⟩) (c16 : PySem.W.codeIn K cd16 "is_file" = true) (k16 : PySem.W.keepIn K (.ref f16) = true)
    {f17 : Addr} {od17 an17 : Option Addr} {sl17 : Array (Option Value)} {oc17 kV17 dc17 pm17 cd17 ct17 : Value}
    (a17 : PySem.W.nsIn K mainGlobals "folders_of" = some (some (.ref f17))) (l17 : K.lookup f17 = some ⟨oc17, od17, .func (PySem.W.fnOf "folders_of" "folders_of" (defArgs p_fols.st) (defBody p_fols.st) (defScope p_fols.st) .none kV17 dc17 pm17 an17 cd17 ct17), sl17⟩) (c17 : PySem.W.codeIn K cd17 "folders_of" = true) (k17 : PySem.W.keepIn K (.ref f17) = true)
    {f18 : Addr} {od18 an18 : Option Addr} {sl18 : Array (Option Value)} {oc18 kV18 dc18 pm18 cd18 ct18 : Value}
    (a18 : PySem.W.nsIn K mainGlobals "need_files" = some (some (.ref f18))) (l18 : K.lookup f18 = some ⟨oc18, od18, .func (PySem.W.fnOf "need_files" "need_files" (defArgs p_need.st) (defBody p_need.st) (defScope p_need.st) .none kV18 dc18 pm18 an18 cd18 ct18), sl18⟩) (c18 : PySem.W.codeIn K cd18 "need_files" = true) (k18 : PySem.W.keepIn K (.ref f18) = true)
    {f19 : Addr} {od19 an19 : Option Addr} {sl19 : Array (Option Value)} {oc19 kV19 dc19 pm19 cd19 ct19 : Value}
    (a19 : PySem.W.nsIn K mainGlobals "_law_needed" = some (some (.ref f19))) (l19 : K.lookup f19 = some ⟨oc19, od19, .func (PySem.W.fnOf "_law_needed" "_law_needed" (defArgs h_needed.st) (defBody h_needed.st) (defScope h_needed.st) .none kV19 dc19 pm19 an19 cd19 ct19), sl19⟩) (c19 : PySem.W.codeIn K cd19 "_law_needed" = true) (k19 : PySem.W.keepIn K (.ref f19) = true)
    {f20 : Addr} {od20 an20 : Option Addr} {sl20 : Array (Option Value)} {oc20 kV20 dc20 pm20 cd20 ct20 : Value}
    (a20 : PySem.W.nsIn K mainGlobals "_law_wrong_by" = some (some (.ref f20))) (l20 : K.lookup f20 = some ⟨oc20, od20, .func (PySem.W.fnOf "_law_wrong_by" "_law_wrong_by" (defArgs h_wrong.st) (defBody h_wrong.st) (defScope h_wrong.st) .none kV20 dc20 pm20 an20 cd20 ct20), sl20⟩) (c20 : PySem.W.codeIn K cd20 "_law_wrong_by" = true) (k20 : PySem.W.keepIn K (.ref f20) = true)
    {f21 : Addr} {od21 an21 : Option Addr} {sl21 : Array (Option Value)} {oc21 kV21 dc21 pm21 cd21 ct21 : Value}
    (a21 : PySem.W.nsIn K mainGlobals "law" = some (some (.ref f21))) (l21 : K.lookup f21 = some ⟨oc21, od21, .func (PySem.W.fnOf "law" "law" (defArgs g_law.st) (defBody g_law.st) (defScope g_law.st) .none kV21 dc21 pm21 an21 cd21 ct21), sl21⟩) (c21 : PySem.W.codeIn K cd21 "law" = true) (k21 : PySem.W.keepIn K (.ref f21) = true)
    (z_len : PySem.W.nsIn K mainGlobals "len" = some none)
    (z_all : PySem.W.nsIn K mainGlobals "all" = some none)
    (z_any : PySem.W.nsIn K mainGlobals "any" = some none)
    (z_ord : PySem.W.nsIn K mainGlobals "ord" = some none)
    (z_isinstance : PySem.W.nsIn K mainGlobals "isinstance" = some none)
    (z_str : PySem.W.nsIn K mainGlobals "str" = some none)
    (z_dict : PySem.W.nsIn K mainGlobals "dict" = some none)
    (z_tuple : PySem.W.nsIn K mainGlobals "tuple" = some none)
    (z_LONGEST_LINE : PySem.W.nsIn K mainGlobals "LONGEST_LINE" = some (some (.int 20 t1)))
    (z_LONGEST_LABEL : PySem.W.nsIn K mainGlobals "LONGEST_LABEL" = some (some (.int 8 t2)))
    (z_MOST_LABELS : PySem.W.nsIn K mainGlobals "MOST_LABELS" = some (some (.int 4 t3)))
    (z_PERCENT : PySem.W.nsIn K mainGlobals "PERCENT" = some (some (.int 37 t4)))
    (z_list : PySem.W.nsIn K mainGlobals "list" = some none)
    (z_range : PySem.W.nsIn K mainGlobals "range" = some none)
    (z_bool : PySem.W.nsIn K mainGlobals "bool" = some none)
    (z_max : PySem.W.nsIn K mainGlobals "max" = some none)
    (z_ValueError : PySem.W.nsIn K mainGlobals "ValueError" = some none)
    (z_BadPath : PySem.W.nsIn K mainGlobals "BadPath" = some (some (.ref aP)))
    (z_BadFiles : PySem.W.nsIn K mainGlobals "BadFiles" = some (some (.ref aF)))
    (z_AnnalsError : PySem.W.nsIn K mainGlobals "AnnalsError" = some (some (.ref aA)))
    (z_NoName : PySem.W.nsIn K mainGlobals "NoName" = some (some (.ref b1)))
    (z_NoThing : PySem.W.nsIn K mainGlobals "NoThing" = some (some (.ref b2)))
    (z_BadLine : PySem.W.nsIn K mainGlobals "BadLine" = some (some (.ref b3)))
    (z_NoBranch : PySem.W.nsIn K mainGlobals "NoBranch" = some (some (.ref b4)))
    (z_BadBranch : PySem.W.nsIn K mainGlobals "BadBranch" = some (some (.ref b5)))
    (z_Clash : PySem.W.nsIn K mainGlobals "Clash" = some (some (.ref b6)))
    (z_NoVersion : PySem.W.nsIn K mainGlobals "NoVersion" = some (some (.ref b7)))
    (z_NoFit : PySem.W.nsIn K mainGlobals "NoFit" = some (some (.ref b8)))
    (s_xBadPath : PySem.W.excIn K aP mroVE "ValueError.__new__" = true)
    (s_xBadFiles : PySem.W.excIn K aF mroVE "ValueError.__new__" = true)
    (s_exmP : PySem.W.exmOne K (.ref aP) (.ref aA) = some true)
    (s_exmF : PySem.W.exmOne K (.ref aF) (.ref aA) = some true)
    (s_ekP : PySem.W.ExcKit K aP)
    (s_ekF : PySem.W.ExcKit K aF)
    (s_p1 : PySem.W.kitOne K (.ref aP) (.ref b1) = some false)
    (s_p2 : PySem.W.kitOne K (.ref aP) (.ref b2) = some false)
    (s_p3 : PySem.W.kitOne K (.ref aP) (.ref b3) = some false)
    (s_p4 : PySem.W.kitOne K (.ref aP) (.ref b4) = some false)
    (s_p5 : PySem.W.kitOne K (.ref aP) (.ref b5) = some false)
    (s_p6 : PySem.W.kitOne K (.ref aP) (.ref b6) = some false)
    (s_p7 : PySem.W.kitOne K (.ref aP) (.ref b7) = some false)
    (s_p8 : PySem.W.kitOne K (.ref aP) (.ref b8) = some false)
    (s_pP : PySem.W.kitOne K (.ref aP) (.ref aP) = some true)
    (s_pF : PySem.W.kitOne K (.ref aP) (.ref aF) = some false)
    (s_pV : PySem.W.kitOne K (.ref aP) (.type "ValueError") = some true)
    (s_f1 : PySem.W.kitOne K (.ref aF) (.ref b1) = some false)
    (s_f2 : PySem.W.kitOne K (.ref aF) (.ref b2) = some false)
    (s_f3 : PySem.W.kitOne K (.ref aF) (.ref b3) = some false)
    (s_f4 : PySem.W.kitOne K (.ref aF) (.ref b4) = some false)
    (s_f5 : PySem.W.kitOne K (.ref aF) (.ref b5) = some false)
    (s_f6 : PySem.W.kitOne K (.ref aF) (.ref b6) = some false)
    (s_f7 : PySem.W.kitOne K (.ref aF) (.ref b7) = some false)
    (s_f8 : PySem.W.kitOne K (.ref aF) (.ref b8) = some false)
    (s_fP : PySem.W.kitOne K (.ref aF) (.ref aP) = some false)
    (s_fF : PySem.W.kitOne K (.ref aF) (.ref aF) = some true)
    (s_fV : PySem.W.kitOne K (.ref aF) (.type "ValueError") = some true)
    (s_kit : ∀ a ∈ kinds, ∀ b ∈ kinds, PySem.W.kitOne K (.type a) (.type b) = some (a == b || (a == "bool" && b == "int"))) :
    ∃ fd : FuncData, (∀ (s : Shared) (v : Value), BindsTo s fd ⟨[v], []⟩ [("_law_script", v)]) ∧ ∀ base : Heap, K.In base → base.Ns mainGlobals mg → FnOk l.prog w K mg base CX0 8 fa fd ["_law_script"] (spLaw K) := by
  have e := hfa.symm.trans (PySem.W.mg_of X G a21)
  cases e
  have T : Txt K mg t1 t2 t3 t4 aP aF aA b1 b2 b3 b4 b5 b6 b7 b8 := ⟨PySem.W.mg_none_of X G z_len, PySem.W.mg_none_of X G z_all, PySem.W.mg_none_of X G z_any, PySem.W.mg_none_of X G z_ord, PySem.W.mg_none_of X G z_isinstance, PySem.W.mg_none_of X G z_str, PySem.W.mg_none_of X G z_dict, PySem.W.mg_none_of X G z_tuple, PySem.W.mg_of X G z_LONGEST_LINE, PySem.W.mg_of X G z_LONGEST_LABEL, PySem.W.mg_of X G z_MOST_LABELS, PySem.W.mg_of X G z_PERCENT, PySem.W.mg_none_of X G z_list, PySem.W.mg_none_of X G z_range, PySem.W.mg_none_of X G z_bool, PySem.W.mg_none_of X G z_max, PySem.W.mg_none_of X G z_ValueError, PySem.W.mg_of X G z_BadPath, PySem.W.mg_of X G z_BadFiles, PySem.W.mg_of X G z_AnnalsError, PySem.W.mg_of X G z_NoName, PySem.W.mg_of X G z_NoThing, PySem.W.mg_of X G z_BadLine, PySem.W.mg_of X G z_NoBranch, PySem.W.mg_of X G z_BadBranch, PySem.W.mg_of X G z_Clash, PySem.W.mg_of X G z_NoVersion, PySem.W.mg_of X G z_NoFit, s_xBadPath, s_xBadFiles, s_exmP, s_exmF, s_ekP, s_ekF, s_p1, s_p2, s_p3, s_p4, s_p5, s_p6, s_p7, s_p8, s_pP, s_pF, s_pV, s_f1, s_f2, s_f3, s_f4, s_f5, s_f6, s_f7, s_f8, s_fP, s_fF, s_fV, s_kit⟩
  have F0 := fun_mk (st := h_cell.st) l0 c0 k0
  have b0 := F0.binds (ps := ["_law_script", "_law_k"]) fun _ _ _ _ _ _ us hl => match us, hl with | [_, _], _ => rfl
  have F1 := fun_mk (st := h_label.st) l1 c1 k1
  have b1 := F1.binds (ps := ["_law_cell"]) fun _ _ _ _ _ _ us hl => match us, hl with | [_], _ => rfl
  have F2 := fun_mk (st := h_bent.st) l2 c2 k2
  have b2 := F2.binds (ps := ["_law_text", "_law_cell"]) fun _ _ _ _ _ _ us hl => match us, hl with | [_, _], _ => rfl
  have F3 := fun_mk (st := h_good.st) l3 c3 k3
  have b3 := F3.binds (ps := ["_law_text"]) fun _ _ _ _ _ _ us hl => match us, hl with | [_], _ => rfl
  have F4 := fun_mk (st := g_label.st) l4 c4 k4
  have b4 := F4.binds (ps := ["thing"]) fun _ _ _ _ _ _ us hl => match us, hl with | [_], _ => rfl
  have F5 := fun_mk (st := p_path.st) l5 c5 k5
  have b5 := F5.binds (ps := ["thing"]) fun _ _ _ _ _ _ us hl => match us, hl with | [_], _ => rfl
  have F6 := fun_mk (st := p_labels.st) l6 c6 k6
  have b6 := F6.binds (ps := ["path"]) fun _ _ _ _ _ _ us hl => match us, hl with | [_], _ => rfl
  have F7 := fun_mk (st := h_kind.st) l7 c7 k7
  have b7 := F7.binds (ps := ["_law_error"]) fun _ _ _ _ _ _ us hl => match us, hl with | [_], _ => rfl
  have F8 := fun_mk (st := h_parted.st) l8 c8 k8
  have b8 := F8.binds (ps := ["_law_thing"]) fun _ _ _ _ _ _ us hl => match us, hl with | [_], _ => rfl
  have F9 := fun_mk (st := p_over.st) l9 c9 k9
  have b9 := F9.binds (ps := ["one", "other"]) fun _ _ _ _ _ _ us hl => match us, hl with | [_, _], _ => rfl
  have F10 := fun_mk (st := h_line.st) l10 c10 k10
  have b10 := F10.binds (ps := ["_law_cell"]) fun _ _ _ _ _ _ us hl => match us, hl with | [_], _ => rfl
  have F11 := fun_mk (st := h_rows.st) l11 c11 k11
  have b11 := F11.binds (ps := ["_law_cells"]) fun _ _ _ _ _ _ us hl => match us, hl with | [_], _ => rfl
  have F12 := fun_mk (st := h_dict.st) l12 c12 k12
  have b12 := F12.binds (ps := ["_law_rows"]) fun _ _ _ _ _ _ us hl => match us, hl with | [_], _ => rfl
  have F13 := fun_mk (st := f_is_sign.st) l13 c13 k13
  have b13 := F13.binds (ps := ["sign"]) fun _ _ _ _ _ _ us hl => match us, hl with | [_], _ => rfl
  have F14 := fun_mk (st := f_is_line.st) l14 c14 k14
  have b14 := F14.binds (ps := ["thing"]) fun _ _ _ _ _ _ us hl => match us, hl with | [_], _ => rfl
  have F15 := fun_mk (st := f_is_lines.st) l15 c15 k15
  have b15 := F15.binds (ps := ["thing"]) fun _ _ _ _ _ _ us hl => match us, hl with | [_], _ => rfl
  have F16 := fun_mk (st := p_file.st) l16 c16 k16
  have b16 := F16.binds (ps := ["path", "lines"]) fun _ _ _ _ _ _ us hl => match us, hl with | [_, _], _ => rfl
  have F17 := fun_mk (st := p_fols.st) l17 c17 k17
  have b17 := F17.binds (ps := ["path"]) fun _ _ _ _ _ _ us hl => match us, hl with | [_], _ => rfl
  have F18 := fun_mk (st := p_need.st) l18 c18 k18
  have b18 := F18.binds (ps := ["files"]) fun _ _ _ _ _ _ us hl => match us, hl with | [_], _ => rfl
  have F19 := fun_mk (st := h_needed.st) l19 c19 k19
  have b19 := F19.binds (ps := ["_law_files"]) fun _ _ _ _ _ _ us hl => match us, hl with | [_], _ => rfl
  have F20 := fun_mk (st := h_wrong.st) l20 c20 k20
  have b20 := F20.binds (ps := ["_law_rows", "_law_cell"]) fun _ _ _ _ _ _ us hl => match us, hl with | [_, _], _ => rfl
  have F21 := fun_mk (st := g_law.st) l21 c21 k21
  have b21 := F21.binds (ps := ["_law_script"]) fun _ _ _ _ _ _ us hl => match us, hl with | [_], _ => rfl
  refine ⟨PySem.W.fnOf "law" "law" (defArgs g_law.st) (defBody g_law.st) (defScope g_law.st) .none kV21 dc21 pm21 an21 cd21 ct21, fun s v => .of_eq rfl, fun base _ _ => ?_⟩
  have C0 := Cal.mk' F0 (h_cell.ok (P := l.prog) (w := w) (base := base) F0 T ) (PySem.W.mg_of X G a0) b0
  have C1 := Cal.mk' F1 (h_label.ok (P := l.prog) (w := w) (base := base) F1 T ) (PySem.W.mg_of X G a1) b1
  have C2 := Cal.mk' F2 (h_bent.ok (P := l.prog) (w := w) (base := base) F2 T ) (PySem.W.mg_of X G a2) b2
  have C3 := Cal.mk' F3 (h_good.ok (P := l.prog) (w := w) (base := base) F3 T ) (PySem.W.mg_of X G a3) b3
  have C4 := Cal.mk' F4 (g_label.ok (P := l.prog) (w := w) (base := base) F4 T ) (PySem.W.mg_of X G a4) b4
  have C5 := Cal.mk' F5 (p_path.ok (P := l.prog) (w := w) (base := base) F5 T C4) (PySem.W.mg_of X G a5) b5
  have C6 := CalX.mk' F6 (p_labels.ok (P := l.prog) (w := w) (base := base) F6 T C5) (PySem.W.mg_of X G a6) b6
  have C7 := CalH.mk' F7 (h_kind.ok (P := l.prog) (w := w) (base := base) F7 T ) (PySem.W.mg_of X G a7) b7
  have C8 := Cal.mk' F8 (h_parted.ok (P := l.prog) (w := w) (base := base) F8 T C6 C7) (PySem.W.mg_of X G a8) b8
  have C9 := Cal.mk' F9 (p_over.ok (P := l.prog) (w := w) (base := base) F9 T ) (PySem.W.mg_of X G a9) b9
  have C10 := Cal.mk' F10 (h_line.ok (P := l.prog) (w := w) (base := base) F10 T ) (PySem.W.mg_of X G a10) b10
  have C11 := Cal.mk' F11 (h_rows.ok (P := l.prog) (w := w) (base := base) F11 T C1 C10) (PySem.W.mg_of X G a11) b11
  have C12 := Cal.mk' F12 (h_dict.ok (P := l.prog) (w := w) (base := base) F12 T ) (PySem.W.mg_of X G a12) b12
  have C13 := Cal.mk' F13 (f_is_sign.ok (P := l.prog) (w := w) (base := base) F13 T ) (PySem.W.mg_of X G a13) b13
  have C14 := Cal.mk' F14 (f_is_line.ok (P := l.prog) (w := w) (base := base) F14 T C13) (PySem.W.mg_of X G a14) b14
  have C15 := Cal.mk' F15 (f_is_lines.ok (P := l.prog) (w := w) (base := base) F15 T C14) (PySem.W.mg_of X G a15) b15
  have C16 := Cal.mk' F16 (p_file.ok (P := l.prog) (w := w) (base := base) F16 T C5 C15) (PySem.W.mg_of X G a16) b16
  have C17 := Cal.mk' F17 (p_fols.ok (P := l.prog) (w := w) (base := base) F17 T ) (PySem.W.mg_of X G a17) b17
  have C18 := CalX.mk' F18 (p_need.ok (P := l.prog) (w := w) (base := base) F18 T C16 C17) (PySem.W.mg_of X G a18) b18
  have C19 := Cal.mk' F19 (h_needed.ok (P := l.prog) (w := w) (base := base) F19 T C18 C7) (PySem.W.mg_of X G a19) b19
  have C20 := Cal.mk' F20 (h_wrong.ok (P := l.prog) (w := w) (base := base) F20 T ) (PySem.W.mg_of X G a20) b20
  exact g_law.ok F21 T C0 C1 C2 C3 C5 C8 C9 C11 C12 C19 C20
theorem walk {l : PySem.W.OpenLaw} {q : Program} {loose : List Str} {XP : (Str → Option Value) → Heap → Prop} {YP : World → Heap → Prop} {d : DefRec} {K : Params → PySem.W.Frag} (hn : l.most = some 63) (hdf : d.params.defaults = [])
    (hY : ∀ (w : World) (h : Heap), YP w h → (K w.params).In h)
    (F : ∀ (w : World) (mg : Str → Option Value) (fa : Addr) (h : Heap), (K w.params).In h → h.Ns mainGlobals mg → mg d.name = some (.ref fa) →
      ∃ fd : FuncData, (∀ (s : Shared) (u : Value), BindsTo s fd ⟨[u], []⟩ [("_law_script", u)]) ∧ ∀ base : Heap, (K w.params).In base → base.Ns mainGlobals mg → FnOk l.prog w (K w.params) mg base CX0 8 fa fd ["_law_script"] (spLaw (K w.params))) :
    PySem.W.WalkO q loose XP YP l.row.toRowW d [] (fun f vs => PySem.call f vs) :=
  L2.walk_of (n := 63) (k := 8) (x := "_law_script") (CX := fun _ => CX0) (sp := fun w => spLaw (K w.params)) hn (by decide) hdf ⟨rfl, by decide, by decide⟩ hY F (fun _ _ a ns hl _ hS => ⟨a, ns, rfl, hS, fun _ => rfl⟩) fun _ _ _ _ _ z => z
end An05
open PySem PySem.W PyProof.Rows
set_option maxRecDepth 100000 in
set_option maxHeartbeats 0 in
theorem PySem.Challenge.cw_annals_k05_paths_holds : PySem.Challenge.rw_annals_k05_paths.Holds := by
  w_on; o_law; k_head; (case hw => w_witness2)
  k_fill
  refine An05.walk (l := PySem.Challenge.rw_annals_k05_paths) rfl rfl (fun w h Y => PySem.W.kIn_of Y) ?F
  case F =>
    intro w mg fa h KX G hmg
    refine' An05.all_mk KX G hmg ?a0 ?l0 ?c0 ?k0 ?a1 ?l1 ?c1 ?k1 ?a2 ?l2 ?c2 ?k2 ?a3 ?l3 ?c3 ?k3 ?a4 ?l4 ?c4 ?k4 ?a5 ?l5 ?c5 ?k5 ?a6 ?l6 ?c6 ?k6 ?a7 ?l7 ?c7 ?k7 ?a8 ?l8 ?c8 ?k8 ?a9 ?l9 ?c9 ?k9 ?a10 ?l10 ?c10 ?k10 ?a11 ?l11 ?c11 ?k11 ?a12 ?l12 ?c12 ?k12 ?a13 ?l13 ?c13 ?k13 ?a14 ?l14 ?c14 ?k14 ?a15 ?l15 ?c15 ?k15 ?a16 ?l16 ?c16 ?k16 ?a17 ?l17 ?c17 ?k17 ?a18 ?l18 ?c18 ?k18 ?a19 ?l19 ?c19 ?k19 ?a20 ?l20 ?c20 ?k20 ?a21 ?l21 ?c21 ?k21 ?z_len ?z_all ?z_any ?z_ord ?z_isinstance ?z_str ?z_dict ?z_tuple ?z_LONGEST_LINE ?z_LONGEST_LABEL ?z_MOST_LABELS ?z_PERCENT ?z_list ?z_range ?z_bool ?z_max ?z_ValueError ?z_BadPath ?z_BadFiles ?z_AnnalsError ?z_NoName ?z_NoThing ?z_BadLine ?z_NoBranch ?z_BadBranch ?z_Clash ?z_NoVersion ?z_NoFit ?s_xBadPath ?s_xBadFiles ?s_exmP ?s_exmF ?s_ekP ?s_ekF ?s_p1 ?s_p2 ?s_p3 ?s_p4 ?s_p5 ?s_p6 ?s_p7 ?s_p8 ?s_pP ?s_pF ?s_pV ?s_f1 ?s_f2 ?s_f3 ?s_f4 ?s_f5 ?s_f6 ?s_f7 ?s_f8 ?s_fP ?s_fF ?s_fV ?s_kit
    (case a0 => k_is); (case l0 => k_is); (case c0 => k_is); (case k0 => k_is); (case a1 => k_is); (case l1 => k_is); (case c1 => k_is); (case k1 => k_is)
    (case a2 => k_is); (case l2 => k_is); (case c2 => k_is); (case k2 => k_is); (case a3 => k_is); (case l3 => k_is); (case c3 => k_is); (case k3 => k_is)
    (case a4 => k_is); (case l4 => k_is); (case c4 => k_is); (case k4 => k_is); (case a5 => k_is); (case l5 => k_is); (case c5 => k_is); (case k5 => k_is)
    (case a6 => k_is); (case l6 => k_is); (case c6 => k_is); (case k6 => k_is); (case a7 => k_is); (case l7 => k_is); (case c7 => k_is); (case k7 => k_is)
    (case a8 => k_is); (case l8 => k_is); (case c8 => k_is); (case k8 => k_is); (case a9 => k_is); (case l9 => k_is); (case c9 => k_is); (case k9 => k_is)
    (case a10 => k_is); (case l10 => k_is); (case c10 => k_is); (case k10 => k_is); (case a11 => k_is); (case l11 => k_is); (case c11 => k_is); (case k11 => k_is)
    (case a12 => k_is); (case l12 => k_is); (case c12 => k_is); (case k12 => k_is); (case a13 => k_is); (case l13 => k_is); (case c13 => k_is); (case k13 => k_is)
    (case a14 => k_is); (case l14 => k_is); (case c14 => k_is); (case k14 => k_is); (case a15 => k_is); (case l15 => k_is); (case c15 => k_is); (case k15 => k_is)
    (case a16 => k_is); (case l16 => k_is); (case c16 => k_is); (case k16 => k_is); (case a17 => k_is); (case l17 => k_is); (case c17 => k_is); (case k17 => k_is)
    (case a18 => k_is); (case l18 => k_is); (case c18 => k_is); (case k18 => k_is); (case a19 => k_is); (case l19 => k_is); (case c19 => k_is); (case k19 => k_is)
    (case a20 => k_is); (case l20 => k_is); (case c20 => k_is); (case k20 => k_is); (case a21 => k_is); (case l21 => k_is); (case c21 => k_is); (case k21 => k_is)
    (case z_len => k_is); (case z_all => k_is); (case z_any => k_is); (case z_ord => k_is); (case z_isinstance => k_is); (case z_str => k_is); (case z_dict => k_is); (case z_tuple => k_is)
    (case z_LONGEST_LINE => k_is); (case z_LONGEST_LABEL => k_is); (case z_MOST_LABELS => k_is); (case z_PERCENT => k_is); (case z_list => k_is); (case z_range => k_is); (case z_bool => k_is); (case z_max => k_is)
    (case z_ValueError => k_is); (case z_BadPath => k_is); (case z_BadFiles => k_is); (case z_AnnalsError => k_is); (case z_NoName => k_is); (case z_NoThing => k_is); (case z_BadLine => k_is); (case z_NoBranch => k_is)
    (case z_BadBranch => k_is); (case z_Clash => k_is); (case z_NoVersion => k_is); (case z_NoFit => k_is); (case s_xBadPath => first | k_is | kernel_rfl | rfl | (with_unfolding_all rfl) | decide +kernel +revert); (case s_xBadFiles => first | k_is | kernel_rfl | rfl | (with_unfolding_all rfl) | decide +kernel +revert); (case s_exmP => first | k_is | kernel_rfl | rfl | (with_unfolding_all rfl) | decide +kernel +revert); (case s_exmF => first | k_is | kernel_rfl | rfl | (with_unfolding_all rfl) | decide +kernel +revert)
    (case s_ekP => (constructor <;> first | k_is | kernel_rfl | rfl | (with_unfolding_all rfl) | decide +kernel +revert)); (case s_ekF => (constructor <;> first | k_is | kernel_rfl | rfl | (with_unfolding_all rfl) | decide +kernel +revert)); (case s_p1 => first | k_is | kernel_rfl | rfl | (with_unfolding_all rfl) | decide +kernel +revert); (case s_p2 => first | k_is | kernel_rfl | rfl | (with_unfolding_all rfl) | decide +kernel +revert); (case s_p3 => first | k_is | kernel_rfl | rfl | (with_unfolding_all rfl) | decide +kernel +revert); (case s_p4 => first | k_is | kernel_rfl | rfl | (with_unfolding_all rfl) | decide +kernel +revert); (case s_p5 => first | k_is | kernel_rfl | rfl | (with_unfolding_all rfl) | decide +kernel +revert); (case s_p6 => first | k_is | kernel_rfl | rfl | (with_unfolding_all rfl) | decide +kernel +revert)
    (case s_p7 => first | k_is | kernel_rfl | rfl | (with_unfolding_all rfl) | decide +kernel +revert); (case s_p8 => first | k_is | kernel_rfl | rfl | (with_unfolding_all rfl) | decide +kernel +revert); (case s_pP => first | k_is | kernel_rfl | rfl | (with_unfolding_all rfl) | decide +kernel +revert); (case s_pF => first | k_is | kernel_rfl | rfl | (with_unfolding_all rfl) | decide +kernel +revert); (case s_pV => first | k_is | kernel_rfl | rfl | (with_unfolding_all rfl) | decide +kernel +revert); (case s_f1 => first | k_is | kernel_rfl | rfl | (with_unfolding_all rfl) | decide +kernel +revert); (case s_f2 => first | k_is | kernel_rfl | rfl | (with_unfolding_all rfl) | decide +kernel +revert); (case s_f3 => first | k_is | kernel_rfl | rfl | (with_unfolding_all rfl) | decide +kernel +revert)
    (case s_f4 => first | k_is | kernel_rfl | rfl | (with_unfolding_all rfl) | decide +kernel +revert); (case s_f5 => first | k_is | kernel_rfl | rfl | (with_unfolding_all rfl) | decide +kernel +revert); (case s_f6 => first | k_is | kernel_rfl | rfl | (with_unfolding_all rfl) | decide +kernel +revert); (case s_f7 => first | k_is | kernel_rfl | rfl | (with_unfolding_all rfl) | decide +kernel +revert); (case s_f8 => first | k_is | kernel_rfl | rfl | (with_unfolding_all rfl) | decide +kernel +revert); (case s_fP => first | k_is | kernel_rfl | rfl | (with_unfolding_all rfl) | decide +kernel +revert); (case s_fF => first | k_is | kernel_rfl | rfl | (with_unfolding_all rfl) | decide +kernel +revert); (case s_fV => first | k_is | kernel_rfl | rfl | (with_unfolding_all rfl) | decide +kernel +revert)
    (case s_kit => (intro a ha b hb; simp only [An05.kinds, List.mem_cons, List.not_mem_nil, or_false] at ha hb; rcases ha with rfl | rfl | rfl | rfl | rfl | rfl | rfl <;> rcases hb with rfl | rfl | rfl | rfl | rfl | rfl | rfl <;> rfl))
