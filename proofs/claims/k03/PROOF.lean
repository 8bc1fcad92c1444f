import PyProof.Rows.All
import PyProof.StationsW
import PyProof.Rows.Catch
import Wide.All
import OpenK.AllK
import Wide.FinOn
import Lean
import PyProof.EqAt
import PyProof.EqKinds
import PyProof.TupleCall
import KE.KTryMore
import PyProof.Rows.Range3
import KE.KRevIter
import KE.LcSums
import PyProof.FString5
import PyProof.StrBlock2
import PyProof.P3In
import PyProof.Rows.SumAny
import PyProof.TupleKey
import PyProof.DictRoadsH
import PyProof.Rows.SeqWords
import PyProof.StrLawsFrom
import PyProof.Rows.FStr
import PyProof.Rows.RegStrFacts
import KE.KIntText
import KE.KDictList
import PyProof.Rows.ReprOcc
import PyProof.DictIter
import PyProof.DictWalks
import PyProof.DictItems
import KE.KPairComp
import KE.KEqDict
import PyProof.Rows.MinMaxN
import PyProof.FactsAll.list_3
import PyProof.Rows.StrClose5
import PyProof.Rows.StrClip
import PyProof.FactsAll.dict_1
import PySem.Challenge.RW_annals_k03_names_on_a_shelf
set_option Elab.async false
set_option linter.all false
set_option maxRecDepth 100000
set_option maxHeartbeats 4000000
/-! an exception on its way through frames: its own fields, but for the trace, stay as they are -/
namespace L2
open PySem
section
variable {M : Model} {A : Around} {E : Value → Shared → Prop} {s : Shared} {base : Heap} {q : Array Value → Prop} {env : Env} {outer : List Env} {L x : Addr}
end
end L2

-- CHANGE: your row's module here, as the last of these rows
set_option Elab.async false
set_option linter.all false
set_option maxRecDepth 100000
/-! THE HAND LAYER, for ints, bools, texts, own classes, LISTS and tuples (index, slices, in, append, pop ..), calls, loops. Paste it whole ahead of your own text; what your proof does not reach may be deleted. -/
namespace L2
open PySem PySem.Spec PyProof.Rows

/-- a key: an int or a str -/
abbrev Key := Sum Int Str
def keyIs : Key → Value → Bool
  | .inl k, v => Value.isInt k v
  | .inr x, v => Value.isStrOf x v
def keyH (w : World) : Key → Int
  | .inl k => hashInt k
  | .inr x => hashStr w x
theorem keyIs_shape : ∀ {k : Key} {v : Value}, keyIs k v = true → (∃ i t, k = Sum.inl i ∧ v = Value.int i t) ∨ (∃ x t, k = Sum.inr x ∧ v = Value.str x t)
  | .inl i, v, h => by
    obtain ⟨t, e⟩ := Value.isInt_shape (k := i) (v := v) h
    exact .inl ⟨i, t, rfl, e⟩
  | .inr x, v, h => by
    obtain ⟨t, e⟩ := Value.isStrOf_shape (x := x) (v := v) h
    exact .inr ⟨x, t, rfl, e⟩
theorem keyIs_int (i : Int) (t : Tok) : keyIs (.inl i) (.int i t) = true := by simp [keyIs, Value.isInt]
theorem keyIs_str (x : Str) (t : Tok) : keyIs (.inr x) (.str x t) = true := by simp [keyIs, Value.isStrOf]
theorem key_ll (a b : Int) : decide ((Sum.inl a : Key) = Sum.inl b) = (a == b) := by
  by_cases e : a = b
  · subst e; simp
  · have h : ¬ (Sum.inl a : Key) = Sum.inl b := fun q => e (Sum.inl.inj q)
    rw [decide_eq_false h]
    exact (beq_eq_false_iff_ne.mpr e).symm
theorem key_rr (a b : Str) : decide ((Sum.inr a : Key) = Sum.inr b) = decide (a = b) := by
  by_cases e : a = b
  · subst e; simp
  · have h : ¬ (Sum.inr a : Key) = Sum.inr b := fun q => e (Sum.inr.inj q)
    rw [decide_eq_false h, decide_eq_false e]
theorem key_lr (a : Int) (b : Str) : decide ((Sum.inl a : Key) = Sum.inr b) = false := decide_eq_false (fun q => nomatch q)
theorem key_rl (a : Str) (b : Int) : decide ((Sum.inr a : Key) = Sum.inl b) = false := decide_eq_false (fun q => nomatch q)

def mixKind (prog : Program) (w : World) : PySem.KeyKind prog w Key where
  is := keyIs
  hash := keyH w
  inj := fun v a b ha hb => by
    rcases keyIs_shape ha with ⟨i, t, rfl, rfl⟩ | ⟨x, t, rfl, rfl⟩
    · rcases keyIs_shape hb with ⟨j, u, rfl, e⟩ | ⟨y, u, rfl, e⟩
      · injection e with e1 _; rw [e1]
      · exact nomatch e
    · rcases keyIs_shape hb with ⟨j, u, rfl, e⟩ | ⟨y, u, rfl, e⟩
      · exact nomatch e
      · injection e with e1 _; rw [e1]
  byValue := fun k v h => by
    rcases keyIs_shape h with ⟨i, t, rfl, rfl⟩ | ⟨x, t, rfl, rfl⟩ <;> rfl
  pyHash := fun hv h => by
    rcases keyIs_shape hv with ⟨i, t, rfl, rfl⟩ | ⟨x, t, rfl, rfl⟩
    · exact wpAny_pyHash_int h
    · exact wpAny_pyHash_str h
  eqBool := fun hu hv h => by
    rcases keyIs_shape hu with ⟨i, t, rfl, rfl⟩ | ⟨x, t, rfl, rfl⟩
    · rcases keyIs_shape hv with ⟨j, u, rfl, rfl⟩ | ⟨y, u, rfl, rfl⟩
      · rw [key_ll] at h; exact wpAny_eqBool_int h
      · rw [key_lr] at h; exact SeqAt.EqAt.int_str i t y u _ _ _ _ h
    · rcases keyIs_shape hv with ⟨j, u, rfl, rfl⟩ | ⟨y, u, rfl, rfl⟩
      · rw [key_rl] at h; exact SeqAt.EqAt.str_int x t j u _ _ _ _ h
      · rw [key_rr] at h; exact wpAny_eqBool_str h
  «strs» := fun k x t v h => by
    rcases keyIs_shape h with ⟨i, u, rfl, e⟩ | ⟨y, u, rfl, e⟩
    · exact nomatch e
    · injection e with e1 _
      subst e1
      cases v <;> rfl

theorem mixKind_int (prog : Program) (w : World) (i : Int) (t : Tok) : (mixKind prog w).is (.inl i) (.int i t) = true := keyIs_int i t
theorem mixKind_str (prog : Program) (w : World) (x : Str) (t : Tok) : (mixKind prog w).is (.inr x) (.str x t) = true := keyIs_str x t
end L2

namespace L2
open PySem PySem.Spec PyProof.Rows

/-- a value, without the heap -/
inductive V where
  | non | bl (b : Bool) | int (i : Int) | str (x : Str) | byt (b : Array UInt8) | flt (b : UInt64) | ref (a : Addr) | ty (n : String)
  deriving DecidableEq

def RelV : V → Value → Prop
  | .non, u => u = Value.none
  | .bl b, u => u = Value.bool b
  | .int i, u => ∃ t, u = Value.int i t
  | .str x, u => ∃ t, u = Value.str x t
  | .byt b, u => ∃ t, u = Value.bytes b t
  | .flt b, u => ∃ t, u = Value.float b t
  | .ref a, u => u = Value.ref a
  | .ty n, u => u = Value.type n

abbrev Vals : List V → List Value → Prop := Paired RelV
theorem Vals.length {xs : List V} {us : List Value} (r : Vals xs us) : xs.length = us.length := Paired.length r
theorem Vals.get : ∀ {xs : List V} {us : List Value} {i : Nat} {x : V}, Vals xs us → xs[i]? = some x → ∃ u, us[i]? = some u ∧ RelV x u
  | _, _, _, _, .nil, e => by simp at e
  | _, _, 0, _, .cons r _, e => by simp at e; subst e; exact ⟨_, rfl, r⟩
  | _, _, i + 1, x, .cons _ t, e => by
    obtain ⟨u, h1, h2⟩ := Vals.get (i := i) (x := x) t (by simpa using e)
    exact ⟨u, by simpa using h1, h2⟩
theorem Vals.set {x : V} {u : Value} (r : RelV x u) : ∀ {xs : List V} {us : List Value} (i : Nat), Vals xs us → Vals (xs.set i x) (us.set i u)
  | _, _, _, .nil => .nil
  | _, _, 0, .cons _ t => .cons r t
  | _, _, i + 1, .cons q t => .cons q (Vals.set r i t)
theorem Vals.append : ∀ {xs ys : List V} {us ws : List Value}, Vals xs us → Vals ys ws → Vals (xs ++ ys) (us ++ ws)
  | _, _, _, _, .nil, s => s
  | _, _, _, _, .cons r t, s => .cons r (Vals.append t s)
theorem Vals.take : ∀ {xs : List V} {us : List Value} (n : Nat), Vals xs us → Vals (xs.take n) (us.take n)
  | _, _, 0, _ => .nil
  | _, _, _ + 1, .nil => .nil
  | _, _, n + 1, .cons r t => .cons r (Vals.take n t)
theorem Vals.drop : ∀ {xs : List V} {us : List Value} (n : Nat), Vals xs us → Vals (xs.drop n) (us.drop n)
  | _, _, 0, r => r
  | _, _, _ + 1, .nil => .nil
  | _, _, n + 1, .cons _ t => Vals.drop n t

def RelO : Option V → Option Value → Prop
  | some v, some u => RelV v u
  | none, none => True
  | _, _ => False
def KV {κ : Type} : List (κ × V) → List (κ × Value) → Prop := Paired fun (p : κ × V) (q : κ × Value) => p.1 = q.1 ∧ RelV p.2 q.2

/-- a key of a dict (00_mix): an int or a text -/
def kV : Key → V
  | .inl i => .int i
  | .inr x => .str x

/-- what stands at a tracked address -/
inductive HO where
  /-- a list -/
  | lst (xs : List V)
  /-- a tuple (never changes) -/
  | tup (xs : List V)
  /-- a dict whose keys are ints and texts; one whose keys are tuples of ints and texts (the empty one is both) -/
  | dK (kvs : List (Key × V)) | dT (kvs : List (List Key × V))
  /-- a set of ints: its members, its size -/
  | set (S : Int → Bool) (n : Nat)
  /-- an instance of the class at C, its dict at dx, its attributes -/
  | ins (C dx : Addr) (fs : List (Str × V))
  /-- the dict of the instance at x -/
  | own (x : Addr)
  /-- the dict of an exception -/
  | xd (fs : List (Str × V))
  /-- a bound method, f of x -/
  | met (f x : Addr)
  /-- a range object lo, lo + 1, .. below hi -/
  | rng (lo hi : Int)
  /-- a thing that is known to the object (the script; a dict while a loop walks it): read, never written while it is so -/
  | frz (o : Obj) (u : HO)
  /-- a code object's table -/
  | tbl (ps : Array Value)
  /-- any other thing, by what is true of its one object (a def of one's own: SetO a S n := HO.ext fun h => ..) -/
  | ext (φ : Heap → Prop)

abbrev Hp := Addr → Option HO
def upd (H : Hp) (a : Addr) (o : HO) : Hp := fun b => if b = a then some o else H b
theorem upd_same {H : Hp} {a : Addr} {o : HO} : upd H a o a = some o := by unfold upd; rw [if_pos rfl]
theorem upd_ne {H : Hp} {a b : Addr} {o : HO} (h : b ≠ a) : upd H a o b = H b := by unfold upd; rw [if_neg h]
theorem upd_upd {H : Hp} {a : Addr} {o u : HO} : upd (upd H a o) a u = upd H a u := by
  funext b; unfold upd; split <;> rfl
/-- two objects of different content stand apart -/
theorem ne_of {H : Hp} {a b : Addr} {o u : HO} (h : H a = some o) (h' : H b = some u) (d : o ≠ u) : a ≠ b := by
  intro e; subst e; rw [h] at h'; exact d (Option.some.inj h')
theorem ne_of_none {H : Hp} {a b : Addr} {o : HO} (h : H a = some o) (h' : H b = none) : a ≠ b := by
  intro e; subst e; rw [h] at h'; cases h'

section
variable (P : Program) (w : World)
def ObjOk (H : Hp) (h : Heap) (a : Addr) : HO → Prop
  | .lst xs => xs.length ≤ sizeLine ∧ ∃ (its : List Value) (n : Nat), Vals xs its ∧ h.get? a = some { cls := .type "list", data := .seq its.toArray n }
  | .tup xs => xs.length ≤ sizeLine ∧ ∃ its : List Value, Vals xs its ∧ IsTup h a its.toArray
  | .dK kvs => kvs.length ≤ sizeLine ∧ (a == sysModules) = false ∧ ∃ vs, KV kvs vs ∧ h.DictOf (mixKind P w) a vs
  | .dT kvs => kvs.length ≤ sizeLine ∧ (a == sysModules) = false ∧ ∃ xs : List (List Key × Addr × Value),
      Paired (fun (p : List Key × V) (q : List Key × Addr × Value) => p.1 = q.1 ∧ H q.2.1 = some (.tup (p.1.map kV)) ∧ RelV p.2 q.2.2) kvs xs ∧
      ∃ o es ep, h.get? a = some o ∧ o.ExactDict ∧ o.data = .dict es ep ∧ es.toList = xs.map (entryOfKey (tupleKind (mixKind P w))) ∧ (xs.map (·.1)).Nodup
  | .set S n => h.SetOf (intKind P w) a S n
  | .ins C dx fs => H dx = some (.own a) ∧ fs.length ≤ 1000 ∧ dx ≠ a ∧ h.get? a = some (PySem.W.instObj C dx) ∧
      ∃ mA, h.Ns1 dx mA ∧ (∀ f, RelO (fs.lookup f) (mA f)) ∧ PySem.Within mA (fs.map (·.1))
  | .own _ => ∃ o, h.get? a = some o
  | .xd fs => ∃ mA, h.Ns1 a mA ∧ ∀ f, RelO (fs.lookup f) (mA f)
  | .rng lo hi => ∃ t u v, h.get? a = some { cls := .type "range", data := .fields #[.int lo t, .int hi u, .int 1 v] }
  | .frz o u => h.get? a = some o ∧ ObjOk H h a u
  | .tbl ps => h.get? a = some { cls := .none, data := .fields ps }
  | .met f x => h.get? a = some (PySem.W.methodObj (.ref f) (.ref x))
  | .ext φ => φ h ∧ (∃ o, h.get? a = some o) ∧ ∀ h1 h2 : Heap, φ h1 → (∀ o, h1.get? a = some o → h2.get? a = some o) → φ h2
/-- the abstract heap is held -/
def HOk (H : Hp) (h : Heap) : Prop := ∀ a o, H a = some o → ObjOk P w H h a o
end

section
variable {P : Program} {w : World} {H H' : Hp} {h h' : Heap} {a : Addr} {o : HO}
theorem ObjOk.lt (x : ObjOk P w H h a o) : a < h.objs.size := by
  cases o with
  | lst xs => obtain ⟨_, _, _, _, e⟩ := x; exact Heap.lt_size e
  | tup xs => obtain ⟨_, _, _, p⟩ := x; exact p.lt
  | dK kvs => obtain ⟨_, _, _, _, o, _, _, e, _⟩ := x; exact Heap.lt_size e
  | dT kvs => obtain ⟨_, _, _, _, o, _, _, e, _⟩ := x; exact Heap.lt_size e
  | set S n => obtain ⟨o, _, _, _, e, _⟩ := x; exact Heap.lt_size e
  | ins C dx fs => obtain ⟨_, _, _, e, _⟩ := x; exact Heap.lt_size e
  | own y => obtain ⟨_, e⟩ := x; exact Heap.lt_size e
  | xd fs => obtain ⟨_, ⟨_, _, _, e, _⟩, _⟩ := x; exact Heap.lt_size e
  | rng lo hi => obtain ⟨_, _, _, e⟩ := x; exact Heap.lt_size e
  | frz ob u => obtain ⟨e, _⟩ := x; exact Heap.lt_size e
  | tbl ps => exact Heap.lt_size (show h.get? a = some _ from x)
  | met f y => exact Heap.lt_size (show h.get? a = some _ from x)
  | ext φ => obtain ⟨_, ⟨_, e⟩, _⟩ := x; exact Heap.lt_size e
theorem Paired.mapP {α β : Type} {F G : α → β → Prop} : ∀ {l₁ : List α} {l₂ : List β}, Paired F l₁ l₂ → (∀ a b, F a b → G a b) → Paired G l₁ l₂
  | _, _, .nil, _ => .nil
  | _, _, .cons r t, f => .cons (f _ _ r) (Paired.mapP t f)
/-- what an object's description leans on: its own object, its own dict, the tuples -/
theorem ObjOk.stay (x : ObjOk P w H h a o) (k : ∀ b u, (b = a ∨ H b = some (.own a)) → h.get? b = some u → h'.get? b = some u)
    (ho : ∀ b, H b = some (.own a) → H' b = some (.own a)) (ht : ∀ b xs, H b = some (.tup xs) → H' b = some (.tup xs)) : ObjOk P w H' h' a o := by
  induction o with
  | lst xs => obtain ⟨z, its, n, r, e⟩ := x; exact ⟨z, its, n, r, k _ _ (.inl rfl) e⟩
  | tup xs => obtain ⟨z, its, r, ob, e, c⟩ := x; exact ⟨z, its, r, ob, k _ _ (.inl rfl) e, c⟩
  | dK kvs => obtain ⟨z, y, vs, r, ob, es, ep, e, c⟩ := x; exact ⟨z, y, vs, r, ob, es, ep, k _ _ (.inl rfl) e, c⟩
  | dT kvs =>
    obtain ⟨z, y, xs, r, ob, es, ep, e, c⟩ := x
    exact ⟨z, y, xs, Paired.mapP r fun p q z => ⟨z.1, ht _ _ z.2.1, z.2.2⟩, ob, es, ep, k _ _ (.inl rfl) e, c⟩
  | set S n => obtain ⟨ob, es, ep, t, e, c⟩ := x; exact ⟨ob, es, ep, t, k _ _ (.inl rfl) e, c⟩
  | ins C dx fs =>
    obtain ⟨d, z, ne, e, mA, ⟨od, es, ep, e2, c⟩, r⟩ := x
    exact ⟨ho _ d, z, ne, k _ _ (.inl rfl) e, mA, ⟨od, es, ep, k _ _ (.inr d) e2, c⟩, r⟩
  | own y => obtain ⟨ob, e⟩ := x; exact ⟨ob, k _ _ (.inl rfl) e⟩
  | xd fs => obtain ⟨mA, ⟨od, es, ep, e, c⟩, r⟩ := x; exact ⟨mA, ⟨od, es, ep, k _ _ (.inl rfl) e, c⟩, r⟩
  | rng lo hi => obtain ⟨t, u, v, e⟩ := x; exact ⟨t, u, v, k _ _ (.inl rfl) e⟩
  | frz ob u ih => obtain ⟨e, q⟩ := x; exact ⟨k _ _ (.inl rfl) e, ih q⟩
  | tbl ps =>
    have e : h.get? a = some { cls := .none, data := .fields ps } := x
    show h'.get? a = some { cls := .none, data := .fields ps }
    exact k a _ (.inl rfl) e
  | met f y =>
    have e : h.get? a = some (PySem.W.methodObj (.ref f) (.ref y)) := x
    show h'.get? a = some (PySem.W.methodObj (.ref f) (.ref y))
    exact k a _ (.inl rfl) e
  | ext φ => obtain ⟨p, ⟨o, e⟩, st⟩ := x; exact ⟨st _ _ p fun o q => k _ _ (.inl rfl) q, ⟨o, k _ _ (.inl rfl) e⟩, st⟩
theorem HOk.lt (x : HOk P w H h) (e : H a = some o) : a < h.objs.size := (x a o e).lt
theorem HOk.fresh (x : HOk P w H h) (e : h.objs.size ≤ a) : H a = none := by
  cases q : H a with
  | none => rfl
  | some u => exact absurd (Nat.lt_of_lt_of_le (x.lt q) e) (Nat.lt_irrefl _)
/-- every object of the heap is kept -/
theorem HOk.kept (x : HOk P w H h) (k : ∀ b u, h.get? b = some u → h'.get? b = some u) : HOk P w H h' := fun a o e =>
  (x a o e).stay (fun b u _ q => k b u q) (fun _ q => q) fun _ _ q => q
/-- a new object is laid and tracked -/
theorem HOk.laid (x : HOk P w H h) (k : ∀ b u, h.get? b = some u → h'.get? b = some u) (hp : h.objs.size ≤ a) (new : ObjOk P w (upd H a o) h' a o) : HOk P w (upd H a o) h' := fun b u e => by
  have hn := x.fresh hp
  by_cases hb : b = a
  · subst hb; rw [upd_same] at e; cases e; exact new
  · rw [upd_ne hb] at e
    exact (x b u e).stay (fun c v _ q => k c v q) (fun c q => by rw [upd_ne (ne_of_none q hn)]; exact q) fun c xs q => by rw [upd_ne (ne_of_none q hn)]; exact q
end

/-- what may be read as u: it is u, or a known u -/
def Rd (H : Hp) (a : Addr) (u : HO) : Prop := H a = some u ∨ ∃ o, H a = some (.frz o u)
theorem Rd.ok {P : Program} {w : World} {H : Hp} {h : Heap} {a : Addr} {u : HO} (r : Rd H a u) (x : HOk P w H h) : ObjOk P w H h a u := by
  rcases r with r | ⟨o, r⟩
  · exact x a u r
  · obtain ⟨_, q⟩ := x a _ r
    exact q
/-- what may be written -/
def Mut : Option HO → Prop
  | some (.lst _) => True
  | some (.dK _) => True
  | some (.dT _) => True
  | some (.set _ _) => True
  | some (.ins _ _ _) => True
  | some (.ext _) => True
  | _ => False
section
variable {P : Program} {w : World} {H : Hp} {h h' : Heap} {x e : Addr} {o' : HO}
/-- the object at e is changed: x itself, or the dict of the instance x -/
theorem HOk.write (ok : HOk P w H h) (mu : Mut (H x)) (he : e = x ∨ H e = some (.own x)) (k : ∀ b u, b ≠ e → h.get? b = some u → h'.get? b = some u) (heo : ∃ u, h'.get? e = some u)
    (new : ObjOk P w (upd H x o') h' x o') : HOk P w (upd H x o') h' := fun b u q => by
  have nown : ∀ c y, H c = some (.own y) → c ≠ x := fun c y r z => by subst z; rw [r] at mu; exact mu
  have ntup : ∀ c xs, H c = some (.tup xs) → c ≠ x := fun c xs r z => by subst z; rw [r] at mu; exact mu
  by_cases hb : b = x
  · subst hb; rw [upd_same] at q; cases q; exact new
  · rw [upd_ne hb] at q
    by_cases hbe : b = e
    · have q' : H b = some (.own x) := by
        rcases he with z | z
        · exact absurd (hbe.trans z) hb
        · rw [hbe]; exact z
      rw [q] at q'; cases q'
      obtain ⟨v, hv⟩ := heo
      exact ⟨v, by rw [hbe]; exact hv⟩
    · refine (ok b u q).stay (fun c v hc r => k c v ?_ r) (fun c r => by rw [upd_ne (nown c b r)]; exact r) fun c xs r => by rw [upd_ne (ntup c xs r)]; exact r
      rcases hc with rfl | hc
      · exact hbe
      · rintro rfl
        rcases he with z | z
        · exact nown c b hc z
        · rw [hc] at z; cases z; exact hb rfl
end

/-! ### kept unless tracked; of the frames at fs (the callers') the slots may change (an exception that passes writes there); of the records at ex (iterators) nothing is said -/
structure Un (fs ex : List Addr) (H H' : Hp) (h h' : Heap) : Prop where
  keep : ∀ b o, h.get? b = some o → H b = none → b ∉ fs → b ∉ ex → h'.get? b = some o
  slot : ∀ b o, h.get? b = some o → H b = none → b ∈ fs → b ∉ ex → ∃ sl, h'.get? b = some { o with slots := sl }
  free : ∀ b o, h.get? b = some o → H b = none → b ∉ ex → H' b = none
  there : ∀ b o, h.get? b = some o → b ∉ ex → ∃ o', h'.get? b = some o'
  tups : ∀ b xs, H b = some (.tup xs) → H' b = some (.tup xs)
  frzs : ∀ b o u, H b = some (.frz o u) → H' b = some (.frz o u)
  tbls : ∀ b ps, H b = some (.tbl ps) → ∃ more, H' b = some (.tbl (ps ++ more))
section
variable {fs fs' ex ex' : List Addr} {H H1 H2 : Hp} {h h1 h2 h' : Heap} {a x e : Addr} {o : HO}
theorem Un.any (u : Un fs ex H H1 h h1) {b : Addr} {ob : Obj} (q : h.get? b = some ob) (n : H b = none) (hx : b ∉ ex) : ∃ sl, h1.get? b = some { ob with slots := sl } := by
  by_cases hb : b ∈ fs
  · exact u.slot b ob q n hb hx
  · exact ⟨ob.slots, u.keep b ob q n hb hx⟩
theorem Un.kept (k : ∀ b u, h.get? b = some u → h'.get? b = some u) : Un fs ex H H h h' :=
  ⟨fun b ob q _ _ _ => k b ob q, fun b ob q _ _ _ => ⟨ob.slots, k b ob q⟩, fun _ _ _ n _ => n, fun b ob q _ => ⟨ob, k b ob q⟩, fun _ _ q => q, fun _ _ _ q => q, fun _ ps q => ⟨#[], by rw [q]; simp⟩⟩
theorem Un.refl : Un fs ex H H h h := Un.kept fun _ _ q => q
theorem Un.laid (k : ∀ b u, h.get? b = some u → h'.get? b = some u) (hp : h.objs.size ≤ a) (hn : H a = none) : Un fs ex H (upd H a o) h h' where
  keep := fun b u q _ _ _ => k b u q
  slot := fun b u q _ _ _ => ⟨u.slots, k b u q⟩
  free := fun b u q n _ => by rw [upd_ne (Nat.ne_of_lt (Nat.lt_of_lt_of_le (Heap.lt_size q) hp))]; exact n
  there := fun b u q _ => ⟨u, k b u q⟩
  tups := fun b xs q => by rw [upd_ne (ne_of_none q hn)]; exact q
  frzs := fun b u xs q => by rw [upd_ne (ne_of_none q hn)]; exact q
  tbls := fun b ps q => ⟨#[], by rw [upd_ne (ne_of_none q hn), q]; simp⟩
theorem Un.write (mu : Mut (H x)) (he : e = x ∨ H e = some (.own x)) (k : ∀ b u, b ≠ e → h.get? b = some u → h'.get? b = some u) (heo : ∃ u, h'.get? e = some u) : Un fs ex H (upd H x o) h h' := by
  have hx : ∀ b, H b = none → b ≠ x := fun b n z => by subst z; rw [n] at mu; exact mu
  have hb : ∀ b, H b = none → b ≠ e := fun b n z => by
    subst z
    rcases he with r | r
    · exact hx b n r
    · rw [n] at r; cases r
  have hm : ∀ b u, H b = some u → ¬ Mut (some u) → b ≠ x := fun b u q nm z => by subst z; rw [q] at mu; exact nm mu
  refine ⟨fun b u q n _ _ => k b u (hb b n) q, fun b u q n _ _ => ⟨u.slots, k b u (hb b n) q⟩, fun b u q n _ => by rw [upd_ne (hx b n)]; exact n, fun b u q _ => ?_,
    fun b xs q => by rw [upd_ne (hm b _ q fun z => z)]; exact q, fun b u xs q => by rw [upd_ne (hm b _ q fun z => z)]; exact q, fun b ps q => ⟨#[], by rw [upd_ne (hm b _ q fun z => z), q]; simp⟩⟩
  by_cases hbe : b = e
  · subst hbe; exact heo
  · exact ⟨u, k b u hbe q⟩
end

/-! ### the heap without what is tracked -/
def trk (h : Heap) (H : Hp) : List Addr := (List.range h.objs.size).filter fun a => (H a).isSome
def hidT (h : Heap) (H : Hp) : Heap := PySem.W.hideAll h (trk h H)
theorem hidT_size (h : Heap) (H : Hp) : (hidT h H).objs.size = h.objs.size := PySem.W.hideAll_size _ _
theorem hidT_get {h : Heap} {H : Hp} {b : Addr} {o : Obj} (e : h.get? b = some o) (n : H b = none) : (hidT h H).get? b = some o :=
  PySem.W.hideAll_get _ e fun hm => by
    have q : (H b).isSome = true := (List.mem_filter.mp hm).2
    rw [n] at q; simp at q
theorem of_hidT {h : Heap} {H : Hp} {b : Addr} {o : Obj} (e : (hidT h H).get? b = some o) : h.get? b = some o ∧ H b = none := by
  have e' : h.get? b = some o := PySem.W.of_hideAll (trk h H) e
  refine ⟨e', ?_⟩
  cases q : H b with
  | none => rfl
  | some x =>
    have hm : b ∈ trk h H := List.mem_filter.mpr ⟨List.mem_range.mpr (Heap.lt_size e'), by simp [q]⟩
    have z : (hidT h H).get? b = none := PySem.W.hideAll_none (trk h H) hm
    rw [z] at e; cases e

/-! ### OpenK's ledger, filled with every new object but one -/
end L2

namespace L2
open PySem PySem.Spec PyProof.Rows

/-- the module's facts, over the base: the heap at the law's entry without what is tracked there -/
structure Mod (K : PySem.W.Frag) (mg : Str → Option Value) (base : Heap) : Prop where
  kin : K.In base
  glob : base.Ns mainGlobals mg
  blt : ∃ mb, base.Ns builtinsNs mb ∧ ∀ x : Str, x ≠ "__name__" → mb x = bootBuiltins x
  nolimit : base.NoLimit

/-- the context: a def's body (or a comprehension's block) running. base: fixed through the whole law; s₀, H₀: the entry; outer: the frames whose slots others may change (a def's callers); stack: all frames that run;
   ex: iterators that were made ahead of the entry and are walked here (a comprehension's); fn: the names whose cells were made at the entry (a def: all; a comprehension's block: its own); calm: not within an except suite; pn: pins that every state bears; xe: what is wanted of an exception that leaves the code -/
structure Cx where
  prog : Program
  w : World
  K : PySem.W.Frag
  mg : Str → Option Value
  base : Heap
  A : Around
  N : List Str
  s₀ : Shared
  H₀ : Hp
  env : Env
  outer : List Env
  stack : List Env
  ex : List Addr
  fn : Str → Bool
  calm : Bool
  pn : List (Addr × Obj)
  xe : Value → Shared → Prop
/-- the callers' frames -/
def frs (l : List Env) : List Addr := l.filterMap (·.frame)
abbrev Cx.fs (X : Cx) : List Addr := frs X.outer

def Vis (sc : Scope) (x : Str) : Prop := sc.names.lookup x = some .local ∨ sc.names.lookup x = some .cell ∨ sc.names.lookup x = some .free
def Loc (sc : Scope) (x : Str) : Prop := sc.names.lookup x = some .local ∨ sc.names.lookup x = some .cell
def Look (env : Env) (h : Heap) (m : Str → Option Value) (x : Str) (u : Value) : Prop :=
  (env.kindOf x = some .local ∧ m x = some u) ∨ ((env.kindOf x = some .cell ∨ env.kindOf x = some .free) ∧ ∃ c, env.cells.lookup x = some c ∧ h.IsCell c (some u))

structure Cx.Ok (X : Cx) : Prop where
  mod : Mod X.K X.mg X.base
  kind : X.env.scope.kind = .function
  glob : X.env.globals = mainGlobals
  blt : X.env.builtins = builtinsNs
  above : X.s₀.heap.objs.size ≤ X.env.locals
  inj : ∀ x y c, X.env.cells.lookup x = some c → X.env.cells.lookup y = some c → x = y
  has : ∀ x, (X.env.kindOf x = some .cell ∨ X.env.kindOf x = some .free) → ∃ c, X.env.cells.lookup x = some c
  cab : ∀ x c, X.fn x = true → X.env.cells.lookup x = some c → X.s₀.heap.objs.size ≤ c
  hd : X.calm = true → X.A.handled = none
  frames : X.A.frames = some X.stack
  stk : X.stack = X.outer ∨ (X.stack = X.env :: X.outer ∧ X.env.frame = some X.env.locals)
  exf : ∀ b ∈ X.ex, b ≠ X.env.locals ∧ ∀ x c, X.env.cells.lookup x = some c → c ≠ b
  bs : ∀ b o, X.base.get? b = some o → X.s₀.heap.get? b = some o ∧ X.H₀ b = none
  bsz : X.base.objs.size ≤ X.s₀.heap.objs.size
  noex : ∀ b o, X.base.get? b = some o → b ∉ X.ex
  exfs : ∀ b ∈ X.ex, b ∉ X.fs
  funs : X.s₀.heap.FunFrames X.base X.outer
  frf : ∀ b ∈ X.fs, X.H₀ b = none

structure Inv (X : Cx) (pins : List (Addr × Obj)) (σ : List (Option V)) (H : Hp) (s : Shared) : Prop where
  ok : X.Ok
  os : s.os = X.s₀.os
  bare : AllBare s.gens
  base : Un X.fs X.ex X.H₀ H X.s₀.heap s.heap
  loc : ∃ m, s.heap.Ns X.env.locals m ∧ ∀ (i : Nat) (x : Str) (v : V), X.N[i]? = some x → σ[i]? = some (some v) → Vis X.env.scope x → ∃ u, RelV v u ∧ Look X.env s.heap m x u
  cell : ∀ x c, X.env.cells.lookup x = some c → ∃ v, s.heap.IsCell c v
  free : H X.env.locals = none
  freeC : ∀ x c, X.env.cells.lookup x = some c → H c = none
  pin : ∀ p ∈ X.pn ++ pins, s.heap.get? p.1 = some p.2 ∧ H p.1 = none ∧ p.1 ≠ X.env.locals ∧ p.1 ∉ X.fs ∧ ∀ v, p.2.data ≠ .cell v
  hok : HOk X.prog X.w H s.heap
  len : σ.length = X.N.length

section
variable {X : Cx} {pins : List (Addr × Obj)} {σ : List (Option V)} {H H' : Hp} {s : Shared} {h' : Heap}

theorem Cx.Ok.nofr (ok : X.Ok) {b : Addr} {o : Obj} (e : X.base.get? b = some o) : b ∉ X.fs := fun hb => by
  have := (ok.funs.mem hb).1
  rw [e] at this; cases this
theorem Inv.bs (I : Inv X pins σ H s) : ∀ b o, X.base.get? b = some o → s.heap.get? b = some o ∧ H b = none := fun b o e =>
  ⟨I.base.keep b o (I.ok.bs b o e).1 (I.ok.bs b o e).2 (I.ok.nofr e) (I.ok.noex b o e), I.base.free b o (I.ok.bs b o e).1 (I.ok.bs b o e).2 (I.ok.noex b o e)⟩
theorem Inv.bk (I : Inv X pins σ H s) : ∀ b o, X.base.get? b = some o → s.heap.get? b = some o := fun b o e => (I.bs b o e).1
theorem Inv.mod (I : Inv X pins σ H s) : Mod X.K X.mg X.base := I.ok.mod
theorem Inv.kIn (I : Inv X pins σ H s) : X.K.In s.heap := I.ok.mod.kin.keeps I.bk
theorem Inv.lt (I : Inv X pins σ H s) : X.env.locals < s.heap.objs.size := let ⟨_, hn, _⟩ := I.loc; hn.lt
theorem Inv.sz (I : Inv X pins σ H s) : X.s₀.heap.objs.size ≤ s.heap.objs.size := Nat.le_trans I.ok.above (Nat.le_of_lt I.lt)
theorem Inv.nofs (I : Inv X pins σ H s) {a : Addr} (h : s.heap.objs.size ≤ a) : a ∉ X.fs := fun hb => by
  obtain ⟨_, o, ho, _⟩ := I.ok.funs.mem hb
  exact absurd (Nat.lt_of_lt_of_le (Heap.lt_size ho) (Nat.le_trans I.sz h)) (Nat.lt_irrefl _)
theorem Inv.cne (I : Inv X pins σ H s) : ∀ x c, X.env.cells.lookup x = some c → c ≠ X.env.locals := fun x c e z => by
  obtain ⟨v, o, ho, hd⟩ := I.cell x c e
  obtain ⟨m, ⟨o', es, ep, ho', hd', _⟩, _⟩ := I.loc
  rw [z, ho'] at ho; cases ho; rw [hd'] at hd; cases hd
theorem Inv.funs (I : Inv X pins σ H s) : s.heap.FunFrames X.base X.outer := by
  have all : ∀ (l : List Env), (∀ b ∈ frs l, b ∈ X.fs) → X.s₀.heap.FunFrames X.base l → s.heap.FunFrames X.base l := by
    intro l
    induction l with
    | nil => intro _ _; trivial
    | cons env r ih =>
      intro hs hl
      obtain ⟨hk, ⟨L, o, hf, hn, ho, hd⟩, hr⟩ := hl
      have hL : L ∈ X.fs := hs L (by unfold frs; rw [List.filterMap_cons, hf]; exact List.mem_cons_self)
      obtain ⟨sl, e⟩ := I.base.slot L o ho (I.ok.frf L hL) hL fun z => I.ok.exfs L z hL
      exact ⟨hk, ⟨L, _, hf, hn, e, hd⟩, ih (fun b hb => hs b (by unfold frs; rw [List.filterMap_cons, hf]; exact List.mem_cons_of_mem _ hb)) hr⟩
  exact all X.outer (fun _ hb => hb) I.ok.funs

/-- the frames that run, for a call -/
theorem Inv.stack (I : Inv X pins σ H s) : s.heap.FunFrames X.base X.stack := by
  rcases I.ok.stk with e | ⟨e, hf⟩
  · rw [e]; exact I.funs
  · rw [e]
    obtain ⟨m, hn, _⟩ := I.loc
    refine .cons (by rw [I.ok.kind]; decide) hf hn ?_ I.funs
    exact Heap.get?_none_of_le (Nat.le_trans I.ok.bsz I.ok.above)
theorem Inv.stkSub (I : Inv X pins σ H s) : ∀ b ∈ frs X.stack, b ∈ X.env.locals :: X.fs := fun b hb => by
  rcases I.ok.stk with e | ⟨e, hf⟩
  · rw [e] at hb; exact List.mem_cons_of_mem _ hb
  · rw [e] at hb
    unfold frs at hb
    rw [List.filterMap_cons, hf] at hb
    exact hb
theorem Inv.stkFree (I : Inv X pins σ H s) : ∀ b ∈ frs X.stack, H b = none := fun b hb => by
  rcases List.mem_cons.mp (I.stkSub b hb) with e | hb
  · rw [e]; exact I.free
  · obtain ⟨_, o, ho, _⟩ := I.ok.funs.mem hb
    exact I.base.free b o ho (I.ok.frf b hb) fun z => I.ok.exfs b z hb

/-- THE STEP: the untracked objects but the frame and the records at ch are kept (the callers' frames up to slots), the frame's map is kept, the new abstract heap is held -/
theorem Inv.step {g' : Array GenState} {t' : Nat} {d' : Drawn} {ch : List Addr} (I : Inv X pins σ H s)
    (hch : ∀ b ∈ ch, (b ∈ X.ex ∨ X.s₀.heap.objs.size ≤ b) ∧ b ≠ X.env.locals ∧ (∀ x c, X.env.cells.lookup x = some c → c ≠ b) ∧ ∀ p ∈ X.pn ++ pins, p.1 ≠ b)
    (keep : ∀ b o, b ≠ X.env.locals → b ∉ X.fs → b ∉ ch → s.heap.get? b = some o → H b = none → h'.get? b = some o)
    (slot : ∀ b o, b ≠ X.env.locals → b ∈ X.fs → b ∉ ch → s.heap.get? b = some o → H b = none → ∃ sl, h'.get? b = some { o with slots := sl }) (free : ∀ b o, b ∉ ch → s.heap.get? b = some o → H b = none → H' b = none)
    (there : ∀ b o, b ∉ ch → s.heap.get? b = some o → ∃ o', h'.get? b = some o')
    (tups : ∀ b xs, H b = some (.tup xs) → H' b = some (.tup xs)) (frzs : ∀ b o u, H b = some (.frz o u) → H' b = some (.frz o u)) (tbls : ∀ b ps, H b = some (.tbl ps) → ∃ more, H' b = some (.tbl (ps ++ more)))
    (ns : ∀ m, s.heap.Ns X.env.locals m → h'.Ns X.env.locals m) (hok : HOk X.prog X.w H' h') (hg : AllBare g') :
    Inv X pins σ H' { s with heap := h', gens := g', drawn := d', toks := t' } := by
  have neL : ∀ b o, X.s₀.heap.get? b = some o → b ≠ X.env.locals := fun b o e => Nat.ne_of_lt (Nat.lt_of_lt_of_le (Heap.lt_size e) I.ok.above)
  have neC : ∀ b o, X.s₀.heap.get? b = some o → b ∉ X.ex → b ∉ ch := fun b o e hx hb => by
    rcases (hch b hb).1 with z | z
    · exact hx z
    · exact absurd (Nat.lt_of_lt_of_le (Heap.lt_size e) z) (Nat.lt_irrefl _)
  have cellK : ∀ x c, X.env.cells.lookup x = some c → ∀ v, s.heap.IsCell c v → h'.IsCell c v := fun x c e v ⟨o, ho, hd⟩ => by
    have nch : c ∉ ch := fun z => (hch c z).2.2.1 x c e rfl
    by_cases hc : c ∈ X.fs
    · obtain ⟨sl, q⟩ := slot c o (I.cne x c e) hc nch ho (I.freeC x c e)
      exact ⟨_, q, hd⟩
    · exact ⟨o, keep c o (I.cne x c e) hc nch ho (I.freeC x c e), hd⟩
  refine ⟨I.ok, I.os, hg, ⟨fun b o e n hb hx => ?_, fun b o e n hb hx => ?_, fun b o e n hx => ?_, fun b o e hx => ?_, fun b xs e => tups b xs (I.base.tups b xs e), fun b o xs e => frzs b o xs (I.base.frzs b o xs e), fun b ps e => ?_⟩, ?_, fun x c e => ?_, ?_, fun x c e => ?_, fun p hp => ?_, hok, I.len⟩
  · exact keep b o (neL b o e) hb (neC b o e hx) (I.base.keep b o e n hb hx) (I.base.free b o e n hx)
  · obtain ⟨sl, e1⟩ := I.base.slot b o e n hb hx
    obtain ⟨sl', e2⟩ := slot b _ (neL b o e) hb (neC b o e hx) e1 (I.base.free b o e n hx)
    exact ⟨sl', e2⟩
  · obtain ⟨o', e1⟩ := I.base.there b o e hx
    exact free b o' (neC b o e hx) e1 (I.base.free b o e n hx)
  · obtain ⟨o', e1⟩ := I.base.there b o e hx
    exact there b o' (neC b o e hx) e1
  · obtain ⟨m1, e1⟩ := I.base.tbls b ps e
    obtain ⟨m2, e2⟩ := tbls b _ e1
    exact ⟨m1 ++ m2, by rw [e2, Array.append_assoc]⟩
  · obtain ⟨m, hn, hl⟩ := I.loc
    refine ⟨m, ns m hn, fun i x v e1 e2 e3 => ?_⟩
    obtain ⟨u, r, l⟩ := hl i x v e1 e2 e3
    refine ⟨u, r, ?_⟩
    rcases l with l | ⟨k, c, e, z⟩
    · exact .inl l
    · exact .inr ⟨k, c, e, cellK x c e _ z⟩
  · obtain ⟨v, z⟩ := I.cell x c e
    exact ⟨v, cellK x c e v z⟩
  · obtain ⟨m, ⟨o, _, _, ho, _⟩, _⟩ := I.loc
    exact free _ o (fun z => (hch _ z).2.1 rfl) ho I.free
  · obtain ⟨v, o, ho, hd⟩ := I.cell x c e
    exact free c o (fun z => (hch c z).2.2.1 x c e rfl) ho (I.freeC x c e)
  · obtain ⟨e, n, ne, nf, d⟩ := I.pin p hp
    have nch : p.1 ∉ ch := fun z => (hch p.1 z).2.2.2 p hp rfl
    exact ⟨keep p.1 p.2 ne nf nch e n, free p.1 p.2 nch e n, ne, nf, d⟩
/-- .. where the frame's own object is kept too -/
theorem Inv.un {t' : Nat} (I : Inv X pins σ H s) (u : Un X.fs [] H H' s.heap h') (hok : HOk X.prog X.w H' h') : Inv X pins σ H' { s with heap := h', toks := t' } := by
  obtain ⟨m, ⟨o, es, ep, ho, r⟩, _⟩ := id I.loc
  obtain ⟨sl, hL⟩ := u.any ho I.free (by simp)
  exact I.step (g' := s.gens) (d' := s.drawn) (ch := []) (fun _ z => nomatch z) (fun b o _ hb _ e n => u.keep b o e n hb (by simp)) (fun b o _ hb _ e n => u.slot b o e n hb (by simp)) (fun b o _ e n => u.free b o e n (by simp)) (fun b o _ e => u.there b o e (by simp)) u.tups u.frzs u.tbls (fun m' hm => by
    obtain ⟨o', es', ep', ho', r'⟩ := hm
    rw [ho] at ho'; cases ho'
    exact ⟨_, es', ep', hL, r'⟩) hok I.bare
/-- behind a call (or a comprehension's block): the slots of this frame may have changed too, the records at ch may have turned -/
theorem Inv.call {g' : Array GenState} {t' : Nat} {d' : Drawn} {ch : List Addr} (I : Inv X pins σ H s) (u : Un (frs X.stack) ch H H' s.heap h') (hok : HOk X.prog X.w H' h') (hg : AllBare g')
    (hch : ∀ b ∈ ch, (b ∈ X.ex ∨ X.s₀.heap.objs.size ≤ b) ∧ b ≠ X.env.locals ∧ (∀ x c, X.env.cells.lookup x = some c → c ≠ b) ∧ ∀ p ∈ X.pn ++ pins, p.1 ≠ b) :
    Inv X pins σ H' { s with heap := h', gens := g', drawn := d', toks := t' } := by
  obtain ⟨m, ⟨o, es, ep, ho, r⟩, _⟩ := id I.loc
  obtain ⟨sl, hL⟩ := u.any ho I.free fun z => (hch _ z).2.1 rfl
  exact I.step (ch := ch) hch (fun b o hL hb hc e n => u.keep b o e n (fun z => (List.mem_cons.mp (I.stkSub b z)).elim hL hb) hc) (fun b o _ _ hc e n => u.any e n hc) (fun b o hc e n => u.free b o e n hc) (fun b o hc e => u.there b o e hc) u.tups u.frzs u.tbls (fun m' hm => by
    obtain ⟨o', es', ep', ho', r'⟩ := hm
    rw [ho] at ho'; cases ho'
    exact ⟨_, es', ep', hL, r'⟩) hok hg
/-- an untracked record of ours (an iterator) has turned -/
theorem Inv.turned {t' : Nat} {it : Addr} (I : Inv X pins σ H s) (k : ∀ b o, b ≠ it → s.heap.get? b = some o → h'.get? b = some o) (hn : H it = none) (hL : it ≠ X.env.locals)
    (h1 : it ∈ X.ex ∨ X.s₀.heap.objs.size ≤ it) (h2 : ∀ x c, X.env.cells.lookup x = some c → c ≠ it) (h3 : ∀ p ∈ X.pn ++ pins, p.1 ≠ it) : Inv X pins σ H { s with heap := h', toks := t' } := by
  have nit : ∀ b u, H b = some u → b ≠ it := fun b u e z => by rw [z, hn] at e; cases e
  refine I.step (g' := s.gens) (d' := s.drawn) (ch := [it]) (fun b hb => ?_) (fun b o _ _ hc e _ => k b o (fun z => hc (by simp [z])) e) (fun b o _ _ hc e _ => ⟨o.slots, k b o (fun z => hc (by simp [z])) e⟩) (fun _ _ _ _ n => n)
    (fun b o hc e => ⟨o, k b o (fun z => hc (by simp [z])) e⟩) (fun _ _ e => e) (fun _ _ _ e => e) (fun b ps e => ⟨#[], by rw [e]; simp⟩) (fun m hm => ?_) (fun b u e => ?_) I.bare
  · have e : b = it := by simpa using hb
    subst e
    exact ⟨h1, hL, h2, h3⟩
  · obtain ⟨o, es, ep, ho, r⟩ := hm
    exact ⟨o, es, ep, k _ o (Ne.symm hL) ho, r⟩
  · refine (I.hok b u e).stay (fun c v hc q => k c v ?_ q) (fun _ q => q) fun _ _ q => q
    rcases hc with z | z
    · rw [z]; exact nit b u e
    · exact nit c _ z
theorem Inv.tok (I : Inv X pins σ H s) (t : Nat) : Inv X pins σ H { s with toks := t } := I.un (h' := s.heap) (t' := t) Un.refl I.hok
/-- all objects kept -/
theorem Inv.kept {t' : Nat} (I : Inv X pins σ H s) (k : ∀ b u, s.heap.get? b = some u → h'.get? b = some u) : Inv X pins σ H { s with heap := h', toks := t' } := I.un (Un.kept k) (I.hok.kept k)
/-- a new object laid and tracked -/
theorem Inv.laid {a : Addr} {o : HO} {t' : Nat} (I : Inv X pins σ H s) (k : ∀ b u, s.heap.get? b = some u → h'.get? b = some u) (hp : s.heap.objs.size ≤ a) (new : ObjOk X.prog X.w (upd H a o) h' a o) :
    Inv X pins σ (upd H a o) { s with heap := h', toks := t' } := I.un (Un.laid k hp (I.hok.fresh hp)) (I.hok.laid k hp new)
/-- an object written -/
theorem Inv.write {x e : Addr} {o : HO} {t' : Nat} (I : Inv X pins σ H s) (mu : Mut (H x)) (he : e = x ∨ H e = some (.own x)) (k : ∀ b u, b ≠ e → s.heap.get? b = some u → h'.get? b = some u) (heo : ∃ u, h'.get? e = some u)
    (new : ObjOk X.prog X.w (upd H x o) h' x o) : Inv X pins σ (upd H x o) { s with heap := h', toks := t' } := I.un (Un.write mu he k heo) (I.hok.write mu he k heo new)
theorem Inv.pins_of {pins' : List (Addr × Obj)} (I : Inv X pins σ H s) (h : ∀ p ∈ pins', s.heap.get? p.1 = some p.2 ∧ H p.1 = none ∧ p.1 ≠ X.env.locals ∧ p.1 ∉ X.fs ∧ ∀ v, p.2.data ≠ .cell v) : Inv X pins' σ H s :=
  ⟨I.ok, I.os, I.bare, I.base, I.loc, I.cell, I.free, I.freeC, fun p hp => (List.mem_append.mp hp).elim (fun z => I.pin p (List.mem_append_left _ z)) (h p), I.hok, I.len⟩

theorem nodup_ix {N : List Str} (hN : N.Nodup) {i j : Nat} {x : Str} (a : N[i]? = some x) (b : N[j]? = some x) : i = j := by
  obtain ⟨h1, e1⟩ := List.getElem?_eq_some_iff.mp a
  obtain ⟨h2, e2⟩ := List.getElem?_eq_some_iff.mp b
  exact (List.getElem_inj hN).mp (e1.trans e2.symm)

/-- a name is stored; what changed -/
theorem store_ok2 {M : Model} {A : Around} {E : Value → Shared → Prop} {i : Nat} {x : Str} {v : V} {u : Value} {Q : Unit → Shared → Prop} (I : Inv X pins σ H s) (hN : X.N.Nodup) (hi : X.N[i]? = some x) (hx : Loc X.env.scope x) (r : RelV v u)
    (h : ∀ s', Inv X pins (σ.set i (some v)) H s' → (∃ a, Heap.SameBut a s.heap s'.heap ∧ (a = X.env.locals ∨ X.env.cells.lookup x = some a)) → Q () s') (hf : X.fn x = true ∨ X.env.scope.names.lookup x = some .local := by first | exact .inl rfl | exact .inr rfl | assumption) : wpAny M A (storeName X.env x u) Q E s := by
  obtain ⟨m, hn, hl⟩ := id I.loc
  have hcls : (X.env.scope.kind == .class || (X.env.scope.kind == .module && X.env.locals != X.env.globals)) = false := by rw [I.ok.kind]; rfl
  have hiσ : i < σ.length := by rw [I.len]; exact (List.getElem?_eq_some_iff.mp hi).1
  have cne := I.cne
  have tracked : ∀ {a : Addr} {h' : Heap}, (∃ o, s.heap.get? a = some o ∧ H a = none) → Heap.SameBut a s.heap h' → HOk X.prog X.w H h' := fun {a h'} ha hs b ob e => by
    obtain ⟨_, _, hfree⟩ := ha
    refine (I.hok b ob e).stay (fun c w' hc q => (hs.2 c ?_).trans q) (fun _ q => q) fun _ _ q => q
    rintro rfl
    rcases hc with rfl | hc
    · rw [hfree] at e; cases e
    · rw [hfree] at hc; cases hc
  rcases hx with hk | hk
  · refine wpAny_storeName_local hk hn (fun h' hn' hs => ?_) hcls
    obtain ⟨oL, _, _, hoL, _⟩ := id hn
    refine h _ ⟨I.ok, I.os, I.bare, ⟨fun b o e n hb hx => ?_, fun b o e n hb hx => ?_, I.base.free, fun b o e hx => ?_, I.base.tups, I.base.frzs, I.base.tbls⟩, ⟨_, hn', fun j y v' e1 e2 e3 => ?_⟩, fun y c e => ?_, I.free, I.freeC, fun p hp => ?_, tracked ⟨oL, hoL, I.free⟩ hs, by simpa using I.len⟩ ⟨_, hs, .inl rfl⟩
    · exact (hs.2 b (Nat.ne_of_lt (Nat.lt_of_lt_of_le (Heap.lt_size e) I.ok.above))).trans (I.base.keep b o e n hb hx)
    · obtain ⟨sl, e1⟩ := I.base.slot b o e n hb hx
      exact ⟨sl, (hs.2 b (Nat.ne_of_lt (Nat.lt_of_lt_of_le (Heap.lt_size e) I.ok.above))).trans e1⟩
    · obtain ⟨o', e1⟩ := I.base.there b o e hx
      exact ⟨o', (hs.2 b (Nat.ne_of_lt (Nat.lt_of_lt_of_le (Heap.lt_size e) I.ok.above))).trans e1⟩
    · by_cases hj : j = i
      · subst hj
        rw [hi] at e1; cases e1
        rw [List.getElem?_set_self hiσ] at e2
        cases e2
        exact ⟨u, r, .inl ⟨hk, by simp⟩⟩
      · rw [List.getElem?_set_ne (Ne.symm hj)] at e2
        obtain ⟨u', r', q⟩ := hl j y v' e1 e2 e3
        refine ⟨u', r', ?_⟩
        rcases q with ⟨k, e⟩ | ⟨k, c, e, z⟩
        · refine .inl ⟨k, ?_⟩
          have : y ≠ x := fun e => hj (nodup_ix hN e1 (e ▸ hi))
          simp [this, e]
        · exact .inr ⟨k, c, e, z.sameBut hs (cne y c e)⟩
    · obtain ⟨w', z⟩ := I.cell y c e
      exact ⟨w', z.sameBut hs (cne y c e)⟩
    · obtain ⟨e, n, ne, nf, d⟩ := I.pin p hp
      exact ⟨(hs.2 p.1 ne).trans e, n, ne, nf, d⟩
  · have hfn : X.fn x = true := by
      rcases hf with z | z
      · exact z
      · rw [z] at hk; cases hk
    obtain ⟨c, hc⟩ := I.ok.has x (.inl hk)
    obtain ⟨w', z⟩ := I.cell x c hc
    refine wpAny_storeName_cell I.ok.kind hk hc z (fun h' hc' hs => ?_)
    obtain ⟨oc, hoc, hocd⟩ := id z
    refine h { s with heap := h' } ⟨I.ok, I.os, I.bare, ⟨fun b o e n hb hx => ?_, fun b o e n hb hx => ?_, I.base.free, fun b o e hx => ?_, I.base.tups, I.base.frzs, I.base.tbls⟩, ⟨m, hn.sameBut hs (Ne.symm (cne x c hc)), fun j y v' e1 e2 e3 => ?_⟩, fun y c' e => ?_, I.free, I.freeC, fun p hp => ?_, tracked ⟨oc, hoc, I.freeC x c hc⟩ hs, by simpa using I.len⟩ ⟨c, hs, .inr hc⟩
    · exact (hs.2 b (Nat.ne_of_lt (Nat.lt_of_lt_of_le (Heap.lt_size e) (I.ok.cab x c hfn hc)))).trans (I.base.keep b o e n hb hx)
    · obtain ⟨sl, e1⟩ := I.base.slot b o e n hb hx
      exact ⟨sl, (hs.2 b (Nat.ne_of_lt (Nat.lt_of_lt_of_le (Heap.lt_size e) (I.ok.cab x c hfn hc)))).trans e1⟩
    · obtain ⟨o', e1⟩ := I.base.there b o e hx
      exact ⟨o', (hs.2 b (Nat.ne_of_lt (Nat.lt_of_lt_of_le (Heap.lt_size e) (I.ok.cab x c hfn hc)))).trans e1⟩
    · by_cases hj : j = i
      · subst hj
        rw [hi] at e1; cases e1
        rw [List.getElem?_set_self hiσ] at e2
        cases e2
        exact ⟨u, r, .inr ⟨.inl hk, c, hc, hc'⟩⟩
      · rw [List.getElem?_set_ne (Ne.symm hj)] at e2
        obtain ⟨u', r', q⟩ := hl j y v' e1 e2 e3
        refine ⟨u', r', ?_⟩
        rcases q with q | ⟨k, c', e, z'⟩
        · exact .inl q
        · refine .inr ⟨k, c', e, z'.sameBut hs ?_⟩
          rintro rfl
          exact hj (nodup_ix hN e1 (I.ok.inj _ _ _ e hc ▸ hi))
    · by_cases hcc : c' = c
      · subst hcc; exact ⟨_, hc'⟩
      · obtain ⟨w2, z2⟩ := I.cell y c' e
        exact ⟨w2, z2.sameBut hs hcc⟩
    · obtain ⟨e, n, ne, nf, d⟩ := I.pin p hp
      refine ⟨(hs.2 p.1 ?_).trans e, n, ne, nf, d⟩
      intro q
      rw [q, hoc] at e
      have q' : oc = p.2 := Option.some.inj e
      exact d w' (by rw [← q']; exact hocd)
theorem store_ok {M : Model} {A : Around} {E : Value → Shared → Prop} {i : Nat} {x : Str} {v : V} {u : Value} {Q : Unit → Shared → Prop} (I : Inv X pins σ H s) (hN : X.N.Nodup) (hi : X.N[i]? = some x) (hx : Loc X.env.scope x) (r : RelV v u)
    (h : ∀ s', Inv X pins (σ.set i (some v)) H s' → Q () s') (hf : X.fn x = true ∨ X.env.scope.names.lookup x = some .local := by first | exact .inl rfl | exact .inr rfl | assumption) : wpAny M A (storeName X.env x u) Q E s :=
  store_ok2 I hN hi hx r (fun s' I' _ => h s' I') hf
/-- behind a call or a block, the state as it is -/
theorem Inv.call' {s' : Shared} {ch : List Addr} (I : Inv X pins σ H s) (ho : s'.os = s.os) (u : Un (frs X.stack) ch H H' s.heap s'.heap) (hok : HOk X.prog X.w H' s'.heap) (hg : AllBare s'.gens)
    (hch : ∀ b ∈ ch, (b ∈ X.ex ∨ X.s₀.heap.objs.size ≤ b) ∧ b ≠ X.env.locals ∧ (∀ x c, X.env.cells.lookup x = some c → c ≠ b) ∧ ∀ p ∈ X.pn ++ pins, p.1 ≠ b) : Inv X pins σ H' s' := by
  obtain ⟨h', g', d', t', o'⟩ := s'
  have e : o' = s.os := ho
  subst e
  exact I.call (g' := g') (t' := t') (d' := d') u hok hg hch
end

/-! ### the judgements -/
/-- an exception: its class, its own dict's address (where it has one), the abstract heap behind it -/
abbrev XK := Value → Option Addr → Hp → Prop
abbrev St := List (Option V)
abbrev VK := V → Hp → Prop
/-- an expression's reading; a test's; an argument list's -/
abbrev TE := St → Hp → VK → Prop
abbrev TT := St → Hp → (Bool → Hp → Prop) → Prop
abbrev TA := St → Hp → (List V → Hp → Prop) → Prop
/-- what is wanted behind a statement -/
structure Ends where
  nx : St → Hp → Prop
  rt : VK
  bk : St → Hp → Prop := fun _ _ => False
  ct : St → Hp → Prop := fun _ _ => False
abbrev TS := Ends → St → Hp → Prop

def EP (X : Cx) (pins : List (Addr × Obj)) (σ : St) (Q : VK) (u : Value) (s' : Shared) : Prop := ∃ v H', Inv X pins σ H' s' ∧ RelV v u ∧ Q v H'
def TP (X : Cx) (pins : List (Addr × Obj)) (σ : St) (Q : Bool → Hp → Prop) (b : Bool) (s' : Shared) : Prop := ∃ H', Inv X pins σ H' s' ∧ Q b H'
def AP (X : Cx) (pins : List (Addr × Obj)) (σ : St) (Q : List V → Hp → Prop) (us : List Value) (s' : Shared) : Prop := ∃ vs H', Inv X pins σ H' s' ∧ Vals vs us ∧ Q vs H'
def SP (X : Cx) (pins : List (Addr × Obj)) (D : Ends) (f : Flow) (s' : Shared) : Prop :=
  match f with
  | .next => ∃ σ' H', Inv X pins σ' H' s' ∧ D.nx σ' H'
  | .brk => ∃ σ' H', Inv X pins σ' H' s' ∧ D.bk σ' H'
  | .cont => ∃ σ' H', Inv X pins σ' H' s' ∧ D.ct σ' H'
  | .ret u => ∃ v σ' H', Inv X pins σ' H' s' ∧ RelV v u ∧ D.rt v H'

def PE (X : Cx) (e : Expr) (t : TE) : Prop :=
  ∀ (pins : List (Addr × Obj)) (s : Shared) (σ : St) (H : Hp) (Q : VK), Inv X pins σ H s → t σ H Q → wpAny (model X.prog X.w) X.A (eval e X.env) (EP X pins σ Q) X.xe s
def PT (X : Cx) (e : Expr) (t : TT) : Prop :=
  ∀ (pins : List (Addr × Obj)) (s : Shared) (σ : St) (H : Hp) (Q : Bool → Hp → Prop), Inv X pins σ H s → t σ H Q → wpAny (model X.prog X.w) X.A (isTrue e X.env (eval e X.env)) (TP X pins σ Q) X.xe s
/-- a test whatever its 'whole' is (and, or) -/
def PW (X : Cx) (e : Expr) (t : TT) : Prop :=
  ∀ (whole : Sem Value) (pins : List (Addr × Obj)) (s : Shared) (σ : St) (H : Hp) (Q : Bool → Hp → Prop), Inv X pins σ H s → t σ H Q → wpAny (model X.prog X.w) X.A (isTrue e X.env whole) (TP X pins σ Q) X.xe s
theorem PW.pt {X : Cx} {e : Expr} {t : TT} (h : PW X e t) : PT X e t := h _
/-- an argument list (no star), from the left -/
def PA (X : Cx) (es : List Expr) (t : TA) : Prop :=
  ∀ (pos : Pos) (pins : List (Addr × Obj)) (s : Shared) (σ : St) (H : Hp) (Q : List V → Hp → Prop), Inv X pins σ H s → t σ H Q → wpAny (model X.prog X.w) X.A (spliced (backTo pos (starEach es X.env))) (AP X pins σ Q) X.xe s
def PS (X : Cx) (st : Stmt) (t : TS) : Prop :=
  ∀ (pins : List (Addr × Obj)) (s : Shared) (σ : St) (H : Hp) (D : Ends), Inv X pins σ H s → t D σ H → wpAny (model X.prog X.w) X.A (exec st X.env) (SP X pins D) X.xe s
def PSs (X : Cx) (st : List Stmt) (t : TS) : Prop :=
  ∀ (pins : List (Addr × Obj)) (s : Shared) (σ : St) (H : Hp) (D : Ends), Inv X pins σ H s → t D σ H → wpAny (model X.prog X.w) X.A (execs st X.env) (SP X pins D) X.xe s
/-- weaken the end -/
theorem thn {α : Type} {t : Sem α} {Q Q' : α → Shared → Prop} {M : Model} {A : Around} {E : Value → Shared → Prop} {s : Shared} (h : wpAny M A t Q E s) (hQ : ∀ a s, Q a s → Q' a s) : wpAny M A t Q' E s := wpAny_mono h hQ fun _ _ x => x
end L2

namespace L2
open PySem PySem.Spec PyProof.Rows
section
variable {X : Cx}


/-! ### names and constants -/
def tVar (i : Nat) : TE := fun σ H Q => ∃ v, σ[i]? = some (some v) ∧ Q v H
def tC (v : V) : TE := fun _ H Q => Q v H
theorem pe_var {i : Nat} {x : Str} {pos : Pos} (hN : X.N[i]? = some x) (hv : Vis X.env.scope x) (hd : (x == ("__debug__" : Str)) = false := by decide) (hcd : (x == ("__classdict__" : Str)) = false := by decide) : PE X (.Name x pos) (tVar i) := by
  intro pins s σ H Q I h
  obtain ⟨v, e, h⟩ := h
  obtain ⟨m, hn, hl⟩ := I.loc
  obtain ⟨u, r, l⟩ := hl i x v hN e hv
  have fin : EP X pins σ Q u s := ⟨v, H, I, r, h⟩
  rcases l with ⟨hk, hm⟩ | ⟨hk, c, hc, hcell⟩
  · exact wpAny_Name (wpAny_loadName_local I.ok.kind hk hn hm fin) hd
  · rcases hk with hk | hk
    · exact wpAny_Name (wpAny_loadName_cell I.ok.kind hk hc hcell fin) hd
    · exact wpAny_Name (wpAny_loadName_free I.ok.kind hk hc hcell fin hcd) hd
theorem pe_int {i j pos} : PE X (.Constant (.int i) j pos) (tC (.int i)) := fun _ _ _ H _ I h => wpAny_Constant_int ⟨.int i, H, I.tok _, ⟨_, rfl⟩, h⟩
theorem pe_bl {b j pos} : PE X (.Constant (.bool b) j pos) (tC (.bl b)) := fun _ _ _ H _ I h => Constant_bool ⟨.bl b, H, I, rfl, h⟩
theorem pe_non {j pos} : PE X (.Constant .none j pos) (tC .non) := fun _ _ _ H _ I h => Constant_none ⟨.non, H, I, rfl, h⟩
theorem pe_str {x j pos} : PE X (.Constant (.str x) j pos) (tC (.str x)) := fun _ _ _ H _ I h => Calls.Constant_str ⟨.str x, H, I.tok _, ⟨_, rfl⟩, h⟩

/-- a global name of the def -/
def Gl (X : Cx) (x : Str) : Prop := X.env.kindOf x = some .globalImplicit
theorem ld_glob {E : Value → Shared → Prop} {pins : List (Addr × Obj)} {s : Shared} {σ : St} {H : Hp} {x : Str} {u : Value} {pos : Pos} {Q : Value → Shared → Prop} (I : Inv X pins σ H s) (hg : Gl X x) (hm : X.mg x = some u) (h : Q u s)
    (hd : (x == ("__debug__" : Str)) = false := by decide) : wpAny (model X.prog X.w) X.A (eval (.Name x pos) X.env) Q E s :=
  Calls.Name_function_global I.ok.kind hg (Calls.loadGlobal_global (by rw [I.ok.glob]; exact I.mod.glob.keeps I.bk) hm h) hd
theorem ld_blt {E : Value → Shared → Prop} {pins : List (Addr × Obj)} {s : Shared} {σ : St} {H : Hp} {x : Str} {u : Value} {pos : Pos} {Q : Value → Shared → Prop} (I : Inv X pins σ H s) (hg : Gl X x) (hm : X.mg x = none) (hv : bootBuiltins x = some u) (h : Q u s)
    (hn : x ≠ "__name__" := by decide) (hd : (x == ("__debug__" : Str)) = false := by decide) : wpAny (model X.prog X.w) X.A (eval (.Name x pos) X.env) Q E s := by
  obtain ⟨mb, h1, h2⟩ := I.mod.blt
  exact Calls.Name_function_global I.ok.kind hg (Calls.loadGlobal_builtin (by rw [I.ok.glob]; exact I.mod.glob.keeps I.bk) hm (by rw [I.ok.blt]; exact h1.keeps I.bk) ((h2 x hn).trans hv) h) hd
/-- a module's constant, a class, a function, as a value -/
theorem pe_glob {x : Str} {v : V} {u : Value} {pos : Pos} (hg : Gl X x) (hm : X.mg x = some u) (r : RelV v u) (hd : (x == ("__debug__" : Str)) = false := by decide) : PE X (.Name x pos) (tC v) :=
  fun _ _ _ H _ I h => ld_glob I hg hm ⟨v, H, I, r, h⟩ hd
theorem pe_bltn {x : Str} {v : V} {u : Value} {pos : Pos} (hg : Gl X x) (hm : X.mg x = none) (hv : bootBuiltins x = some u) (r : RelV v u) (hn : x ≠ "__name__" := by decide) (hd : (x == ("__debug__" : Str)) = false := by decide) : PE X (.Name x pos) (tC v) :=
  fun _ _ _ H _ I h => ld_blt I hg hm hv ⟨v, H, I, r, h⟩ hn hd

/-! ### arithmetic -/
variable {a b : Expr} {ta tb : TE} {pos : Pos}

/-! ### comparisons -/
def PC (X : Cx) (op : CmpOp) (a b : Expr) (t : TE) : Prop :=
  ∀ (pins : List (Addr × Obj)) (s : Shared) (σ : St) (H : Hp) (Q : VK), Inv X pins σ H s → t σ H Q →
    wpAny (model X.prog X.w) X.A (eval a X.env) (fun v s₁ => wpAny (model X.prog X.w) X.A (eval b X.env) (fun u s₂ => wpAny (model X.prog X.w) X.A (compareOp op v u) (EP X pins σ Q) X.xe s₂) X.xe s₁) X.xe s

/-! ### and, or, not -/
variable {tA tB' : TT} {rest : List Expr}
def tOr (t u : TT) : TT := fun σ H Q => t σ H fun c H1 => if c = true then Q true H1 else u σ H1 Q
def tNot (t : TT) : TT := fun σ H Q => t σ H fun c H1 => Q (!c) H1
theorem pw_or1 (ha : PT X a tA) : PW X (.BoolOp .Or [a] pos) tA := by
  intro wh pins s σ H Q I h
  refine isTrue_or (thn (ha pins s σ H Q I h) fun c s1 e => ?_)
  cases c with
  | false => exact isTrue_or_nil e
  | true => exact e
theorem pw_or (ha : PT X a tA) (hb : PW X (.BoolOp .Or (b :: rest) pos) tB') : PW X (.BoolOp .Or (a :: b :: rest) pos) (tOr tA tB') := by
  intro wh pins s σ H Q I h
  refine isTrue_or (thn (ha pins s σ H _ I h) fun c s1 ⟨H1, I1, q1⟩ => ?_)
  cases c with
  | true => exact ⟨H1, I1, q1⟩
  | false => exact hb wh pins s1 σ H1 Q I1 q1
theorem pt_not (ha : PT X a tA) : PT X (.UnaryOp .Not a pos) (tNot tA) := by
  intro pins s σ H Q I h
  exact isTrue_not (ha pins s σ H (fun c H1 => Q (!c) H1) I h)
/-- .. as values (bools) -/
def tAndV (ta tb : TE) : TE := fun σ H Q => ta σ H fun x H1 => ∃ c, x = .bl c ∧ if c = true then tb σ H1 Q else Q (.bl false) H1
def tOrV (ta tb : TE) : TE := fun σ H Q => ta σ H fun x H1 => ∃ c, x = .bl c ∧ if c = true then Q (.bl true) H1 else tb σ H1 Q
theorem pe_one {op} {t : TE} (h : PE X a t) : PE X (.BoolOp op [a] pos) t := fun pins s σ H Q I hw => BoolOp_one (h pins s σ H Q I hw)
theorem pe_and (ha : PE X a ta) (hb : PE X (.BoolOp .And (b :: rest) pos) tb) : PE X (.BoolOp .And (a :: b :: rest) pos) (tAndV ta tb) := by
  intro pins s σ H Q I h
  refine BoolOp_and (thn (ha pins s σ H _ I h) fun v s1 ⟨x, H1, I1, r1, q1⟩ => ?_)
  obtain ⟨c, rfl, q1⟩ := q1
  cases r1
  refine wpAny_truthy_bool ?_
  cases c with
  | true => exact hb pins s1 σ H1 Q I1 q1
  | false => exact ⟨.bl false, H1, I1, rfl, q1⟩
theorem pe_or (ha : PE X a ta) (hb : PE X (.BoolOp .Or (b :: rest) pos) tb) : PE X (.BoolOp .Or (a :: b :: rest) pos) (tOrV ta tb) := by
  intro pins s σ H Q I h
  refine BoolOp_or (thn (ha pins s σ H _ I h) fun v s1 ⟨x, H1, I1, r1, q1⟩ => ?_)
  obtain ⟨c, rfl, q1⟩ := q1
  cases r1
  refine wpAny_truthy_bool ?_
  cases c with
  | false => exact hb pins s1 σ H1 Q I1 q1
  | true => exact ⟨.bl true, H1, I1, rfl, q1⟩
end
end L2

namespace L2
open PySem PySem.Spec PyProof.Rows

/-! ### a list, a tuple that is read: tracked, frozen, or an object of the module -/
def SqL (K : PySem.W.Frag) (H : Hp) (a : Addr) (xs : List V) : Prop :=
  Rd H a (.lst xs) ∨
    ∃ (o : Obj) (its : Array Value) (n : Nat), K.lookup a = some o ∧ o.cls = .type "list" ∧ o.dict = none ∧ o.data = .seq its n ∧ its.size ≤ sizeLine ∧ Vals xs its.toList
def SqT (K : PySem.W.Frag) (H : Hp) (a : Addr) (xs : List V) : Prop :=
  Rd H a (.tup xs) ∨
    ∃ (o : Obj) (its : Array Value) (n : Nat), K.lookup a = some o ∧ o.cls = .type "tuple" ∧ o.data = .seq its n ∧ its.size ≤ sizeLine ∧ Vals xs its.toList
def absV : Value → Option V
  | .none => some .non
  | .bool b => some (.bl b)
  | .int i _ => some (.int i)
  | .str x _ => some (.str x)
  | .bytes b _ => some (.byt b)
  | .float b _ => some (.flt b)
  | .ref a => some (.ref a)
  | .type n => some (.ty n)
  | _ => none
theorem RelV.abs {x : V} {u : Value} (r : RelV x u) : absV u = some x := by
  cases x with
  | non => cases r; rfl
  | bl _ => cases r; rfl
  | int _ => obtain ⟨t, rfl⟩ := r; rfl
  | str _ => obtain ⟨t, rfl⟩ := r; rfl
  | byt _ => obtain ⟨t, rfl⟩ := r; rfl
  | flt _ => obtain ⟨t, rfl⟩ := r; rfl
  | ref _ => cases r; rfl
  | ty _ => cases r; rfl
theorem RelV.inj {x y : V} {u : Value} (r : RelV x u) (q : RelV y u) : x = y := Option.some.inj (r.abs.symm.trans q.abs)
theorem Vals.inj : ∀ {xs ys : List V} {us : List Value}, Vals xs us → Vals ys us → xs = ys
  | _, _, _, .nil, .nil => rfl
  | _, _, _, .cons r t, .cons r' t' => by rw [r.inj r', Vals.inj t t']
section
variable {X : Cx} {pins : List (Addr × Obj)} {σ : St} {H : Hp} {s : Shared} {a : Addr} {xs ys : List V}
theorem SqL.of {K : PySem.W.Frag} (h : H a = some (.lst xs)) : SqL K H a xs := .inl (.inl h)
theorem SqT.of {K : PySem.W.Frag} (h : H a = some (.tup xs)) : SqT K H a xs := .inl (.inl h)
theorem Inv.list (I : Inv X pins σ H s) (h : SqL X.K H a xs) : ∃ its : List Value, Vals xs its ∧ PlainL s.heap a its.toArray ∧ xs.length ≤ sizeLine := by
  rcases h with h | ⟨o, its, n, hk, hc, hd, hs, hz, r⟩
  · obtain ⟨z, its, n, r, e⟩ := h.ok I.hok
    exact ⟨its, r, ⟨_, n, e, rfl, rfl, rfl⟩, z⟩
  · refine ⟨its.toList, r, ⟨o, n, I.kIn a o hk, hc, hd, by simpa using hs⟩, ?_⟩
    have e := r.length
    simp only [Array.length_toList] at e
    omega
theorem Inv.tuple (I : Inv X pins σ H s) (h : SqT X.K H a xs) : ∃ its : List Value, Vals xs its ∧ IsTup s.heap a its.toArray ∧ xs.length ≤ sizeLine := by
  rcases h with h | ⟨o, its, n, hk, hc, hs, hz, r⟩
  · obtain ⟨z, its, r, p⟩ := h.ok I.hok
    exact ⟨its, r, p, z⟩
  · refine ⟨its.toList, r, ⟨o, I.kIn a o hk, hc, n, by simpa using hs⟩, ?_⟩
    have e := r.length
    simp only [Array.length_toList] at e
    omega
theorem Inv.list_inj (I : Inv X pins σ H s) (h : SqL X.K H a xs) (h' : SqL X.K H a ys) : xs = ys := by
  obtain ⟨its, r, ⟨o, n, e, _, _, d⟩, _⟩ := I.list h
  obtain ⟨its', r', ⟨o', n', e', _, _, d'⟩, _⟩ := I.list h'
  rw [e] at e'; cases e'
  rw [d] at d'
  injection d' with d1 _
  have : its = its' := by simpa using congrArg Array.toList d1
  subst this
  exact r.inj r'
theorem Inv.tuple_inj (I : Inv X pins σ H s) (h : SqT X.K H a xs) (h' : SqT X.K H a ys) : xs = ys := by
  obtain ⟨its, r, ⟨o, e, _, n, d⟩, _⟩ := I.tuple h
  obtain ⟨its', r', ⟨o', e', _, n', d'⟩, _⟩ := I.tuple h'
  rw [e] at e'; cases e'
  rw [d] at d'
  injection d' with d1 _
  have : its = its' := by simpa using congrArg Array.toList d1
  subst this
  exact r.inj r'
end

/-! ### another wish about exceptions -/
abbrev Cx.wish (X : Cx) (E : Value → Shared → Prop) : Cx := { X with xe := E }
/-- no exception leaves -/
abbrev Cx.nox (X : Cx) : Cx := X.wish fun _ _ => False
theorem Cx.Ok.wish {X : Cx} (ok : X.Ok) (E : Value → Shared → Prop) : (X.wish E).Ok :=
  ⟨ok.mod, ok.kind, ok.glob, ok.blt, ok.above, ok.inj, ok.has, ok.cab, ok.hd, ok.frames, ok.stk, ok.exf, ok.bs, ok.bsz, ok.noex, ok.exfs, ok.funs, ok.frf⟩
theorem Cx.Ok.unwish {X : Cx} {E : Value → Shared → Prop} (ok : (X.wish E).Ok) : X.Ok :=
  ⟨ok.mod, ok.kind, ok.glob, ok.blt, ok.above, ok.inj, ok.has, ok.cab, ok.hd, ok.frames, ok.stk, ok.exf, ok.bs, ok.bsz, ok.noex, ok.exfs, ok.funs, ok.frf⟩
section
variable {X : Cx} {pins : List (Addr × Obj)} {σ : St} {H : Hp} {s : Shared} {E : Value → Shared → Prop}
theorem Inv.wish (I : Inv X pins σ H s) (E : Value → Shared → Prop) : Inv (X.wish E) pins σ H s := ⟨I.ok.wish E, I.os, I.bare, I.base, I.loc, I.cell, I.free, I.freeC, I.pin, I.hok, I.len⟩
theorem Inv.unwish (I : Inv (X.wish E) pins σ H s) : Inv X pins σ H s := ⟨I.ok.unwish, I.os, I.bare, I.base, I.loc, I.cell, I.free, I.freeC, I.pin, I.hok, I.len⟩
theorem SP.unwish {D : Ends} {f : Flow} {s' : Shared} (h : SP (X.wish E) pins D f s') : SP X pins D f s' := by
  cases f with
  | next => obtain ⟨σ', H', I, q⟩ := h; exact ⟨σ', H', I.unwish, q⟩
  | brk => obtain ⟨σ', H', I, q⟩ := h; exact ⟨σ', H', I.unwish, q⟩
  | cont => obtain ⟨σ', H', I, q⟩ := h; exact ⟨σ', H', I.unwish, q⟩
  | ret u => obtain ⟨v, σ', H', I, r, q⟩ := h; exact ⟨v, σ', H', I.unwish, r, q⟩
theorem PSs.nox {st : List Stmt} {t : TS} (h : PSs X.nox st t) : PSs X st t := fun pins s σ H D I hw =>
  wpAny_mono (h pins s σ H D (I.wish _) hw) (fun _ _ q => q.unwish) fun _ _ z => False.elim z
end

/-! ### blocks and small statements -/
section
variable {X : Cx} {st : Stmt} {rest : List Stmt} {t u : TS} {e : Expr} {te : TE} {pos : Pos}
def tNext : TS := fun D σ H => D.nx σ H
def tSeq (t u : TS) : TS := fun D σ H => t { D with nx := u D } σ H
theorem pss_nil : PSs X [] tNext := fun _ _ σ H _ I h => wpAny_execs_nil ⟨σ, H, I, h⟩
theorem pss_cons (h1 : PS X st t) (h2 : PSs X rest u) : PSs X (st :: rest) (tSeq t u) := by
  intro pins s σ H D I h
  refine wpAny_execs_cons (thn (h1 pins s σ H { D with nx := u D } I h) fun f s1 q => ?_)
  cases f with
  | next =>
    obtain ⟨σ', H', I', q⟩ := q
    exact h2 pins s1 σ' H' D I' q
  | ret v => exact q
  | brk => exact q
  | cont => exact q
theorem pss_one (h1 : PS X st t) : PSs X [st] t := by
  intro pins s σ H D I h
  refine wpAny_execs_cons (thn (h1 pins s σ H D I h) fun f s1 q => ?_)
  cases f with
  | next => exact wpAny_execs_nil q
  | ret v => exact q
  | brk => exact q
  | cont => exact q
/-- in a def's body nothing is shown -/
theorem Inv.quiet {pins : List (Addr × Obj)} {σ : St} {H : Hp} {s : Shared} (I : Inv X pins σ H s) : interactive X.env = false := by simp [interactive, I.ok.kind]
/-- an expression whose value is dropped -/
def tDrop (te : TE) : TS := fun D σ H => te σ H fun _ H1 => D.nx σ H1
theorem ps_expr (he : PE X e te) (hs : swapsWith e none pos.line X.env = pure false := by rfl) : PS X (.Expr e pos) (tDrop te) := by
  intro pins s σ H D I h
  exact wpAny_Expr_any (thn (he pins s σ H _ I h) fun v s1 ⟨x, H1, I1, r1, q1⟩ => ⟨σ, H1, I1, q1⟩) I.quiet hs
def tRet (te : TE) : TS := fun D σ H => te σ H D.rt
theorem ps_ret (he : PE X e te) : PS X (.Return (some e) pos) (tRet te) := by
  intro pins s σ H D I h
  exact wpAny_Return_some (thn (he pins s σ H _ I h) fun v s1 ⟨x, H1, I1, r1, q1⟩ => ⟨x, σ, H1, I1, r1, q1⟩)
def tIfS (c : TT) (t u : TS) : TS := fun D σ H => c σ H fun b H1 => if b = true then t D σ H1 else u D σ H1
theorem ps_if {c : Expr} {a b : List Stmt} {tc : TT} (hc : PT X c tc) (ha : PSs X a t) (hb : PSs X b u) : PS X (.If c a b pos) (tIfS tc t u) := by
  intro pins s σ H D I h
  refine wpAny_If (thn (hc pins s σ H _ I h) fun d s1 ⟨H1, I1, q1⟩ => ?_)
  cases d with
  | true => exact ha pins s1 σ H1 D I1 q1
  | false => exact hb pins s1 σ H1 D I1 q1
end

/-! ### targets -/
abbrev TG := V → St → Hp → (St → Hp → Prop) → Prop
abbrev TGs := List V → St → Hp → (St → Hp → Prop) → Prop
def PG (X : Cx) (target : Expr) (t : TG) : Prop :=
  ∀ (pins : List (Addr × Obj)) (s : Shared) (σ : St) (H : Hp) (v : V) (u : Value) (Q : St → Hp → Prop), Inv X pins σ H s → RelV v u → t v σ H Q →
    wpAny (model X.prog X.w) X.A (assign target X.env u) (fun _ s' => ∃ σ' H', Inv X pins σ' H' s' ∧ Q σ' H') X.xe s
/-- several targets, one after another -/
def PGs (X : Cx) (ts : List Expr) (t : TGs) : Prop :=
  ∀ (pins : List (Addr × Obj)) (s : Shared) (σ : St) (H : Hp) (vs : List V) (us : List Value) (Q : St → Hp → Prop), Inv X pins σ H s → Vals vs us → t vs σ H Q →
    wpAny (model X.prog X.w) X.A (assignInOrder ((assignEach ts X.env).map (·.2)) us) (fun _ s' => ∃ σ' H', Inv X pins σ' H' s' ∧ Q σ' H') X.xe s
/-- o[i] = v, by values -/
abbrev TSet := V → V → V → Hp → (Hp → Prop) → Prop
def PSet (X : Cx) (t : TSet) : Prop :=
  ∀ (pins : List (Addr × Obj)) (s : Shared) (σ : St) (H : Hp) (o i v : V) (ov iv u : Value) (Q : Hp → Prop), Inv X pins σ H s → RelV o ov → RelV i iv → RelV v u → t o i v H Q →
    wpAny (model X.prog X.w) X.A (setItem ov iv u) (fun _ s' => ∃ H', Inv X pins σ H' s' ∧ Q H') X.xe s
section
variable {X : Cx} {pos : Pos}
def gName (i : Nat) : TG := fun v σ H Q => Q (σ.set i (some v)) H
theorem pg_name {i : Nat} {x : Str} (hN : X.N.Nodup) (hi : X.N[i]? = some x) (hx : Loc X.env.scope x) (hf : X.fn x = true ∨ X.env.scope.names.lookup x = some .local := by first | exact .inl rfl | exact .inr rfl | assumption) : PG X (.Name x pos) (gName i) := by
  intro pins s σ H v u Q I r h
  exact wpAny_assign_Name (store_ok I hN hi hx r (fun s' I' => ⟨_, H, I', h⟩) hf)
def gNil : TGs := fun vs σ H Q => vs = [] ∧ Q σ H
def gCons (t : TG) (u : TGs) : TGs := fun vs σ H Q => ∃ v r, vs = v :: r ∧ t v σ H fun σ' H' => u r σ' H' Q
theorem pgs_nil : PGs X [] gNil := by
  intro pins s σ H vs us Q I r h
  obtain ⟨e, h⟩ := h
  subst e
  cases r
  exact assignInOrder_nil ⟨σ, H, I, h⟩
theorem pgs_cons {e : Expr} {es : List Expr} {t : TG} {u : TGs} (h1 : PG X e t) (h2 : PGs X es u)
    (hs : (assignEach (e :: es) X.env).map (·.2) = assign e X.env :: (assignEach es X.env).map (·.2) := by rfl) : PGs X (e :: es) (gCons t u) := by
  intro pins s σ H vs us Q I r h
  obtain ⟨v, vr, e1, h⟩ := h
  subst e1
  cases r with
  | cons r rr =>
    rw [hs]
    refine assignInOrder_cons (thn (h1 pins s σ H _ _ _ I r h) fun _ s1 ⟨σ1, H1, I1, q1⟩ => ?_)
    exact h2 pins s1 σ1 H1 _ _ Q I1 rr q1
/-- (a, b, ..) = a tuple of that length -/
def gTup (K : PySem.W.Frag) (n : Nat) (t : TGs) : TG := fun v σ H Q => ∃ a xs, v = .ref a ∧ SqT K H a xs ∧ xs.length = n ∧ t xs σ H Q
theorem pg_tup {es : List Expr} {k : Nat} {t : TGs} {n : Nat} (hc : X.calm = true) (h : PGs X es t)
    (hn : (assignEach es X.env).length = n := by rfl) (hst : (assignEach es X.env).findIdx? (·.1) = none := by rfl) : PG X (.Tuple es k pos) (gTup X.K n t) := by
  intro pins s σ H v u Q I r hw
  obtain ⟨a, xs, e1, hq, hl, hw⟩ := hw
  subst e1
  cases r
  obtain ⟨its, rv, ht, hz⟩ := I.tuple hq
  refine assign_Tuple_tuple (I.ok.hd hc) ht (by simp [hn, ← hl, rv.length]) hst fun h' hx => ?_
  have I1 : Inv X pins σ H { s with heap := h' } := I.kept (t' := s.toks) fun b o e => hx b o (Nat.ne_of_lt (Heap.lt_size e)) e
  exact h pins _ σ H xs _ Q I1 (by simpa using rv) hw
/-- o[i] = .. -/
def gSub (to ti : TE) (t : TSet) : TG := fun v σ H Q => to σ H fun o H1 => ti σ H1 fun i H2 => t o i v H2 fun H3 => Q σ H3
theorem pg_sub {o i : Expr} {to ti : TE} {t : TSet} (ho : PE X o to) (hi : PE X i ti) (hs : PSet X t)
    (ha : ∀ v, assign (.Subscript o i pos) X.env v = (do
      let ov ← holding [v] (eval o X.env)
      let iv ← holding [v, ov] (eval i X.env)
      standAt pos
      holding [v, ov, iv] (setItem ov iv v)
      release [v, ov, iv] []) := by intro _; rfl) : PG X (.Subscript o i pos) (gSub to ti t) := by
  intro pins s σ H v u Q I r h
  rw [ha]
  refine wpAny_bind (wpAny_holding (thn (ho pins s σ H _ I h) fun ov s1 ⟨x, H1, I1, r1, q1⟩ => ?_))
  refine wpAny_bind (wpAny_holding (thn (hi pins s1 σ H1 _ I1 q1) fun iv s2 ⟨y, H2, I2, r2, q2⟩ => ?_))
  refine wpAny_bind (wpAny_standAt (wpAny_bind (wpAny_holding (thn (hs pins s2 σ H2 x y v ov iv u _ I2 r1 r2 r q2) fun _ s3 ⟨H3, I3, q3⟩ => ?_))))
  exact wpAny_release ⟨σ, H3, I3, q3⟩
/-- target = value -/
def tAsg (te : TE) (g : TG) : TS := fun D σ H => te σ H fun x H1 => g x σ H1 D.nx
theorem ps_asg {tg e : Expr} {te : TE} {g : TG} (he : PE X e te) (hg : PG X tg g) (hs : swapsWithSole [tg] e pos.line X.env = pure false := by rfl) (hw : swappedStores [tg] e X.env = pure none := by rfl)
    (h1 : (assignEach [tg] X.env).map (·.2) = [assign tg X.env] := by rfl) : PS X (.Assign [tg] e pos) (tAsg te g) := by
  intro pins s σ H D I h
  refine wpAny_Assign_stores (thn (he pins s σ H _ I h) fun v s1 ⟨x, H1, I1, r1, q1⟩ => ?_) hs hw
  rw [h1]
  exact thn (hg pins s1 σ H1 x v _ I1 r1 q1) fun _ s2 q => q
/-- name = value -/
theorem ps_set {i : Nat} {x : Str} {e : Expr} {te : TE} {pos' : Pos} (hN : X.N.Nodup) (hi : X.N[i]? = some x) (hx : Loc X.env.scope x) (he : PE X e te) (hs : swapsWith e (some (.Name x pos')) pos.line X.env = pure false := by rfl) (hf : X.fn x = true ∨ X.env.scope.names.lookup x = some .local := by first | exact .inl rfl | exact .inr rfl | assumption) :
    PS X (.Assign [.Name x pos'] e pos) (tAsg te (gName i)) := by
  intro pins s σ H D I h
  refine wpAny_Assign_Name (thn (he pins s σ H _ I h) fun v s1 ⟨y, H1, I1, r1, q1⟩ => ?_) hs
  exact store_ok I1 hN hi hx r1 (fun s2 I2 => ⟨_, H1, I2, q1⟩) hf
end

/-! ### while -/
section
variable {X : Cx} {pos : Pos}
end

/-! ### what a loop or a comprehension walks -/
/-- at turn i: it yields x (the heap may grow), or it stops -/
structure It where
  go : Nat → Hp → Prop
  yld : Nat → Hp → V → Hp → Prop
  stop : Nat → Hp → Prop
/-- the iterator's own objects may turn: they are not the frame's, not pinned, younger than the entry (or a comprehension's own) -/
def FpOk (X : Cx) (pins : List (Addr × Obj)) (H : Hp) (b : Addr) : Prop :=
  H b = none ∧ b ≠ X.env.locals ∧ b ∉ X.fs ∧ (b ∈ X.ex ∨ X.s₀.heap.objs.size ≤ b) ∧ (∀ x c, X.env.cells.lookup x = some c → c ≠ b) ∧ ∀ p ∈ X.pn ++ pins, p.1 ≠ b
theorem Inv.fpOk {X : Cx} {pins : List (Addr × Obj)} {σ : St} {H H' : Hp} {s : Shared} {b : Addr} (I : Inv X pins σ H s) (hb : s.heap.objs.size ≤ b) (hn : H' b = none) : FpOk X pins H' b := by
  refine ⟨hn, Nat.ne_of_gt (Nat.lt_of_lt_of_le I.lt hb), I.nofs hb, .inr (Nat.le_trans I.sz hb), fun x c e z => ?_, fun p hp z => ?_⟩
  · obtain ⟨v, q⟩ := I.cell x c e
    exact absurd (Nat.lt_of_lt_of_le q.lt (by rw [z]; exact hb)) (Nat.lt_irrefl _)
  · exact absurd (Nat.lt_of_lt_of_le (Heap.lt_size (I.pin p hp).1) (by rw [z]; exact hb)) (Nat.lt_irrefl _)
structure Turn (P : Program) (w : World) (K : PySem.W.Frag) (tg : Expr) (J : It) (fp : List Addr) (it : Addr) (tn : Nat → Heap → Prop) : Prop where
  mem : it ∈ fp
  obj : ∀ i h, tn i h → ∀ b ∈ fp, ∃ o, h.get? b = some o ∧ ∀ v, o.data ≠ .cell v
  keep : ∀ i h h', tn i h → (∀ b ∈ fp, ∀ o, h.get? b = some o → h'.get? b = some o) → tn i h'
  item : ∀ (X : Cx), X.prog = P → X.w = w → X.K = K → X.calm = true → ∀ (i : Nat) (pins : List (Addr × Obj)) (s : Shared) (σ : St) (H : Hp) (E : Value → Shared → Prop), Inv X pins σ H s → (∀ b ∈ fp, FpOk X pins H b) → tn i s.heap → J.go i H →
    wpAny (model P w) X.A (pyNext (.ref it)) (fun r s1 => ∃ u, r = some u ∧
      wpAny (model P w) X.A (letOwnedTupleGo tg (.ref it) u) (fun _ s2 => ∃ x H', Inv X pins σ H' s2 ∧ RelV x u ∧ J.yld i H x H' ∧ tn (i + 1) s2.heap ∧ ∀ b ∈ fp, H' b = none) E s1) E s
  done : ∀ (X : Cx), X.prog = P → X.w = w → X.K = K → X.calm = true → ∀ (i : Nat) (pins : List (Addr × Obj)) (s : Shared) (σ : St) (H : Hp) (E : Value → Shared → Prop), Inv X pins σ H s → (∀ b ∈ fp, FpOk X pins H b) → tn i s.heap → J.stop i H →
    wpAny (model P w) X.A (pyNext (.ref it)) (fun r s1 => r = none ∧ Inv X pins σ H s1) E s
  self : ∀ (A : Around) (i : Nat) (s : Shared) (Q : Value → Shared → Prop) (E : Value → Shared → Prop), tn i s.heap → Q (.ref it) s → wpAny (model P w) A (pyIter (.ref it)) Q E s
abbrev TI := St → Hp → (It → Hp → Prop) → Prop
/-- an iterator has come -/
def PIE (X : Cx) (pins : List (Addr × Obj)) (σ : St) (tg : Expr) (R : It → Hp → Prop) (itv : Value) (s2 : Shared) : Prop :=
  ∃ (it : Addr) (fp : List Addr) (tn : Nat → Heap → Prop) (J : It) (H' : Hp), itv = .ref it ∧ Inv X pins σ H' s2 ∧ Turn X.prog X.w X.K tg J fp it tn ∧ tn 0 s2.heap ∧ (∀ b ∈ fp, FpOk X pins H' b) ∧ R J H'
def PI (X : Cx) (tg iter : Expr) (wi : TI) : Prop :=
  ∀ (pins : List (Addr × Obj)) (s : Shared) (σ : St) (H : Hp) (R : It → Hp → Prop), Inv X pins σ H s → wi σ H R →
    wpAny (model X.prog X.w) X.A (eval iter X.env) (fun v s1 => wpAny (model X.prog X.w) X.A (pyIter v) (PIE X pins σ tg R) X.xe s1) X.xe s

/-- the step ahead of the store is nothing for an iterator that keeps no tuple -/
theorem go_of {M : Model} {A : Around} {E : Value → Shared → Prop} {s : Shared} {tg : Expr} {it : Addr} {u : Value} {o : Obj} {n : String} {vs : Array Value} {Q : Unit → Shared → Prop} (ho : s.heap.get? it = some o) (hc : o.cls = .type n) (hd : o.data = .fields vs)
    (hn : ["enumerate", "zip", "dict_itemiterator", "dict_reverseitemiterator", "odict_iterator", "itertools.zip_longest", "itertools.pairwise"].contains n = false) (hQ : Q () s) : wpAny M A (letOwnedTupleGo tg (.ref it) u) Q E s := by
  unfold letOwnedTupleGo
  cases tg <;> first
    | exact wpAny_pure hQ
    | (cases u <;> first
        | exact wpAny_pure hQ
        | (refine wpAny_bind (wpAny_load ho ?_)
           rw [hc, hd]
           show wpAny M A (if (["enumerate", "zip", "dict_itemiterator", "dict_reverseitemiterator", "odict_iterator", "itertools.zip_longest", "itertools.pairwise"].contains n && vs[0]? == some (rawInt _)) = true then _ else _) Q E s
           rw [if_neg (by intro h; rw [hn, Bool.false_and] at h; cases h)]
           exact wpAny_pure hQ))

/-- the list at a, as it stands at each turn (a loop may append to it) -/
def Itl (K : PySem.W.Frag) (a : Addr) : It :=
  ⟨fun i H => ∃ xs x, SqL K H a xs ∧ xs[i]? = some x, fun i H x H' => H' = H ∧ ∀ xs, SqL K H a xs → xs[i]? = some x, fun i H => ∃ xs, SqL K H a xs ∧ xs.length ≤ i⟩
def Itt (K : PySem.W.Frag) (a : Addr) : It :=
  ⟨fun i H => ∃ xs x, SqT K H a xs ∧ xs[i]? = some x, fun i H x H' => H' = H ∧ ∀ xs, SqT K H a xs → xs[i]? = some x, fun i H => ∃ xs, SqT K H a xs ∧ xs.length ≤ i⟩
/-- lo, lo + 1, .. (n of them) -/
def Itr (lo : Int) (n : Nat) : It := ⟨fun i _ => i < n, fun i H x H' => H' = H ∧ x = .int (lo + i), fun i _ => n ≤ i⟩
theorem turn_list {P : Program} {w : World} {K : PySem.W.Frag} {tg : Expr} (a it : Addr) : Turn P w K tg (Itl K a) [it] it (fun i h => h.IsListIter it a i) where
  mem := by simp
  obj := fun i h st b hb => by
    have e : b = it := by simpa using hb
    subst e
    obtain ⟨o, e, c, d⟩ := st
    exact ⟨o, e, fun v z => by rw [d] at z; cases z⟩
  keep := fun i h h' st k => st.at fun o e => k it (by simp) o e
  item := by
    intro X hP hw hK hc i pins s σ H E I hf st hg
    subst hP hw hK
    obtain ⟨xs, x, hq, hx⟩ := hg
    obtain ⟨its, rv, p, hz⟩ := I.list hq
    obtain ⟨u, hu, ru⟩ := rv.get hx
    obtain ⟨f0, f1, f2, f3, f4, f5⟩ := hf it (by simp)
    refine wpAny_pyNext_list_item st p.isList (x := u) (by simpa using hu) fun h' st' sb => ?_
    have I1 : Inv X pins σ H { s with heap := h' } := I.turned (t' := s.toks) (fun b o hb e => (sb.2 b hb).trans e) f0 f1 f3 f4 f5
    obtain ⟨o, e, c, d⟩ := id st'
    exact ⟨u, rfl, go_of (s := { s with heap := h' }) e c d (by decide) ⟨x, H, I1, ru, ⟨rfl, fun ys hy => by rw [I.list_inj hy hq]; exact hx⟩, st', fun b hb => (hf b hb).1⟩⟩
  done := by
    intro X hP hw hK hc i pins s σ H E I hf st hg
    subst hP hw hK
    obtain ⟨xs, hq, hx⟩ := hg
    obtain ⟨its, rv, p, hz⟩ := I.list hq
    obtain ⟨f0, f1, f2, f3, f4, f5⟩ := hf it (by simp)
    have hl := rv.length
    exact wpAny_pyNext_list_end (I.ok.hd hc) st p.isList (by simp; omega) fun h' eb => ⟨rfl, I.turned (t' := s.toks) (fun b o hb e => eb b o hb e) f0 f1 f3 f4 f5⟩
  self := fun _ _ _ _ _ st h => wpAny_pyIter_listiter st h
theorem turn_tuple {P : Program} {w : World} {K : PySem.W.Frag} {tg : Expr} (a it : Addr) : Turn P w K tg (Itt K a) [it] it (fun i h => h.IsTupleIter it a i) where
  mem := by simp
  obj := fun i h st b hb => by
    have e : b = it := by simpa using hb
    subst e
    obtain ⟨o, e, c, d⟩ := st
    exact ⟨o, e, fun v z => by rw [d] at z; cases z⟩
  keep := fun i h h' st k => st.at fun o e => k it (by simp) o e
  item := by
    intro X hP hw hK hc i pins s σ H E I hf st hg
    subst hP hw hK
    obtain ⟨xs, x, hq, hx⟩ := hg
    obtain ⟨its, rv, p, hz⟩ := I.tuple hq
    obtain ⟨u, hu, ru⟩ := rv.get hx
    obtain ⟨f0, f1, f2, f3, f4, f5⟩ := hf it (by simp)
    refine wpAny_pyNext_tuple_item st (show s.heap.IsTuple a its.toArray from p) (x := u) (by simpa using hu) fun h' st' sb => ?_
    have I1 : Inv X pins σ H { s with heap := h' } := I.turned (t' := s.toks) (fun b o hb e => (sb.2 b hb).trans e) f0 f1 f3 f4 f5
    obtain ⟨o, e, c, d⟩ := id st'
    exact ⟨u, rfl, go_of (s := { s with heap := h' }) e c d (by decide) ⟨x, H, I1, ru, ⟨rfl, fun ys hy => by rw [I.tuple_inj hy hq]; exact hx⟩, st', fun b hb => (hf b hb).1⟩⟩
  done := by
    intro X hP hw hK hc i pins s σ H E I hf st hg
    subst hP hw hK
    obtain ⟨xs, hq, hx⟩ := hg
    obtain ⟨its, rv, p, hz⟩ := I.tuple hq
    obtain ⟨f0, f1, f2, f3, f4, f5⟩ := hf it (by simp)
    have hl := rv.length
    exact wpAny_pyNext_tuple_end (I.ok.hd hc) st (show s.heap.IsTuple a its.toArray from p) (by simp; omega) fun h' eb => ⟨rfl, I.turned (t' := s.toks) (fun b o hb e => eb b o hb e) f0 f1 f3 f4 f5⟩
  self := fun _ _ _ _ _ st h => wpAny_pyIter_tupleiter st h
theorem turn_range {P : Program} {w : World} {K : PySem.W.Frag} {tg : Expr} (it : Addr) (lo : Int) (n : Nat) : Turn P w K tg (Itr lo n) [it] it (fun i h => IsRangeIter h it (lo + (i : Nat) * 1) ((n : Int) - (i : Nat)) 1) where
  mem := by simp
  obj := fun i h st b hb => by
    have e : b = it := by simpa using hb
    subst e
    exact ⟨_, st, fun v z => by
      have z' : Data.fields _ = Data.cell v := z
      cases z'⟩
  keep := fun i h h' st k => k it (by simp) _ st
  item := by
    intro X hP hw hK hc i pins s σ H E I hf st hg
    subst hP hw hK
    obtain ⟨f0, f1, f2, f3, f4, f5⟩ := hf it (by simp)
    have W := Walks.range (prog := X.prog) (w := X.w) (I.ok.hd hc) it lo 1 n
    refine W.item i s _ _ hg st fun v h' tk hv st' kk => ?_
    obtain ⟨t, rfl⟩ := hv
    have I1 : Inv X pins σ H { s with heap := h', toks := tk } := I.turned (fun b o hb e => kk b o (by simpa using hb) e) f0 f1 f3 f4 f5
    refine ⟨_, rfl, go_of (s := { s with heap := h', toks := tk }) (n := "range_iterator") st' rfl rfl (by decide) ⟨.int (lo + i), H, I1, ⟨t, ?_⟩, ⟨rfl, rfl⟩, st', fun b hb => (hf b hb).1⟩⟩
    rw [Int.mul_one]
  done := by
    intro X hP hw hK hc i pins s σ H E I hf st hg
    subst hP hw hK
    obtain ⟨f0, f1, f2, f3, f4, f5⟩ := hf it (by simp)
    exact wpAny_pyNext_range_end (I.ok.hd hc) st (by have : n ≤ i := hg; omega) fun h' eb => ⟨rfl, I.turned (t' := s.toks) (fun b o hb e => eb b o hb e) f0 f1 f3 f4 f5⟩
  self := fun _ _ _ _ _ st h => wpAny_pyIter_rangeiter st h
end L2

namespace L2
open PySem PySem.Spec PyProof.Rows
section
variable {X : Cx} {tg : Expr}
def iList (K : PySem.W.Frag) (tl : TE) : TI := fun σ H R => tl σ H fun x H1 => ∃ a, x = .ref a ∧ (∃ xs, SqL K H1 a xs) ∧ R (Itl K a) H1
def iTup (K : PySem.W.Frag) (tl : TE) : TI := fun σ H R => tl σ H fun x H1 => ∃ a, x = .ref a ∧ (∃ xs, SqT K H1 a xs) ∧ R (Itt K a) H1
theorem pi_list {l : Expr} {tl : TE} (hl : PE X l tl) : PI X tg l (iList X.K tl) := by
  intro pins s σ H R I h
  refine thn (hl pins s σ H _ I h) fun v s1 ⟨x, H1, I1, r1, q1⟩ => ?_
  obtain ⟨a, e, ⟨xs, hq⟩, q⟩ := q1
  subst e
  cases r1
  obtain ⟨its, rv, p, hz⟩ := I1.list hq
  refine wpAny_pyIter_list p.isList ?_
  refine ⟨s1.heap.objs.size, [s1.heap.objs.size], _, _, H1, rfl, I1.kept (t' := s1.toks) fun b o e => Heap.get?_push_of_some _ e, turn_list a _, ⟨_, Heap.get?_push_size _ rfl, rfl, rfl⟩, fun b hb => ?_, q⟩
  have e : b = s1.heap.objs.size := by simpa using hb
  subst e
  exact I1.fpOk (Nat.le_refl _) (I1.hok.fresh (Nat.le_refl _))
theorem pi_tup {l : Expr} {tl : TE} (hl : PE X l tl) : PI X tg l (iTup X.K tl) := by
  intro pins s σ H R I h
  refine thn (hl pins s σ H _ I h) fun v s1 ⟨x, H1, I1, r1, q1⟩ => ?_
  obtain ⟨a, e, ⟨xs, hq⟩, q⟩ := q1
  subst e
  cases r1
  obtain ⟨its, rv, p, hz⟩ := I1.tuple hq
  refine wpAny_pyIter_tuple (show s1.heap.IsTuple a its.toArray from p) ?_
  refine ⟨s1.heap.objs.size, [s1.heap.objs.size], _, _, H1, rfl, I1.kept (t' := s1.toks) fun b o e => Heap.get?_push_of_some _ e, turn_tuple a _, ⟨_, Heap.get?_push_size _ rfl, rfl, rfl⟩, fun b hb => ?_, q⟩
  have e : b = s1.heap.objs.size := by simpa using hb
  subst e
  exact I1.fpOk (Nat.le_refl _) (I1.hok.fresh (Nat.le_refl _))
/-- a range object just made, walked -/
theorem range_it {pins : List (Addr × Obj)} {σ : St} {H : Hp} {s : Shared} {R : It → Hp → Prop} {E : Value → Shared → Prop} {lo hi : Int} {t u v : Tok} {tk : Nat} (I : Inv X pins σ H s) (h1 : -(2 ^ 62) ≤ lo) (h2 : lo < 2 ^ 62) (h3 : -(2 ^ 62) ≤ hi) (h4 : hi < 2 ^ 62)
    (q : R (Itr lo (hi - lo).toNat) H) : wpAny (model X.prog X.w) X.A (pyIter (.ref s.heap.objs.size)) (PIE X pins σ tg R) E { s with heap := s.heap.push { cls := .type "range", data := .fields #[.int lo t, .int hi u, .int 1 v] }, toks := tk } := by
  refine wpAny_pyIter_range (IsRange.new ..) (small_one h1 h2 h3 h4) ?_
  have I1 : Inv X pins σ H { s with heap := s.heap.push { cls := .type "range", data := .fields #[.int lo t, .int hi u, .int 1 v] }, toks := tk } := I.kept fun b o e => Heap.get?_push_of_some _ e
  refine ⟨(s.heap.push { cls := .type "range", data := .fields #[.int lo t, .int hi u, .int 1 v] }).objs.size, [(s.heap.push { cls := .type "range", data := .fields #[.int lo t, .int hi u, .int 1 v] }).objs.size], _, _, H, rfl,
    I1.kept (t' := tk) fun b o e => Heap.get?_push_of_some _ e, turn_range _ lo (hi - lo).toNat, ?_, fun b hb => ?_, q⟩
  · have e1 : lo + ((0 : Nat) : Int) * 1 = lo := by simp
    have e2 : (((hi - lo).toNat : Nat) : Int) - ((0 : Nat) : Int) = Builtin.Range.rangeSize lo hi 1 := by rw [rangeSize_one]; split <;> omega
    show IsRangeIter _ _ (lo + ((0 : Nat) : Int) * 1) ((((hi - lo).toNat : Nat) : Int) - ((0 : Nat) : Int)) 1
    rw [e1, e2]
    exact Heap.get?_push_size _ rfl
  · have e : b = (s.heap.push { cls := .type "range", data := .fields #[.int lo t, .int hi u, .int 1 v] }).objs.size := by simpa using hb
    subst e
    exact I1.fpOk (Nat.le_refl _) (I1.hok.fresh (Nat.le_refl _))
def iRng1 (ta : TA) : TI := fun σ H R => ta σ H fun vs H1 => ∃ j : Int, vs = [.int j] ∧ -(2 ^ 62) ≤ j ∧ j < 2 ^ 62 ∧ R (Itr 0 j.toNat) H1
def iRng2 (ta : TA) : TI := fun σ H R => ta σ H fun vs H1 => ∃ i j : Int, vs = [.int i, .int j] ∧ (-(2 ^ 62) ≤ i ∧ i < 2 ^ 62 ∧ -(2 ^ 62) ≤ j ∧ j < 2 ^ 62) ∧ R (Itr i (j - i).toNat) H1
theorem pi_range1 {a : Expr} {ta : TA} {p pos : Pos} (hg : Gl X "range") (hm : X.mg "range" = none) (ha : PA X [a] ta) (hs : starEach [a] X.env = [(false, eval a X.env)] := by rfl) : PI X tg (.Call (.Name "range" p) [a] [] pos) (iRng1 ta) := by
  intro pins s σ H R I h
  refine Call_ (ld_blt I hg hm boot_range (PyProof.Rows.callWith_type1 (thn (ha pos pins s σ H _ I h) fun us s1 ⟨vs, H1, I1, r1, q1⟩ => ?_) hs rfl))
  obtain ⟨j, e, q1, q2, q⟩ := q1
  subst e
  cases r1 with
  | cons r rr =>
    cases rr
    obtain ⟨t, rfl⟩ := r
    exact call_range_1 (range_it I1 (by omega) (by omega) q1 q2 (by simpa using q))
theorem pi_range2 {a b : Expr} {ta : TA} {p pos : Pos} (hg : Gl X "range") (hm : X.mg "range" = none) (ha : PA X [a, b] ta) (hs : starEach [a, b] X.env = [(false, eval a X.env), (false, eval b X.env)] := by rfl) (hs2 : starEach [b] X.env = [(false, eval b X.env)] := by rfl) :
    PI X tg (.Call (.Name "range" p) [a, b] [] pos) (iRng2 ta) := by
  intro pins s σ H R I h
  refine Call_ (ld_blt I hg hm boot_range (PyProof.Rows.callWith_type1 (thn (ha pos pins s σ H _ I h) fun us s1 ⟨vs, H1, I1, r1, q1⟩ => ?_) (by rw [hs, hs2]) (by rw [hs2]; rfl)))
  obtain ⟨i, j, e, ⟨q1, q2, q3, q4⟩, q⟩ := q1
  subst e
  cases r1 with
  | cons r rr =>
    cases rr with
    | cons r' rr =>
      cases rr
      obtain ⟨t, rfl⟩ := r
      obtain ⟨t', rfl⟩ := r'
      exact call_range_2 (range_it I1 q1 q2 q3 q4 q)

/-! ### for -/
/-- W: the invariant by the turn and a measure; N: what the body is to reach -/
def tFor (wi : TI) (g : TG) (tb : TS) : TS := fun D σ H => wi σ H fun J H1 => ∃ W : Nat → Nat → St → Hp → Prop, (∃ m, W 0 m σ H1) ∧ ∀ i m σ H, W i m σ H →
  (J.stop i H ∧ D.nx σ H) ∨ (J.go i H ∧ ∃ N : St → Hp → Prop, (∀ σ' H', N σ' H' → ∃ m', m' < m ∧ W (i + 1) m' σ' H') ∧ ∀ x H', J.yld i H x H' → g x σ H' fun σ2 H2 => tb { D with nx := N, ct := N, bk := D.nx } σ2 H2)
/-- the records at fp as they stand -/
def pinsAt (fp : List Addr) (h : Heap) : List (Addr × Obj) := fp.filterMap fun b => (h.get? b).map fun o => (b, o)
theorem mem_pinsAt {fp : List Addr} {h : Heap} {b : Addr} {o : Obj} (hb : b ∈ fp) (e : h.get? b = some o) : (b, o) ∈ pinsAt fp h := List.mem_filterMap.mpr ⟨b, hb, by rw [e]; rfl⟩
theorem of_pinsAt {fp : List Addr} {h : Heap} {p : Addr × Obj} (hp : p ∈ pinsAt fp h) : p.1 ∈ fp ∧ h.get? p.1 = some p.2 := by
  obtain ⟨b, hb, e⟩ := List.mem_filterMap.mp hp
  cases q : h.get? b with
  | none => rw [q] at e; cases e
  | some o =>
    rw [q] at e
    have e' : (b, o) = p := Option.some.inj e
    subst e'
    exact ⟨hb, q⟩
theorem Inv.pinned {pins : List (Addr × Obj)} {σ : St} {H : Hp} {s : Shared} {fp : List Addr} (I : Inv X pins σ H s) (hf : ∀ b ∈ fp, FpOk X pins H b) (ho : ∀ b ∈ fp, ∃ o, s.heap.get? b = some o ∧ ∀ v, o.data ≠ .cell v) : Inv X (pins ++ pinsAt fp s.heap) σ H s :=
  I.pins_of fun p hp => (List.mem_append.mp hp).elim (fun z => I.pin p (List.mem_append_right _ z)) fun z => by
    obtain ⟨hb, e⟩ := of_pinsAt z
    obtain ⟨f0, f1, f2, _⟩ := hf p.1 hb
    obtain ⟨o, e', d⟩ := ho p.1 hb
    rw [e] at e'; cases e'
    exact ⟨e, f0, f1, f2, d⟩
theorem Inv.unpinned {pins pl : List (Addr × Obj)} {σ : St} {H : Hp} {s : Shared} (I : Inv X (pins ++ pl) σ H s) : Inv X pins σ H s := I.pins_of fun p hp => I.pin p (List.mem_append_right _ (List.mem_append_left _ hp))
theorem ps_for {iter : Expr} {body : List Stmt} {wi : TI} {g : TG} {tb : TS} {pos : Pos} (hp : PassesOwn (model X.prog X.w) X.A X.env X.xe) (hc : X.calm = true) (hi : PI X tg iter wi) (hg : PG X tg g) (hb : PSs X body tb)
    (hs : ∀ x, foldedSetIterable iter X.env x = pure x := by intro _; rfl) : PS X (.For tg iter body [] pos) (tFor wi g tb) := by
  intro pins s σ H D I h
  refine wpAny_For (thn (hi pins s σ H _ I h) fun v s1 h1 => thn h1 fun itv s2 h2 => ?_) hs
  obtain ⟨it, fp, tn, J, H2, e, I2, T, st2, f2, W, ⟨m0, w0⟩, turn⟩ := h2
  subst e
  -- what stays true of the iterator's objects through the loop
  have stat : ∀ {H' : Hp}, (∀ b ∈ fp, H' b = none) → ∀ b ∈ fp, FpOk X pins H' b := fun hn b hb => ⟨hn b hb, (f2 b hb).2⟩
  refine codeAny_forLoop_any (fun n s' => ∃ i σ' H', Inv X pins σ' H' s' ∧ tn i s'.heap ∧ (∀ b ∈ fp, H' b = none) ∧ W i n σ' H') ?_ m0 ⟨0, σ, H2, I2, st2, fun b hb => (f2 b hb).1, w0⟩
  rintro n s3 ⟨i, σ3, H3, I3, st3, fr3, w3⟩
  rcases turn i n σ3 H3 w3 with ⟨stop, qn⟩ | ⟨go, N, hN, step⟩
  · refine wpAny_passesOwn hp (thn (T.done X rfl rfl rfl hc i pins s3 σ3 H3 X.xe I3 (stat fr3) st3 stop) fun r s4 ⟨hr, I4⟩ => ?_)
    subst hr
    exact wpAny_execs_nil ⟨σ3, H3, I4, qn⟩
  · refine wpAny_passesOwn hp (thn (T.item X rfl rfl rfl hc i pins s3 σ3 H3 X.xe I3 (stat fr3) st3 go) fun r s4 ⟨u, hr, h4⟩ => ?_)
    subst hr
    refine wpAny_passesOwn hp (thn h4 fun _ s5 ⟨x, H5, I5, r5, y5, st5, fr5⟩ => ?_)
    have I5' := I5.pinned (stat fr5) (T.obj _ _ st5)
    refine wpAny_passesOwn hp (thn (hg _ s5 σ3 H5 x u _ I5' r5 (step x H5 y5)) fun _ s6 ⟨σ6, H6, I6, q6⟩ => ?_)
    refine wpAny_passesOwn hp (thn (hb _ s6 σ6 H6 _ I6 q6) fun f s7 q7 => ?_)
    have again : ∀ {σ7 : St} {H7 : Hp}, Inv X (pins ++ pinsAt fp s5.heap) σ7 H7 s7 → N σ7 H7 → ∃ m, m < n ∧ ∃ i σ' H', Inv X pins σ' H' s7 ∧ tn i s7.heap ∧ (∀ b ∈ fp, H' b = none) ∧ W i m σ' H' := fun {σ7 H7} I7 n7 => by
      obtain ⟨m', hm, w7⟩ := hN σ7 H7 n7
      refine ⟨m', hm, i + 1, σ7, H7, I7.unpinned, T.keep _ _ _ st5 fun b hb o e => (I7.pin (b, o) (List.mem_append_right _ (List.mem_append_right _ (mem_pinsAt hb e)))).1, fun b hb => ?_, w7⟩
      obtain ⟨o, e, d⟩ := T.obj _ _ st5 b hb
      exact (I7.pin (b, o) (List.mem_append_right _ (List.mem_append_right _ (mem_pinsAt hb e)))).2.1
    cases f with
    | next => obtain ⟨σ7, H7, I7, n7⟩ := q7; exact again I7 n7
    | cont => obtain ⟨σ7, H7, I7, n7⟩ := q7; exact again I7 n7
    | brk => obtain ⟨σ7, H7, I7, q7⟩ := q7; exact ⟨σ7, H7, I7.unpinned, q7⟩
    | ret v => obtain ⟨x7, σ7, H7, I7, r7, q7⟩ := q7; exact ⟨x7, σ7, H7, I7.unpinned, r7, q7⟩
end

/-! ### the forms one uses -/
/-- over a list that the body leaves as it is -/
theorem for_list {K : PySem.W.Frag} {a : Addr} {xs : List V} {g : TG} {tb : TS} {D : Ends} {σ : St} {H : Hp} (Pv : Nat → St → Hp → Prop) (h0 : Pv 0 σ H) (hl : ∀ i σ H, i ≤ xs.length → Pv i σ H → SqL K H a xs)
    (hs : ∀ i x σ H, xs[i]? = some x → Pv i σ H → g x σ H fun σ2 H2 => tb { D with nx := Pv (i + 1), ct := Pv (i + 1), bk := D.nx } σ2 H2) (hd : ∀ σ H, Pv xs.length σ H → D.nx σ H) :
    ∃ W : Nat → Nat → St → Hp → Prop, (∃ m, W 0 m σ H) ∧ ∀ i m σ H, W i m σ H →
      ((Itl K a).stop i H ∧ D.nx σ H) ∨ ((Itl K a).go i H ∧ ∃ N : St → Hp → Prop, (∀ σ' H', N σ' H' → ∃ m', m' < m ∧ W (i + 1) m' σ' H') ∧ ∀ x H', (Itl K a).yld i H x H' → g x σ H' fun σ2 H2 => tb { D with nx := N, ct := N, bk := D.nx } σ2 H2) := by
  refine ⟨fun i m σ H => m = xs.length - i ∧ i ≤ xs.length ∧ Pv i σ H, ⟨xs.length, by simp, Nat.zero_le _, h0⟩, ?_⟩
  rintro i m σ H ⟨rfl, hi, p⟩
  have q := hl i σ H hi p
  by_cases hlt : i < xs.length
  · refine .inr ⟨⟨xs, xs[i], q, by simp [hlt]⟩, Pv (i + 1), fun σ' H' p' => ⟨xs.length - (i + 1), by omega, rfl, hlt, p'⟩, fun x H' y => ?_⟩
    obtain ⟨e, y⟩ := y
    subst e
    exact hs i x σ _ (y xs q) p
  · have e : i = xs.length := by omega
    subst e
    exact .inl ⟨⟨xs, q, Nat.le_refl _⟩, hd σ H p⟩
theorem for_tup {K : PySem.W.Frag} {a : Addr} {xs : List V} {g : TG} {tb : TS} {D : Ends} {σ : St} {H : Hp} (Pv : Nat → St → Hp → Prop) (h0 : Pv 0 σ H) (hl : ∀ i σ H, i ≤ xs.length → Pv i σ H → SqT K H a xs)
    (hs : ∀ i x σ H, xs[i]? = some x → Pv i σ H → g x σ H fun σ2 H2 => tb { D with nx := Pv (i + 1), ct := Pv (i + 1), bk := D.nx } σ2 H2) (hd : ∀ σ H, Pv xs.length σ H → D.nx σ H) :
    ∃ W : Nat → Nat → St → Hp → Prop, (∃ m, W 0 m σ H) ∧ ∀ i m σ H, W i m σ H →
      ((Itt K a).stop i H ∧ D.nx σ H) ∨ ((Itt K a).go i H ∧ ∃ N : St → Hp → Prop, (∀ σ' H', N σ' H' → ∃ m', m' < m ∧ W (i + 1) m' σ' H') ∧ ∀ x H', (Itt K a).yld i H x H' → g x σ H' fun σ2 H2 => tb { D with nx := N, ct := N, bk := D.nx } σ2 H2) := by
  refine ⟨fun i m σ H => m = xs.length - i ∧ i ≤ xs.length ∧ Pv i σ H, ⟨xs.length, by simp, Nat.zero_le _, h0⟩, ?_⟩
  rintro i m σ H ⟨rfl, hi, p⟩
  have q := hl i σ H hi p
  by_cases hlt : i < xs.length
  · refine .inr ⟨⟨xs, xs[i], q, by simp [hlt]⟩, Pv (i + 1), fun σ' H' p' => ⟨xs.length - (i + 1), by omega, rfl, hlt, p'⟩, fun x H' y => ?_⟩
    obtain ⟨e, y⟩ := y
    subst e
    exact hs i x σ _ (y xs q) p
  · have e : i = xs.length := by omega
    subst e
    exact .inl ⟨⟨xs, q, Nat.le_refl _⟩, hd σ H p⟩
theorem for_range {lo : Int} {n : Nat} {g : TG} {tb : TS} {D : Ends} {σ : St} {H : Hp} (Pv : Nat → St → Hp → Prop) (h0 : Pv 0 σ H)
    (hs : ∀ i σ H, i < n → Pv i σ H → g (.int (lo + i)) σ H fun σ2 H2 => tb { D with nx := Pv (i + 1), ct := Pv (i + 1), bk := D.nx } σ2 H2) (hd : ∀ σ H, Pv n σ H → D.nx σ H) :
    ∃ W : Nat → Nat → St → Hp → Prop, (∃ m, W 0 m σ H) ∧ ∀ i m σ H, W i m σ H →
      ((Itr lo n).stop i H ∧ D.nx σ H) ∨ ((Itr lo n).go i H ∧ ∃ N : St → Hp → Prop, (∀ σ' H', N σ' H' → ∃ m', m' < m ∧ W (i + 1) m' σ' H') ∧ ∀ x H', (Itr lo n).yld i H x H' → g x σ H' fun σ2 H2 => tb { D with nx := N, ct := N, bk := D.nx } σ2 H2) := by
  refine ⟨fun i m σ H => m = n - i ∧ i ≤ n ∧ Pv i σ H, ⟨n, by simp, Nat.zero_le _, h0⟩, ?_⟩
  rintro i m σ H ⟨rfl, hi, p⟩
  by_cases hlt : i < n
  · refine .inr ⟨hlt, Pv (i + 1), fun σ' H' p' => ⟨n - (i + 1), by omega, rfl, hlt, p'⟩, fun x H' y => ?_⟩
    obtain ⟨e, y⟩ := y
    subst e y
    exact hs i σ _ hlt p
  · have e : i = n := by omega
    subst e
    exact .inl ⟨Nat.le_refl _, hd σ H p⟩
end L2

namespace L2
open PySem PySem.Spec PyProof.Rows

abbrev R2 := V → V → Hp → VK → Prop
/-- a two-place operation on values: f is binaryOp op, inplaceOp op or compareOp op -/
def OpR (X : Cx) (f : Value → Value → Sem Value) (r : R2) : Prop :=
  ∀ (pins : List (Addr × Obj)) (s : Shared) (σ : St) (H : Hp) (x y : V) (v u : Value) (Q : VK), Inv X pins σ H s → RelV x v → RelV y u → r x y H Q →
    wpAny (model X.prog X.w) X.A (f v u) (EP X pins σ Q) X.xe s
/-- a one-place operation -/
def UnR (X : Cx) (f : Value → Sem Value) (r : V → Hp → VK → Prop) : Prop :=
  ∀ (pins : List (Addr × Obj)) (s : Shared) (σ : St) (H : Hp) (x : V) (v : Value) (Q : VK), Inv X pins σ H s → RelV x v → r x H Q →
    wpAny (model X.prog X.w) X.A (f v) (EP X pins σ Q) X.xe s
/-- a call of a value that is known (a builtin, a type) with values -/
def CallR (X : Cx) (f : Value) (r : List V → Hp → VK → Prop) : Prop :=
  ∀ (pins : List (Addr × Obj)) (s : Shared) (σ : St) (H : Hp) (xs : List V) (us : List Value) (Q : VK), Inv X pins σ H s → Vals xs us → r xs H Q →
    wpAny (model X.prog X.w) X.A (call f us) (EP X pins σ Q) X.xe s
/-- a value's truth -/
def TruR (X : Cx) (r : V → Hp → (Bool → Hp → Prop) → Prop) : Prop :=
  ∀ (pins : List (Addr × Obj)) (s : Shared) (σ : St) (H : Hp) (x : V) (v : Value) (Q : Bool → Hp → Prop), Inv X pins σ H s → RelV x v → r x H Q →
    wpAny (model X.prog X.w) X.A (truthy v) (TP X pins σ Q) X.xe s

def tOp (r : R2) (ta tb : TE) : TE := fun σ H Q => ta σ H fun x H1 => tb σ H1 fun y H2 => r x y H2 Q
def tUn (r : V → Hp → VK → Prop) (ta : TE) : TE := fun σ H Q => ta σ H fun x H1 => r x H1 Q
/-- ints in, under C, and a value out -/
def rI (C : Int → Int → Prop) (g : Int → Int → V) : R2 := fun x y H Q => ∃ i j, x = .int i ∧ y = .int j ∧ C i j ∧ Q (g i j) H
def rI0 (g : Int → Int → V) : R2 := fun x y H Q => ∃ i j, x = .int i ∧ y = .int j ∧ Q (g i j) H
def rU (g : Int → V) : V → Hp → VK → Prop := fun x H Q => ∃ i, x = .int i ∧ Q (g i) H

section
variable {X : Cx} {a b c : Expr} {ta tb tc : TE} {pos : Pos}

theorem binT (ha : PE X a ta) (hb : PE X b tb) {pins : List (Addr × Obj)} {s : Shared} {σ : St} {H : Hp} {R : V → V → Hp → Prop} (I : Inv X pins σ H s)
    (h : ta σ H fun x H1 => tb σ H1 fun y H2 => R x y H2) {Q : Value → Shared → Prop} {f : Value → Value → Sem Value}
    (hf : ∀ v u s2 x y H2, Inv X pins σ H2 s2 → RelV x v → RelV y u → R x y H2 → wpAny (model X.prog X.w) X.A (f v u) Q X.xe s2) :
    wpAny (model X.prog X.w) X.A (eval a X.env) (fun v s₁ => wpAny (model X.prog X.w) X.A (eval b X.env) (fun u s₂ => wpAny (model X.prog X.w) X.A (f v u) Q X.xe s₂) X.xe s₁) X.xe s := by
  refine thn (ha pins s σ H _ I h) fun v s1 ⟨x, H1, I1, r1, q1⟩ => ?_
  refine thn (hb pins s1 σ H1 _ I1 q1) fun u s2 ⟨y, H2, I2, r2, q2⟩ => ?_
  exact hf v u s2 x y H2 I2 r1 r2 q2

theorem pe_op {op : Operator} {r : R2} (ho : OpR X (binaryOp op) r) (ha : PE X a ta) (hb : PE X b tb) : PE X (.BinOp a op b pos) (tOp r ta tb) := by
  intro pins s σ H Q I h
  exact wpAny_BinOp (binT ha hb I h fun v u s2 x y H2 I2 rx ry q => ho pins s2 σ H2 x y v u Q I2 rx ry q)
theorem pe_un {op : UnaryOp} {r : V → Hp → VK → Prop} (ho : UnR X (unaryOp op) r) (ha : PE X a ta) : PE X (.UnaryOp op a pos) (tUn r ta) := by
  intro pins s σ H Q I h
  exact UnaryOp_ (thn (ha pins s σ H _ I h) fun v s1 ⟨x, H1, I1, r1, q1⟩ => ho pins s1 σ H1 x v Q I1 r1 q1)

/-! ### ints -/
theorem opI {f : Value → Value → Sem Value} {C : Int → Int → Prop} {g : Int → Int → Int}
    (rule : ∀ (i j : Int) (t u : Tok) (s : Shared) (Q : Value → Shared → Prop) (E : Value → Shared → Prop), C i j → Q (.int (g i j) s.toks) { s with toks := s.toks + 1 } → wpAny (model X.prog X.w) X.A (f (.int i t) (.int j u)) Q E s) :
    OpR X f (rI C fun i j => .int (g i j)) := by
  intro pins s σ H x y v u Q I rx ry h
  obtain ⟨i, j, rfl, rfl, hc, q⟩ := h
  obtain ⟨t, rfl⟩ := rx
  obtain ⟨t', rfl⟩ := ry
  exact rule i j t t' s _ _ hc ⟨.int (g i j), H, I.tok _, ⟨_, rfl⟩, q⟩
theorem opI0 {f : Value → Value → Sem Value} {g : Int → Int → Int}
    (rule : ∀ (i j : Int) (t u : Tok) (s : Shared) (Q : Value → Shared → Prop) (E : Value → Shared → Prop), Q (.int (g i j) s.toks) { s with toks := s.toks + 1 } → wpAny (model X.prog X.w) X.A (f (.int i t) (.int j u)) Q E s) :
    OpR X f (rI0 fun i j => .int (g i j)) := by
  intro pins s σ H x y v u Q I rx ry h
  obtain ⟨i, j, rfl, rfl, q⟩ := h
  obtain ⟨t, rfl⟩ := rx
  obtain ⟨t', rfl⟩ := ry
  exact rule i j t t' s _ _ ⟨.int (g i j), H, I.tok _, ⟨_, rfl⟩, q⟩
theorem opB0 {f : Value → Value → Sem Value} {g : Int → Int → Bool}
    (rule : ∀ (i j : Int) (t u : Tok) (s : Shared) (Q : Value → Shared → Prop) (E : Value → Shared → Prop), Q (.bool (g i j)) s → wpAny (model X.prog X.w) X.A (f (.int i t) (.int j u)) Q E s) :
    OpR X f (rI0 fun i j => .bl (g i j)) := by
  intro pins s σ H x y v u Q I rx ry h
  obtain ⟨i, j, rfl, rfl, q⟩ := h
  obtain ⟨t, rfl⟩ := rx
  obtain ⟨t', rfl⟩ := ry
  exact rule i j t t' s _ _ ⟨.bl (g i j), H, I, rfl, q⟩

def CDiv (i j : Int) : Prop := 0 < j ∧ j < 1073741824
def CMul (i j : Int) : Prop := (-(2 ^ 64) < i ∧ i < 2 ^ 64) ∨ (-(2 ^ 64) < j ∧ j < 2 ^ 64)
theorem CMul.ok {i j : Int} (h : CMul i j) : IntMulOk i j := by
  rcases h with ⟨h1, h2⟩ | ⟨h1, h2⟩
  · exact .of_left (intBits_le_64 h1 h2)
  · exact .of_right (intBits_le_64 h1 h2)

theorem op_add : OpR X (binaryOp .Add) (rI0 fun i j => .int (i + j)) := opI0 fun _ _ _ _ _ _ _ q => add_int q
theorem op_sub : OpR X (binaryOp .Sub) (rI0 fun i j => .int (i - j)) := opI0 fun _ _ _ _ _ _ _ q => sub_int q
theorem op_mul : OpR X (binaryOp .Mult) (rI CMul fun i j => .int (i * j)) := opI fun _ _ _ _ _ _ _ hc q => mul_int q hc.ok
/-- // by a positive divisor -/
theorem op_fdiv : OpR X (binaryOp .FloorDiv) (rI CDiv fun i j => .int (i / j)) := opI fun i j _ _ _ _ _ hc q => by
  have h1 : (0 : Int) < j := hc.1
  have h2 : j < 1073741824 := hc.2
  exact floordiv_int (by omega) (by rw [Int.fdiv_eq_ediv_of_nonneg i (by omega)]; exact q) (.inl (PyProof.noPylong_small (by omega)))
/-- % by a positive divisor of any size -/
theorem op_mod : OpR X (binaryOp .Mod) (rI (fun _ j => 0 < j) fun i j => .int (i % j)) := opI fun i j _ _ _ _ _ hc q => by
  have h1 : (0 : Int) < j := hc
  exact mod_int' (by omega) (by rw [Int.fmod_eq_emod_of_nonneg i (by omega)]; exact q)


theorem unI {f : Value → Sem Value} {g : Int → Int}
    (rule : ∀ (i : Int) (t : Tok) (s : Shared) (Q : Value → Shared → Prop) (E : Value → Shared → Prop), Q (.int (g i) s.toks) { s with toks := s.toks + 1 } → wpAny (model X.prog X.w) X.A (f (.int i t)) Q E s) :
    UnR X f (rU fun i => .int (g i)) := by
  intro pins s σ H x v Q I rx h
  obtain ⟨i, rfl, q⟩ := h
  obtain ⟨t, rfl⟩ := rx
  exact rule i t s _ _ ⟨.int (g i), H, I.tok _, ⟨_, rfl⟩, q⟩
theorem un_neg : UnR X (unaryOp .USub) (rU fun i => .int (-i)) := unI fun _ _ _ _ _ q => neg_int q

/-! ### bools among ints: n += (a < b) -/
end

/-! ### comparisons -/
/-- the scalars that == tells apart as data does -/
def scal : V → V → Bool
  | .non, .non => true | .non, .int _ => true | .int _, .non => true | .non, .bl _ => true | .bl _, .non => true | .non, .str _ => true | .str _, .non => true
  | .int _, .int _ => true | .bl _, .bl _ => true | .str _, .str _ => true | .byt _, .byt _ => true
  | .int _, .str _ => true | .str _, .int _ => true | .bl _, .str _ => true | .str _, .bl _ => true
  | _, _ => false
def rEq : R2 := fun x y H Q => scal x y = true ∧ Q (.bl (decide (x = y))) H
def rNe : R2 := fun x y H Q => scal x y = true ∧ Q (.bl (!decide (x = y))) H

theorem dec_int {i j : Int} : decide (V.int i = V.int j) = (i == j) := by
  rw [Bool.eq_iff_iff]
  simp
theorem dec_bl {i j : Bool} : decide (V.bl i = V.bl j) = (i == j) := by
  rw [Bool.eq_iff_iff]
  simp
theorem dec_str {i j : Str} : decide (V.str i = V.str j) = (i == j) := by
  rw [Bool.eq_iff_iff]
  simp
theorem dec_byt {i j : Array UInt8} : decide (V.byt i = V.byt j) = (i.toList == j.toList) := by
  rw [Bool.eq_iff_iff]
  cases i
  cases j
  simp

section
variable {X : Cx} {a b c : Expr} {ta tb tc : TE} {pos : Pos}
theorem fin_bl {pins : List (Addr × Obj)} {σ : St} {H : Hp} {s : Shared} {Q : VK} {k k' : Bool} (I : Inv X pins σ H s) (q : Q (.bl k) H) (e : k = k') : EP X pins σ Q (.bool k') s := by
  subst e
  exact ⟨.bl k, H, I, rfl, q⟩
theorem op_eq : OpR X (compareOp .Eq) rEq := by
  intro pins s σ H x y v u Q I rx ry h
  obtain ⟨hs, q⟩ := h
  cases x with
  | non =>
    cases rx
    cases y with
    | non => cases ry; exact PySem.EqNone.eq_none_none (fin_bl I q (by simp))
    | bl j => cases ry; exact PySem.EqNone.eq_none_bool (fin_bl I q (by simp))
    | int j => obtain ⟨t', rfl⟩ := ry; exact PySem.EqNone.eq_none_int (fin_bl I q (by simp))
    | str j => obtain ⟨t', rfl⟩ := ry; exact PySem.EqNone.eq_none_str (fin_bl I q (by simp))
    | _ => exact absurd (show false = true from hs) Bool.false_ne_true
  | bl i =>
    cases rx
    cases y with
    | non => cases ry; exact PySem.EqNone.eq_bool_none (fin_bl I q (by simp))
    | bl j => cases ry; exact eq_bool (fin_bl I q dec_bl)
    | str j => obtain ⟨t', rfl⟩ := ry; exact PySem.EqMixed.eq_bool_str (fin_bl I q (by simp))
    | _ => exact absurd (show false = true from hs) Bool.false_ne_true
  | int i =>
    obtain ⟨t, rfl⟩ := rx
    cases y with
    | non => cases ry; exact PySem.EqNone.eq_int_none (fin_bl I q (by simp))
    | int j => obtain ⟨t', rfl⟩ := ry; exact eq_int (fin_bl I q dec_int)
    | str j => obtain ⟨t', rfl⟩ := ry; exact PySem.EqMixed.eq_int_str (fin_bl I q (by simp))
    | _ => exact absurd (show false = true from hs) Bool.false_ne_true
  | str i =>
    obtain ⟨t, rfl⟩ := rx
    cases y with
    | non => cases ry; exact PySem.EqNone.eq_str_none (fin_bl I q (by simp))
    | bl j => cases ry; exact PySem.EqMixed.eq_str_bool (fin_bl I q (by simp))
    | int j => obtain ⟨t', rfl⟩ := ry; exact PySem.EqMixed.eq_str_int (fin_bl I q (by simp))
    | str j => obtain ⟨t', rfl⟩ := ry; exact eq_str (fin_bl I q dec_str)
    | _ => exact absurd (show false = true from hs) Bool.false_ne_true
  | byt i =>
    obtain ⟨t, rfl⟩ := rx
    cases y with
    | byt j => obtain ⟨t', rfl⟩ := ry; exact PySem.W.eq_bytes (fin_bl I q dec_byt)
    | _ => exact absurd (show false = true from hs) Bool.false_ne_true
  | _ => cases y <;> exact absurd (show false = true from hs) Bool.false_ne_true
theorem op_ne : OpR X (compareOp .NotEq) rNe := by
  intro pins s σ H x y v u Q I rx ry h
  obtain ⟨hs, q⟩ := h
  cases x with
  | non =>
    cases rx
    cases y with
    | non => cases ry; exact PySem.EqNone.ne_none_none (fin_bl I q (by simp))
    | bl j => cases ry; exact PySem.EqNone.ne_none_bool (fin_bl I q (by simp))
    | int j => obtain ⟨t', rfl⟩ := ry; exact PySem.EqNone.ne_none_int (fin_bl I q (by simp))
    | str j => obtain ⟨t', rfl⟩ := ry; exact PySem.EqNone.ne_none_str (fin_bl I q (by simp))
    | _ => exact absurd (show false = true from hs) Bool.false_ne_true
  | bl i =>
    cases rx
    cases y with
    | non => cases ry; exact PySem.EqNone.ne_bool_none (fin_bl I q (by simp))
    | bl j => cases ry; exact ne_bool (fin_bl I q (congrArg not dec_bl))
    | str j => obtain ⟨t', rfl⟩ := ry; exact PySem.EqMixed.ne_bool_str (fin_bl I q (by simp))
    | _ => exact absurd (show false = true from hs) Bool.false_ne_true
  | int i =>
    obtain ⟨t, rfl⟩ := rx
    cases y with
    | non => cases ry; exact PySem.EqNone.ne_int_none (fin_bl I q (by simp))
    | int j => obtain ⟨t', rfl⟩ := ry; exact ne_int (fin_bl I q (congrArg not dec_int))
    | str j => obtain ⟨t', rfl⟩ := ry; exact PySem.EqMixed.ne_int_str (fin_bl I q (by simp))
    | _ => exact absurd (show false = true from hs) Bool.false_ne_true
  | str i =>
    obtain ⟨t, rfl⟩ := rx
    cases y with
    | non => cases ry; exact PySem.EqNone.ne_str_none (fin_bl I q (by simp))
    | bl j => cases ry; exact PySem.EqMixed.ne_str_bool (fin_bl I q (by simp))
    | int j => obtain ⟨t', rfl⟩ := ry; exact PySem.EqMixed.ne_str_int (fin_bl I q (by simp))
    | str j => obtain ⟨t', rfl⟩ := ry; exact ne_str (fin_bl I q (congrArg not dec_str))
    | _ => exact absurd (show false = true from hs) Bool.false_ne_true
  | byt i =>
    obtain ⟨t, rfl⟩ := rx
    cases y with
    | byt j => obtain ⟨t', rfl⟩ := ry; exact PySem.W.ne_bytes (fin_bl I q (congrArg not dec_byt))
    | _ => exact absurd (show false = true from hs) Bool.false_ne_true
  | _ => cases y <;> exact absurd (show false = true from hs) Bool.false_ne_true

theorem op_lt : OpR X (compareOp .Lt) (rI0 fun i j => .bl (decide (i < j))) := opB0 fun _ _ _ _ _ _ _ q => lt_int q
theorem op_le : OpR X (compareOp .LtE) (rI0 fun i j => .bl (decide (i ≤ j))) := opB0 fun _ _ _ _ _ _ _ q => le_int q

theorem op_notN : OpR X (compareOp .IsNot) (fun x y H Q => y = .non ∧ Q (.bl (!decide (x = .non))) H) := by
  intro pins s σ H x y v u Q I rx ry h
  obtain ⟨rfl, q⟩ := h
  cases ry
  refine isnot_none_gen (fin_bl I q ?_)
  cases x <;> first
    | (cases rx; rfl)
    | (obtain ⟨t, rfl⟩ := rx; rfl)



theorem nomark (b : Expr) {op : CmpOp} (h : op ≠ .In := by decide) (h2 : op ≠ .NotIn := by decide) : behindInMarks op b = false := by
  have e1 : (op == CmpOp.In) = false := by cases op <;> first | rfl | exact absurd rfl h
  have e2 : (op == CmpOp.NotIn) = false := by cases op <;> first | rfl | exact absurd rfl h2
  cases b <;> simp [behindInMarks, e1, e2]
/-- a comparison as a value; hm: nomark b, or (for in, not in) by with_unfolding_all rfl -/
theorem pe_cmpR {op : CmpOp} {r : R2} (ho : OpR X (compareOp op) r) (ha : PE X a ta) (hb : PE X b tb) (hm : behindInMarks op b = false) : PE X (.Compare a [op] [b] pos) (tOp r ta tb) := by
  intro pins s σ H Q I h
  exact wpAny_Compare1 (binT ha hb I h fun v u s2 x y H2 I2 rx ry q => ho pins s2 σ H2 x y v u Q I2 rx ry q) hm
/-- a reading of a value as a test -/
def tTest (t : TE) : TT := fun σ H Q => t σ H fun x H' => ∃ k, x = .bl k ∧ Q k H'
theorem pt_cmpR {op : CmpOp} {r : R2} (ho : OpR X (compareOp op) r) (ha : PE X a ta) (hb : PE X b tb) (hm : behindInMarks op b = false) : PT X (.Compare a [op] [b] pos) (tTest (tOp r ta tb)) := by
  intro pins s σ H Q I h
  refine wpAny_isTrue_Compare1 (thn (ha pins s σ H _ I h) fun v s1 ⟨x, H1, I1, r1, q1⟩ => thn (hb pins s1 σ H1 _ I1 q1) fun u s2 ⟨y, H2, I2, r2, q2⟩ =>
    thn (ho pins s2 σ H2 x y v u _ I2 r1 r2 q2) fun c s3 ⟨z, H3, I3, r3, k, e, q3⟩ => ?_) hm
  subst e
  cases r3
  exact wpAny_truthy_bool ⟨H3, I3, q3⟩
/-- a op1 b op2 c -/
def tChain (r r' : R2) (ta tb tc : TE) : TE := fun σ H Q => ta σ H fun x H1 => tb σ H1 fun y H2 => r x y H2 fun z H3 => ∃ k, z = .bl k ∧
  (if k = true then tc σ H3 fun w' H4 => r' y w' H4 Q else Q (.bl false) H3)
theorem pe_chain {op op' : CmpOp} {r r' : R2} (ho : OpR X (compareOp op) r) (ho' : OpR X (compareOp op') r') (ha : PE X a ta) (hb : PE X b tb) (hc : PE X c tc)
    (hm : lastMarks [op, op'] [b, c] = false := by with_unfolding_all rfl) : PE X (.Compare a [op, op'] [b, c] pos) (tChain r r' ta tb tc) := by
  intro pins s σ H Q I h
  refine Compare_chain (thn (ha pins s σ H _ I h) fun v s1 ⟨x, H1, I1, r1, q1⟩ => chain_link (thn (hb pins s1 σ H1 _ I1 q1) fun u s2 ⟨y, H2, I2, r2, q2⟩ =>
    thn (ho pins s2 σ H2 x y v u _ I2 r1 r2 q2) fun d s3 ⟨z, H3, I3, r3, k, e, q3⟩ => ?_)) hm
  subst e
  cases r3
  refine wpAny_truthy_bool ?_
  cases k with
  | false => exact ite_ff ⟨.bl false, H3, I3, rfl, q3⟩
  | true => exact ite_tt (chain_last (thn (hc pins s3 σ H3 _ I3 q3) fun w' s4 ⟨z', H4, I4, r4, q4⟩ => ho' pins s4 σ H4 y z' u w' Q I4 r2 r4 q4))

/-! ### truth -/
/-- a value's truth by the abstract heap -/
def TruV (K : PySem.W.Frag) (x : V) (H : Hp) (k : Bool) : Prop :=
  match x with
  | .non => k = false
  | .bl b => k = b
  | .int i => k = (i != 0)
  | .str y => y.length ≤ sizeLine ∧ k = ((y.length : Int) != 0)
  | .byt y => y.size ≤ sizeLine ∧ k = ((y.size : Int) != 0)
  | .ref p => (∃ xs, SqL K H p xs ∧ k = !xs.isEmpty) ∨ (∃ xs, SqT K H p xs ∧ k = !xs.isEmpty) ∨ ∃ kvs, H p = some (.dK kvs) ∧ k = !kvs.isEmpty
  | _ => False
theorem isEmpty_kv {κ : Type} {kvs : List (κ × V)} {vs : List (κ × Value)} (r : KV kvs vs) : (!vs.isEmpty) = !kvs.isEmpty := by
  cases r <;> rfl
theorem isEmpty_of {xs : List V} {its : List Value} (r : Vals xs its) : (!its.toArray.isEmpty) = !xs.isEmpty := by
  cases r <;> simp
theorem line63 : (sizeLine : Nat) < 2 ^ 63 := by rw [sizeLine_eq]; decide
theorem tru_ok : TruR X (fun x H Q => ∃ k, TruV X.K x H k ∧ Q k H) := by
  intro pins s σ H x v Q I rx h
  obtain ⟨k, e, q⟩ := h
  have hl := line63
  have hs : sizeLine = 16777216 := sizeLine_eq
  cases x with
  | non =>
    cases rx
    have e' : k = false := e
    subst e'
    exact truthy_none ⟨H, I, q⟩
  | bl b =>
    cases rx
    have e' : k = b := e
    subst e'
    exact wpAny_truthy_bool ⟨H, I, q⟩
  | int i =>
    obtain ⟨t, rfl⟩ := rx
    have e' : k = (i != 0) := e
    subst e'
    exact PySem.P.truthy_int ⟨H, I, q⟩
  | str y =>
    obtain ⟨t, rfl⟩ := rx
    obtain ⟨hy, e'⟩ : y.length ≤ sizeLine ∧ k = ((y.length : Int) != 0) := e
    subst e'
    exact PySem.P.truthy_str (by omega) ⟨H, I.tok _, q⟩
  | byt y =>
    obtain ⟨t, rfl⟩ := rx
    obtain ⟨hy, e'⟩ : y.size ≤ sizeLine ∧ k = ((y.size : Int) != 0) := e
    subst e'
    exact PySem.W.truthy_bytes (by omega) ⟨H, I.tok _, q⟩
  | ref p =>
    cases rx
    have e' : (∃ xs, SqL X.K H p xs ∧ k = !xs.isEmpty) ∨ (∃ xs, SqT X.K H p xs ∧ k = !xs.isEmpty) ∨ ∃ kvs, H p = some (.dK kvs) ∧ k = !kvs.isEmpty := e
    rcases e' with ⟨xs, hx, e'⟩ | ⟨xs, hx, e'⟩ | ⟨kvs, hx, e'⟩
    · subst e'
      obtain ⟨its, r, pl, hz⟩ := I.list hx
      have hlen := r.length
      exact wpAny_truthy_list pl.isList (by simp only [List.size_toArray]; omega) ⟨H, I.tok _, by rw [isEmpty_of r]; exact q⟩
    · subst e'
      obtain ⟨its, r, pl, hz⟩ := I.tuple hx
      have hlen := r.length
      exact truthy_tuple pl (by simp only [List.size_toArray]; omega) ⟨H, I.tok _, by rw [isEmpty_of r]; exact q⟩
    · subst e'
      obtain ⟨hz, hS, vs, r, m⟩ : kvs.length ≤ sizeLine ∧ (p == sysModules) = false ∧ ∃ vs, KV kvs vs ∧ s.heap.DictOf (mixKind X.prog X.w) p vs := I.hok p _ hx
      have hlen : kvs.length = vs.length := Paired.length r
      exact wpAny_truthy_dict hS m (by omega) ⟨H, I.tok _, by rw [isEmpty_kv r]; exact q⟩
  | _ => exact (show False from e).elim
/-- any expression whose test is its value's truth (a name, a call, a subscript, a field ..: he by fun _ => rfl) -/
theorem pt_truth (ha : PE X a ta) (he : ∀ whole, isTrue a X.env whole = (do let v ← whole; standAt a.pos; holding [v] (truthy v))) :
    PT X a (fun σ H Q => ta σ H fun x H' => ∃ k, TruV X.K x H' k ∧ Q k H') := by
  intro pins s σ H Q I h
  exact isTrue_plain (thn (ha pins s σ H _ I h) fun v s1 ⟨x, H1, I1, r1, q1⟩ => tru_ok pins s1 σ H1 x v Q I1 r1 q1) (he _)

/-! ### strs and bytes -/
theorem op_add_str : OpR X (binaryOp .Add) (fun x y H Q => ∃ i j, x = .str i ∧ y = .str j ∧ i.length + j.length ≤ sizeLine ∧ Q (.str (i ++ j)) H) := by
  intro pins s σ H x y v u Q I rx ry h
  obtain ⟨i, j, rfl, rfl, hz, q⟩ := h
  obtain ⟨t, rfl⟩ := rx
  obtain ⟨t', rfl⟩ := ry
  exact add_str (fun t' tk => ⟨.str (i ++ j), H, I.tok _, ⟨_, rfl⟩, q⟩) hz


/-! ### scalar builtins, by CallR -/
theorem vals1 {x : V} {us : List Value} (r : Vals [x] us) : ∃ u, us = [u] ∧ RelV x u := by
  cases r with
  | cons r1 r2 => cases r2; exact ⟨_, rfl, r1⟩
theorem vals2 {x y : V} {us : List Value} (r : Vals [x, y] us) : ∃ u w', us = [u, w'] ∧ RelV x u ∧ RelV y w' := by
  cases r with
  | cons r1 r2 =>
    cases r2 with
    | cons r3 r4 => cases r4; exact ⟨_, _, rfl, r1, r3⟩
theorem call_max2 (hc : X.calm = true) : CallR X (.builtin "max") (fun xs H Q => ∃ i j, xs = [.int i, .int j] ∧ Q (.int (if j > i then j else i)) H) := by
  intro pins s σ H xs us Q I r h
  obtain ⟨i, j, rfl, q⟩ := h
  obtain ⟨u, w', rfl, ⟨t, rfl⟩, ⟨t', rfl⟩⟩ := vals2 r
  refine max_two_ints (I.ok.hd hc) fun h' tk k => ⟨_, H, I.kept k, ?_, q⟩
  by_cases hj : j > i
  · rw [if_pos hj, if_pos hj]; exact ⟨_, rfl⟩
  · rw [if_neg hj, if_neg hj]; exact ⟨_, rfl⟩
theorem call_str_int : CallR X (.type "str") (fun xs H Q => ∃ i, xs = [.int i] ∧ i.natAbs.log2 < 1920 ∧ Q (.str (toString i)) H) := by
  intro pins s σ H xs us Q I r h
  obtain ⟨i, rfl, hz, q⟩ := h
  obtain ⟨u, rfl, t, rfl⟩ := vals1 r
  exact PySem.P.str_of_int hz ⟨.str _, H, I.tok _, ⟨_, rfl⟩, q⟩
theorem call_ord : CallR X (.builtin "ord") (fun xs H Q => ∃ x, xs = [.str x] ∧ x.length = 1 ∧ Q (.int (x.cps.getD 0 0 : Nat)) H) := by
  intro pins s σ H xs us Q I r h
  obtain ⟨x, rfl, hz, q⟩ := h
  obtain ⟨u, rfl, t, rfl⟩ := vals1 r
  exact ord_of_one hz ⟨.int _, H, I.tok _, ⟨_, rfl⟩, q⟩
end
end L2

namespace L2
open PySem PySem.Spec PyProof.Rows

/-! ### an instance, its attributes a map -/
structure ObjM (h : Heap) (x dx C : Addr) (mA : Str → Option Value) : Prop where
  obj : h.get? x = some (PySem.W.instObj C dx)
  ns : h.Ns1 dx mA
  ne : dx ≠ x

theorem lookIn_ns {h : Heap} {dx : Addr} {mA : Str → Option Value} (n : h.Ns1 dx mA) : ∃ od, h.get? dx = some od ∧ ∀ name, PySem.W.lookIn name od = some (mA name) := by
  obtain ⟨o, es, ep, ho, hd, hk, _, hm⟩ := n
  refine ⟨o, ho, fun name => ?_⟩
  have e := hm name
  unfold nsFind findBy at e
  rw [← Array.find?_toList] at e
  unfold PySem.W.lookIn
  rw [hd]
  dsimp only
  split
  · rename_i y q
    rw [q] at e
    exact congrArg some e
  · rename_i q
    rw [q] at e
    have a : es.toList.any (·.refKey) = false := by
      rw [List.any_eq_false]
      intro y hy
      obtain ⟨z, t, hkey⟩ := hk y (Array.mem_toList_iff.mp hy)
      simp [DictEntry.refKey, hkey]
    have a' : ¬ es.toList.any (·.refKey) = true := by rw [a]; exact Bool.false_ne_true
    rw [if_neg a']
    exact congrArg some e

theorem ObjM.look {h : Heap} {x dx C : Addr} {mA : Str → Option Value} (I : ObjM h x dx C mA) : ∃ od, PySem.W.InstAt h x (PySem.W.instObj C dx) C (some od) ∧ ∀ name, PySem.W.lookIn name od = some (mA name) :=
  let ⟨od, ho, hl⟩ := lookIn_ns I.ns
  ⟨od, ⟨I.obj, rfl, rfl, ho⟩, hl⟩

section
variable {prog : Program} {w : World} {A : Around} {E : Value → Shared → Prop} {s : Shared} {K : PySem.W.Frag} {x dx C f : Addr} {mA : Str → Option Value} {name : Str} {v : Value}

theorem get_map {expr : Bool} {Q : Value → Shared → Prop} (X : K.In s.heap) (I : ObjM s.heap x dx C mA) (hg : PySem.W.plainGet K C name = true) (hh : PySem.W.hasDictIn K C = true)
    (ha : PySem.W.findIn K (.ref C) name = some none) (hv : mA name = some v) (hv' : PySem.W.handedIn v = true) (h : Q v { s with toks := s.toks + 1 }) :
    wpAny (model prog w) A (getAttr (.ref x) name expr) Q E s := by
  obtain ⟨od, J, hl⟩ := I.look
  exact PySem.W.get_value X J (PySem.W.plainGet_of hg).1 (PySem.W.findObj_own hh ha rfl (by rw [hl, hv])) hv' h


theorem get_meth {pl : Sem Bool} {Q : Value × List Value → Shared → Prop} (X : K.In s.heap) (I : ObjM s.heap x dx C mA) (hg : PySem.W.plainGet K C name = true)
    (hf : PySem.W.findIn K (.ref C) name = some (some (.ref f))) (ht : PySem.W.isFn K (.ref f) = true) (hv : mA name = none) (h : Q (.ref f, [.ref x]) s) :
    wpAny (model prog w) A (getMethod (.ref x) name pl) Q E s := by
  obtain ⟨od, J, hl⟩ := I.look
  exact PySem.W.method_fn X J (PySem.W.plainGet_of hg).1 (PySem.W.plainGet_of hg).2 hf (beq_iff_eq.mp ht) (by show (PySem.W.lookIn name od).map (·.isSome) = some false; rw [hl, hv]; rfl) h

theorem set_map {ns : List Str} {Q : Unit → Shared → Prop} (X : K.In s.heap) (I : ObjM s.heap x dx C mA)
    (hs : PySem.W.findIn K (.ref C) "__setattr__" = some (some (.builtin "object.__setattr__"))) (hp : PySem.W.plainOver K C = true) (ht : PySem.W.takerIn K C name = some none) (hh : PySem.W.hasDictIn K C = true)
    (hw : PySem.Within mA ns) (hsz : ns.length ≤ sizeLine)
    (h : ∀ h', ObjM h' x dx C (fun y => if y = name then some v else mA y) → Heap.SameBut dx s.heap h' → Q () { s with heap := h', toks := s.toks + 2 }) :
    wpAny (model prog w) A (setAttr (.ref x) name v) Q E s := by
  obtain ⟨od, J, hl⟩ := I.look
  refine PySem.W.set_plain X J hs (PySem.W.osa_open (s := { s with toks := s.toks + 1 }) (r := none) X J hp ht fun b => ?_)
  obtain ⟨cd, hc, hd'⟩ := PySem.W.any_some hh
  have hx : s.heap.get? x = some ⟨.ref C, some dx, .plain, #[]⟩ := I.obj
  refine wpAny_bind (wpAny_pure (wpAny_bind (wpAny_bind (wpAny_loadPart hx (wpAny_bind (PySem.W.Looks.here (s := { s with toks := s.toks + 1 }) (PySem.W.looks_clsIn X hc) ?_))))))
  rw [hd']
  refine wpAny_pure (a := some dx) (wpAny_bind (wpAny_pure (wpAny_bind ?_)))
  refine wpAny_nsSet1 (s := { s with toks := s.toks + 1 }) I.ns fun h' hn2 hs2 => ?_
  obtain ⟨oD, esD, epD, hoD, hdD, hcD⟩ := hn2.count (PySem.Within.cons name v hw)
  refine wpAny_bind (wpAny_lookBehind hoD (by rw [hdD]; exact pastItsLine_dict (Nat.le_trans hcD (by rw [List.length_cons]; omega))) ?_)
  exact wpAny_pure (h _ ⟨(hs2.2 _ (Ne.symm I.ne)).trans I.obj, hn2, I.ne⟩ hs2)

/-- C(..): the dict at the heap's end, the instance behind it; then its __init__ -/
theorem make_map {R : Result → Shared → Prop} {vs : List Value} {kw : List (Str × Value)} (X : K.In s.heap) (hm : PySem.W.makesIn K C = true)
    (hi : PySem.W.findIn K (.ref C) "__init__" = some (some (.ref f))) (hf : PySem.W.typeIn K (.ref f) = some (.type "function"))
    (h : codeAny (model prog w) (A.under (.builtin "type.__call__" ⟨.ref C :: vs, kw⟩)) (.call (.ref f) ⟨.ref (s.heap.objs.size + 1) :: vs, kw⟩) (PySem.W.InitBack (s.heap.objs.size + 1) R)
      { s with heap := (s.heap.push PySem.W.emptyDict).push (PySem.W.instObj C s.heap.objs.size) }) :
    codeAny (model prog w) A (.call (.ref C) ⟨vs, kw⟩) R s := by
  obtain ⟨hh, g, d, t, os⟩ := s
  exact PySem.W.make_core (PySem.W.makes_of X hm) (PySem.W.looks_findIn X hi) (fun self => PySem.W.bind_fn X self hf) (.inl rfl) h
end

/-! ### the attributes as a list of pairs -/
def putF (f : Str) (v : V) : List (Str × V) → List (Str × V)
  | [] => [(f, v)]
  | (g, x) :: r => if g = f then (g, v) :: r else (g, x) :: putF f v r
theorem lookup_putF (f g : Str) (v : V) : ∀ fs : List (Str × V), (putF f v fs).lookup g = if g = f then some v else fs.lookup g
  | [] => by
    show List.lookup g [(f, v)] = _
    by_cases h : g = f
    · have hb : (g == f) = true := beq_iff_eq.mpr h
      simp only [List.lookup, hb, if_pos h]
    · have hb : (g == f) = false := beq_eq_false_iff_ne.mpr h
      simp only [List.lookup, hb, if_neg h]
  | (k, x) :: r => by
    have ih := lookup_putF f g v r
    rw [show putF f v ((k, x) :: r) = (if k = f then (k, v) :: r else (k, x) :: putF f v r) from rfl]
    by_cases hk : k = f
    · rw [if_pos hk]
      by_cases h : g = k
      · have hb : (g == k) = true := beq_iff_eq.mpr h
        simp only [List.lookup, hb, if_pos (h.trans hk)]
      · have hb : (g == k) = false := beq_eq_false_iff_ne.mpr h
        simp only [List.lookup, hb, if_neg (fun e : g = f => h (e.trans hk.symm))]
    · rw [if_neg hk]
      by_cases h : g = k
      · have hb : (g == k) = true := beq_iff_eq.mpr h
        simp only [List.lookup, hb, if_neg (fun e : g = f => hk (h.symm.trans e))]
      · have hb : (g == k) = false := beq_eq_false_iff_ne.mpr h
        simp only [List.lookup, hb]
        exact ih
theorem keys_putF (f : Str) (v : V) : ∀ fs : List (Str × V), f ∈ (putF f v fs).map (·.1) ∧ ∀ g, g ∈ fs.map (·.1) → g ∈ (putF f v fs).map (·.1)
  | [] => ⟨by simp [putF], fun g h => by simp at h⟩
  | (k, x) :: r => by
    obtain ⟨i1, i2⟩ := keys_putF f v r
    rw [show putF f v ((k, x) :: r) = (if k = f then (k, v) :: r else (k, x) :: putF f v r) from rfl]
    by_cases hk : k = f
    · rw [if_pos hk]
      subst hk
      exact ⟨by simp, fun g h => by simpa using h⟩
    · rw [if_neg hk]
      refine ⟨?_, fun g h => ?_⟩
      · rw [List.map_cons]
        exact List.mem_cons_of_mem _ i1
      · rw [List.map_cons] at h ⊢
        rcases List.mem_cons.mp h with e | e
        · exact List.mem_cons.mpr (.inl e)
        · exact List.mem_cons_of_mem _ (i2 g e)
theorem length_putF (f : Str) (v : V) : ∀ fs : List (Str × V), (putF f v fs).length ≤ fs.length + 1
  | [] => by simp [putF]
  | (k, x) :: r => by
    have ih := length_putF f v r
    rw [show putF f v ((k, x) :: r) = (if k = f then (k, v) :: r else (k, x) :: putF f v r) from rfl]
    by_cases hk : k = f
    · rw [if_pos hk, List.length_cons, List.length_cons]; omega
    · rw [if_neg hk, List.length_cons, List.length_cons]; omega

theorem RelO.some_of {v : V} {o : Option Value} (r : RelO (some v) o) : ∃ u, o = some u ∧ RelV v u := by
  cases o with
  | none => exact (show False from r).elim
  | some u => exact ⟨u, rfl, r⟩
theorem RelO.none_of {o : Option Value} (r : RelO none o) : o = none := by
  cases o with
  | none => rfl
  | some u => exact (show False from r).elim
theorem handed_of {v : V} {u : Value} (r : RelV v u) : PySem.W.handedIn u = true := by
  cases v with
  | non => cases (show u = Value.none from r); rfl
  | bl b => cases (show u = Value.bool b from r); rfl
  | int i => obtain ⟨t, e⟩ := (show ∃ t, u = Value.int i t from r); cases e; rfl
  | str x => obtain ⟨t, e⟩ := (show ∃ t, u = Value.str x t from r); cases e; rfl
  | byt b => obtain ⟨t, e⟩ := (show ∃ t, u = Value.bytes b t from r); cases e; rfl
  | flt b => obtain ⟨t, e⟩ := (show ∃ t, u = Value.float b t from r); cases e; rfl
  | ref a => cases (show u = Value.ref a from r); rfl
  | ty n => cases (show u = Value.type n from r); rfl

section
variable {P : Program} {w : World} {H H' : Hp} {h h' : Heap} {a C dx : Addr} {fs fs' : List (Str × V)}
theorem ins_get (hok : HOk P w H h) (e : H a = some (.ins C dx fs)) : ∃ mA, ObjM h a dx C mA ∧ (∀ f, RelO (fs.lookup f) (mA f)) ∧ PySem.Within mA (fs.map (·.1)) ∧ fs.length ≤ 1000 ∧ H dx = some (.own a) := by
  obtain ⟨d, z, ne, ob, mA, n, r, q⟩ := (show ObjOk P w H h a (.ins C dx fs) from hok a _ e)
  exact ⟨mA, ⟨ob, n, ne⟩, r, q, z, d⟩
end

/-! ### what of the text a class must have -/
structure Cls (K : PySem.W.Frag) (C : Addr) : Prop where
  pg : PySem.W.plainGet K C Str.empty = true
  hd : PySem.W.hasDictIn K C = true
  po : PySem.W.plainOver K C = true
  sa : PySem.W.findIn K (.ref C) "__setattr__" = some (some (.builtin "object.__setattr__"))
theorem Cls.get {K : PySem.W.Frag} {C : Addr} (c : Cls K C) (f : Str) : PySem.W.plainGet K C f = true := c.pg
/-- no class of it has the name -/
def NoAttr (K : PySem.W.Frag) (C : Addr) (f : Str) : Prop := PySem.W.findIn K (.ref C) f = some none
theorem NoAttr.taker {K : PySem.W.Frag} {C : Addr} {f : Str} (n : NoAttr K C f) : PySem.W.takerIn K C f = some none := by
  unfold PySem.W.takerIn
  rw [show PySem.W.findIn K (.ref C) f = some none from n]
  rfl
/-- a method: a plain def of the class or of one above it -/
structure Meth (K : PySem.W.Frag) (C : Addr) (m : Str) (f : Addr) : Prop where
  at_ : PySem.W.findIn K (.ref C) m = some (some (.ref f))
  fn : PySem.W.isFn K (.ref f) = true
  kp : PySem.W.keepIn K (.ref f) = true

section
variable {X : Cx} {pins : List (Addr × Obj)} {σ : St} {H : Hp} {s : Shared} {a C dx : Addr} {fs : List (Str × V)} {f : Str} {v : V} {A : Around} {E : Value → Shared → Prop}

theorem getattr_ok {b : Bool} {Q : Value → Shared → Prop} (I : Inv X pins σ H s) (e : H a = some (.ins C dx fs)) (c : Cls X.K C) (n : NoAttr X.K C f) (l : fs.lookup f = some v)
    (h : ∀ u s', Inv X pins σ H s' → RelV v u → Q u s') : wpAny (model X.prog X.w) A (getAttr (.ref a) f b) Q E s := by
  obtain ⟨mA, O, r, _, _, _⟩ := ins_get I.hok e
  obtain ⟨u, hu, ru⟩ := RelO.some_of (v := v) (o := mA f) (by rw [← l]; exact r f)
  exact get_map I.kIn O (c.get f) c.hd n hu (handed_of ru) (h u _ (I.tok _) ru)


theorem getmeth_ok {m : Str} {g : Addr} {pl : Sem Bool} {Q : Value × List Value → Shared → Prop} (I : Inv X pins σ H s) (e : H a = some (.ins C dx fs)) (c : Cls X.K C) (k : Meth X.K C m g) (l : fs.lookup m = none)
    (h : Q (.ref g, [.ref a]) s) : wpAny (model X.prog X.w) A (getMethod (.ref a) m pl) Q E s := by
  obtain ⟨mA, O, r, _, _, _⟩ := ins_get I.hok e
  have hn : mA m = none := RelO.none_of (by rw [← l]; exact r m)
  exact get_meth I.kIn O (c.get m) k.at_ k.fn hn h

theorem setattr_ok {y : V} {u : Value} {Q : Unit → Shared → Prop} (I : Inv X pins σ H s) (e : H a = some (.ins C dx fs)) (c : Cls X.K C) (n : NoAttr X.K C f) (hl : fs.length < 1000) (ry : RelV y u)
    (h : ∀ s', Inv X pins σ (upd H a (.ins C dx (putF f y fs))) s' → Q () s') : wpAny (model X.prog X.w) A (setAttr (.ref a) f u) Q E s := by
  obtain ⟨mA, O, r, wi, _, ho⟩ := ins_get I.hok e
  have hz : (fs.map (·.1)).length ≤ sizeLine := by rw [List.length_map, sizeLine_eq]; omega
  refine set_map I.kIn O c.sa c.po n.taker c.hd wi hz fun h' O' sb => h _ ?_
  have hd : ∃ o, h'.get? dx = some o := let ⟨o, _, _, e', _⟩ := O'.ns; ⟨o, e'⟩
  refine I.write (x := a) (e := dx) (by rw [e]; exact True.intro) (.inr ho) (fun b q hb z => (sb.2 b hb).trans z) hd ?_
  refine ⟨by rw [upd_ne O.ne]; exact ho, ?_, O.ne, O'.obj, _, O'.ns, fun g => ?_, fun g hg => ?_⟩
  · have := length_putF f y fs; omega
  · show RelO ((putF f y fs).lookup g) (if g = f then some u else mA g)
    rw [lookup_putF]
    by_cases q : g = f
    · rw [if_pos q, if_pos q]; exact ry
    · rw [if_neg q, if_neg q]; exact r g
  · by_cases q : g = f
    · rw [q]; exact (keys_putF f y fs).1
    · refine (keys_putF f y fs).2 g (wi g fun z => hg ?_)
      show (if g = f then some u else mA g) = none
      rw [if_neg q]; exact z

/-- a new instance, tracked, without attributes -/
theorem Inv.made (I : Inv X pins σ H s) : Inv X pins σ (upd (upd H s.heap.objs.size (.own (s.heap.objs.size + 1))) (s.heap.objs.size + 1) (.ins C s.heap.objs.size []))
    { s with heap := (s.heap.push PySem.W.emptyDict).push (PySem.W.instObj C s.heap.objs.size) } := by
  have e1 : (s.heap.push PySem.W.emptyDict).get? s.heap.objs.size = some PySem.W.emptyDict := Heap.get?_push_size s.heap rfl
  have e2 : ((s.heap.push PySem.W.emptyDict).push (PySem.W.instObj C s.heap.objs.size)).get? (s.heap.objs.size + 1) = some (PySem.W.instObj C s.heap.objs.size) := by
    have := Heap.get?_push_size (s.heap.push PySem.W.emptyDict) (o := PySem.W.instObj C s.heap.objs.size) rfl
    rwa [Heap.size_push] at this
  have e3 : (s.heap.push PySem.W.emptyDict).Ns s.heap.objs.size (fun _ => none) := ⟨PySem.W.emptyDict, #[], _, e1, rfl, (fun e he => absurd he (by simp)), fun _ => rfl⟩
  have I1 := I.laid (a := s.heap.objs.size) (o := .own (s.heap.objs.size + 1)) (h' := s.heap.push PySem.W.emptyDict) (t' := s.toks) (fun b u q => Heap.get?_push_of_some _ q) (Nat.le_refl _) ⟨_, e1⟩
  refine I1.laid (a := s.heap.objs.size + 1) (o := .ins C s.heap.objs.size []) (t' := s.toks) (fun b u q => Heap.get?_push_of_some _ q) (Nat.le_of_eq (Heap.size_push _ _)) ?_
  have ne : s.heap.objs.size ≠ s.heap.objs.size + 1 := Nat.ne_of_lt (Nat.lt_succ_self _)
  refine ⟨by rw [upd_ne ne, upd_same], Nat.zero_le _, ne, e2, fun _ => none, (Heap.Ns1.of_empty e3).at fun o q => Heap.get?_push_of_some _ q, fun _ => True.intro, fun y hy => absurd rfl hy⟩

/-- e.f where nothing but the object is asked: through attributeBase (super) and the last hold -/
theorem attr_of {prog : Program} {w : World} {env : Env} {e : Expr} {f : Str} {pos : Pos} {s : Shared} {Q : Value → Shared → Prop} (hb : attributeBase e f env (eval e env) = eval e env)
    (h : wpAny (model prog w) A (eval e env) (fun o s₁ => wpAny (model prog w) A (getAttr o f true) Q E s₁) E s) : wpAny (model prog w) A (eval (.Attribute e f pos) env) Q E s :=
  Attribute_any_ h (by rw [arm_eval_Attribute, hb])
end

/-! ### readings and rules -/
/-- e.f, an attribute of the instance -/
def tFld (K : PySem.W.Frag) (ta : TE) (f : Str) : TE := fun σ H Q => ta σ H fun x H1 => ∃ a C dx fs v, x = .ref a ∧ H1 a = some (.ins C dx fs) ∧ Cls K C ∧ NoAttr K C f ∧ fs.lookup f = some v ∧ Q v H1
/-- e.f = value -/
def sFld (K : PySem.W.Frag) (ta tv : TE) (f : Str) : TS := fun D σ H => tv σ H fun y H1 => ta σ H1 fun x H2 => ∃ a C dx fs, x = .ref a ∧ H2 a = some (.ins C dx fs) ∧ Cls K C ∧ NoAttr K C f ∧ fs.length < 1000 ∧
  D.nx σ (upd H2 a (.ins C dx (putF f y fs)))

section
variable {X : Cx} {o e value : Expr} {f : Str} {pos pos' tpos : Pos} {ta tv : TE}
theorem pe_fld (he : PE X e ta) (hb : attributeBase e f X.env (eval e X.env) = eval e X.env) : PE X (.Attribute e f pos) (tFld X.K ta f) := by
  intro pins s σ H Q I h
  refine attr_of hb (thn (he pins s σ H _ I h) fun u s1 ⟨x, H1, I1, rx, a, C, dx, fs, v, ex, ea, c, n, l, q⟩ => ?_)
  subst ex
  obtain rfl : u = Value.ref a := rx
  exact getattr_ok I1 ea c n l fun u' s2 I2 ru => ⟨v, H1, I2, ru, q⟩
theorem ps_fld (ha : PE X o ta) (hv : PE X value tv) (hs : swapsWith value (some (.Attribute o f pos')) pos.line X.env = pure false) : PS X (.Assign [.Attribute o f pos'] value pos) (sFld X.K ta tv f) := by
  intro pins s σ H D I h
  refine plainObj_wpAny_Assign_Attribute (thn (hv pins s σ H _ I h) fun u s1 ⟨y, H1, I1, ry, q⟩ => thn (ha pins s1 σ H1 _ I1 q) fun ov s2 ⟨x, H2, I2, rx, a, C, dx, fs, ex, ea, c, n, l, q2⟩ => ?_) hs
  subst ex
  obtain rfl : ov = Value.ref a := rx
  exact setattr_ok I2 ea c n l ry fun s3 I3 => ⟨σ, _, I3, q2⟩

end

/-! ### isinstance -/
section
variable {X : Cx} {pins : List (Addr × Obj)} {σ : St} {H : Hp} {s : Shared} {A : Around} {E : Value → Shared → Prop} {Q : Value → Shared → Prop} {c : Value} {b : Bool}
/-- the type of a value, as the fragment's deciders take it; for an instance its class -/
inductive TyOf (K : PySem.W.Frag) (H : Hp) : V → Value → Prop where
  | non : TyOf K H .non (.type "NoneType")
  | bl (x : Bool) : TyOf K H (.bl x) (.type "bool")
  | int (i : Int) : TyOf K H (.int i) (.type "int")
  | str (x : Str) : TyOf K H (.str x) (.type "str")
  | flt (x : UInt64) : TyOf K H (.flt x) (.type "float")
  | lst {a : Addr} {xs : List V} (e : H a = some (.lst xs)) : TyOf K H (.ref a) (.type "list")
  | frz {a : Addr} {o : Obj} {xs : List V} (e : H a = some (.frz o (.lst xs))) : TyOf K H (.ref a) (.type "list")
  | tup {a : Addr} {xs : List V} (e : H a = some (.tup xs)) : TyOf K H (.ref a) (.type "tuple")
  | dK {a : Addr} {kvs : List (Key × V)} (e : H a = some (.dK kvs)) : TyOf K H (.ref a) (.type "dict")
  | dT {a : Addr} {kvs : List (List Key × V)} (e : H a = some (.dT kvs)) : TyOf K H (.ref a) (.type "dict")
  | ins {a C dx : Addr} {fs : List (Str × V)} (e : H a = some (.ins C dx fs)) (cl : Cls K C) (ha : PySem.W.findIn K (.ref C) "__class__" = some (some (.builtin "object.__class__")))
      (hn : PySem.W.specialIn K (.builtin "object.__class__") "__get__" = some (some (.builtin "getset_descriptor.__get__"))) (htk : PySem.W.takesIn K (.builtin "object.__class__") = some true)
      (hm : PySem.W.mroIn K C (.type "object") = some true) : TyOf K H (.ref a) (.ref C)
/-- isinstance(x, c) for one class c, a built-in or an own one: kitOne's answer -/
theorem isinst_ok {x : V} {u t : Value} (I : Inv X pins σ H s) (rx : RelV x u) (ty : TyOf X.K H x t) (e : PySem.W.kitOne X.K t c = some b) (h : ∀ tk, Q (.bool b) { s with toks := tk }) :
    wpAny (model X.prog X.w) A (call (.builtin "isinstance") [u, c]) Q E s := by
  cases ty with
  | non => cases (show u = Value.none from rx); exact PySem.W.kia_one PySem.W.kitx_none I.kIn True.intro e (fun z => nomatch z) h
  | bl y => cases (show u = Value.bool y from rx); exact PySem.W.kia_one PySem.W.kitx_bool I.kIn True.intro e (fun z => nomatch z) h
  | int i => obtain ⟨t, q⟩ := (show ∃ t, u = Value.int i t from rx); cases q; exact PySem.W.kia_one PySem.W.kitx_int I.kIn True.intro e (fun z => nomatch z) h
  | str y => obtain ⟨t, q⟩ := (show ∃ t, u = Value.str y t from rx); cases q; exact PySem.W.kia_one PySem.W.kitx_str I.kIn True.intro e (fun z => nomatch z) h
  | flt y => obtain ⟨t, q⟩ := (show ∃ t, u = Value.float y t from rx); cases q; exact PySem.W.kia_one PySem.W.kitx_float I.kIn True.intro e (fun z => nomatch z) h
  | @lst a xs ea =>
    cases (show u = Value.ref a from rx)
    obtain ⟨_, _, n, _, h1⟩ := (show ObjOk X.prog X.w H s.heap a (.lst xs) from I.hok a _ ea)
    exact PySem.W.kia_one PySem.W.kitx_list I.kIn ⟨_, h1, rfl⟩ e (fun z => nomatch z) h
  | @frz a ob xs ea =>
    cases (show u = Value.ref a from rx)
    obtain ⟨_, _, _, n, _, h1⟩ := (show ObjOk X.prog X.w H s.heap a (.frz ob (.lst xs)) from I.hok a _ ea)
    exact PySem.W.kia_one PySem.W.kitx_list I.kIn ⟨_, h1, rfl⟩ e (fun z => nomatch z) h
  | @tup a xs ea =>
    cases (show u = Value.ref a from rx)
    obtain ⟨_, _, _, p⟩ := (show ObjOk X.prog X.w H s.heap a (.tup xs) from I.hok a _ ea)
    obtain ⟨o, h1, h2, _⟩ := p
    exact PySem.W.kia_one PySem.W.kitx_tuple I.kIn ⟨o, h1, h2⟩ e (fun z => nomatch z) h
  | @dK a kvs ea =>
    cases (show u = Value.ref a from rx)
    obtain ⟨_, _, vs, _, p⟩ := (show ObjOk X.prog X.w H s.heap a (.dK kvs) from I.hok a _ ea)
    obtain ⟨o, es, ep, h1, h2, _⟩ := p
    exact PySem.W.kia_one PySem.W.kitx_dict I.kIn ⟨o, h1, h2.1⟩ e (fun z => nomatch z) h
  | @dT a kvs ea =>
    cases (show u = Value.ref a from rx)
    obtain ⟨_, _, xs, _, o, es, ep, h1, h2, _⟩ := (show ObjOk X.prog X.w H s.heap a (.dT kvs) from I.hok a _ ea)
    exact PySem.W.kia_one PySem.W.kitx_dict I.kIn ⟨o, h1, h2.1⟩ e (fun z => nomatch z) h
  | @ins a C dx fs ea cl ha hn htk hm =>
    cases (show u = Value.ref a from rx)
    obtain ⟨mA, O, _⟩ := ins_get I.hok ea
    obtain ⟨od, J, _⟩ := O.look
    exact PySem.W.kia_one (PySem.W.kitx_own (cl.get _) cl.hd ha hn htk hm) I.kIn J e (fun z => nomatch z) h
end
end L2

namespace L2
open PySem PySem.Spec PyProof.Rows

/-! ### room -/
structure Room (k : Nat) (A : Around) : Prop where
  hd : A.handled = none
  dp : A.depth + 3 * k + 5 < recursionLimit
  un : A.units + 16 * k + 200 < cLine
theorem Room.mono {j k : Nat} {A : Around} (r : Room k A) (h : j ≤ k) : Room j A := ⟨r.hd, by have := r.dp; omega, by have := r.un; omega⟩
theorem Room.deeper {k : Nat} {A : Around} (r : Room (k + 1) A) (env : Env) : Room k (A.deeper env) :=
  ⟨r.hd, by have := r.dp; show A.depth + 1 + 3 * k + 5 < _; omega, by have := r.un; show A.units + 3 + 16 * k + 200 < _; omega⟩
theorem make_depth {A : Around} {C : Addr} {us : List Value} {kw : List (Str × Value)} : (A.under (.builtin "type.__call__" ⟨.ref C :: us, kw⟩)).depth = A.depth + 1 := by
  first | rfl | simp [Around.under, Code.weight, Code.isCreation, Code.isGuard, Code.isCaller, Code.frames, Code.isFrame, guardIds]
theorem make_units {A : Around} {C : Addr} {us : List Value} {kw : List (Str × Value)} : (A.under (.builtin "type.__call__" ⟨.ref C :: us, kw⟩)).units = A.units + 1 := by
  first | rfl | simp [Around.under, Code.cUnits, Code.frames, Code.isFrame]
theorem Room.make {k : Nat} {A : Around} (r : Room (k + 1) A) (C : Addr) (us : List Value) (kw : List (Str × Value)) : Room k (A.under (.builtin "type.__call__" ⟨.ref C :: us, kw⟩)) :=
  ⟨r.hd, by have := r.dp; rw [make_depth]; omega, by have := r.un; rw [make_units]; omega⟩
theorem Room.depth {k : Nat} {A : Around} (r : Room k A) : A.depth < recursionLimit := by have := r.dp; omega
theorem Room.units {k : Nat} {A : Around} (r : Room k A) : A.units + 64 < cLine := by have := r.un; omega

/-! ### argument lists and displays -/
def tNil : TA := fun _ H Q => Q [] H
def tCons (ta : TE) (tr : TA) : TA := fun σ H Q => ta σ H fun x H1 => tr σ H1 fun xs H2 => Q (x :: xs) H2
section
variable {X : Cx} {e : Expr} {es : List Expr} {te : TE} {t : TA} {pos : Pos}
theorem pa_nil : PA X [] tNil := fun _ _ _ _ H Q I h => Calls.spliced_nil ⟨[], H, I, .nil, h⟩
theorem pa_cons (ha : PE X e te) (hr : PA X es t) (hs : starEach (e :: es) X.env = (false, eval e X.env) :: starEach es X.env := by rfl) : PA X (e :: es) (tCons te t) := by
  intro pos pins s σ H Q I h
  rw [hs]
  show wpAny _ _ (spliced ((false, eval e X.env) :: backTo pos (starEach es X.env))) _ _ s
  refine Calls.spliced_cons (thn (ha pins s σ H _ I h) fun u s1 ⟨x, H1, I1, r1, q1⟩ => ?_)
  exact thn (hr pos pins s1 σ H1 _ I1 q1) fun us s2 ⟨xs, H2, I2, r2, q2⟩ => ⟨x :: xs, H2, I2, .cons r1 r2, q2⟩

/-- a tuple, a list of written items -/
def tTup (t : TA) : TE := fun σ H Q => t σ H fun xs H1 => xs.length ≤ sizeLine ∧ ∀ p, H1 p = none → Q (.ref p) (upd H1 p (.tup xs))
def tLst (t : TA) : TE := fun σ H Q => t σ H fun xs H1 => xs.length ≤ sizeLine ∧ ∀ p, H1 p = none → Q (.ref p) (upd H1 p (.lst xs))
theorem pe_tup {x1} (h : PA X es t) : PE X (.Tuple es x1 pos) (tTup t) := by
  intro pins s σ H Q I hq
  refine wpAny_Tuple_spliced (thn (h pos pins s σ H _ I hq) fun us s1 ⟨xs, H1, I1, r, z, q⟩ => ⟨by rw [← r.length]; exact z, ?_⟩)
  have hf : H1 s1.heap.objs.size = none := I1.hok.fresh (Nat.le_refl _)
  refine ⟨.ref s1.heap.objs.size, upd H1 s1.heap.objs.size (.tup xs), I1.laid (t' := s1.toks) (fun b u e => Heap.get?_push_of_some _ e) (Nat.le_refl _) ?_, rfl, q _ hf⟩
  exact ⟨z, us, r, ⟨_, Heap.get?_push_size _ rfl, rfl, _, rfl⟩⟩
theorem pe_lst (h : PA X es t) : PE X (.List es pos) (tLst t) := by
  intro pins s σ H Q I hq
  refine wpAny_List_spliced (thn (h pos pins s σ H _ I hq) fun us s1 ⟨xs, H1, I1, r, z, q⟩ => ⟨by rw [← r.length]; exact z, ?_⟩)
  have hf : H1 s1.heap.objs.size = none := I1.hok.fresh (Nat.le_refl _)
  refine ⟨.ref s1.heap.objs.size, upd H1 s1.heap.objs.size (.lst xs), I1.laid (t' := s1.toks) (fun b u e => Heap.get?_push_of_some _ e) (Nat.le_refl _) ?_, rfl, q _ hf⟩
  exact ⟨z, us, 0, r, Heap.get?_push_size _ rfl⟩
end

/-! ### what a def promises -/
/-- a def's promise: the bound arguments in the parameters' order, the heap, the wanted end, the wanted exception -/
abbrev Sp := List V → Hp → VK → XK → Prop
/-- how an exception lies behind a call (file 08 gives it): the callers' frames, abstract heap and state ahead of the call, the wish, the exception, the state -/
abbrev CXT := List Env → Hp → Shared → XK → Value → Shared → Prop

/-- the state at a call -/
structure Env0 (P : Program) (w : World) (K : PySem.W.Frag) (mg : Str → Option Value) (base : Heap) (A : Around) (outer : List Env) (s : Shared) (H : Hp) : Prop where
  frames : A.frames = some outer
  mod : Mod K mg base
  bs : ∀ b o, base.get? b = some o → s.heap.get? b = some o ∧ H b = none
  bsz : base.objs.size ≤ s.heap.objs.size
  funs : s.heap.FunFrames base outer
  frf : ∀ b ∈ frs outer, H b = none
  hok : HOk P w H s.heap
  bare : AllBare s.gens
/-- a call's end -/
def CE (outer : List Env) (P : Program) (w : World) (H : Hp) (s : Shared) (Q : VK) (u : Value) (s' : Shared) : Prop :=
  ∃ v H', s'.os = s.os ∧ AllBare s'.gens ∧ Un (frs outer) [] H H' s.heap s'.heap ∧ HOk P w H' s'.heap ∧ RelV v u ∧ Q v H'
def CR (CX : CXT) (outer : List Env) (P : Program) (w : World) (H : Hp) (s : Shared) (Q : VK) (E : XK) (r : Result) (s' : Shared) : Prop :=
  match r with
  | .ok (.ret u) => CE outer P w H s Q u s'
  | .ok _ => False
  | .error e => CX outer H s E e s'
structure FnOk (P : Program) (w : World) (K : PySem.W.Frag) (mg : Str → Option Value) (base : Heap) (CX : CXT) (k : Nat) (f : Addr) (fd : FuncData) (ps : List Str) (sp : Sp) : Prop where
  len : ∀ vs H Q E, sp vs H Q E → vs.length = ps.length
  run : ∀ (A : Around) (outer : List Env) (s : Shared) (H : Hp) (args : Args) (us : List Value) (vs : List V) (Q : VK) (E : XK), Room k A → Env0 P w K mg base A outer s H → BindsTo s fd args (ps.zip us) → Vals vs us → sp vs H Q E →
    codeAny (model P w) A (.call (.ref f) args) (CR CX outer P w H s Q E) s

theorem Env0.make {P : Program} {w : World} {K : PySem.W.Frag} {mg : Str → Option Value} {base : Heap} {A : Around} {outer : List Env} {s : Shared} {H : Hp} (e : Env0 P w K mg base A outer s H) (C : Addr) (us : List Value) (kw : List (Str × Value)) :
    Env0 P w K mg base (A.under (.builtin "type.__call__" ⟨.ref C :: us, kw⟩)) outer s H := ⟨by first | exact e.frames | (simpa [Around.under, Code.envs, Code.isFrame, pushEnvs] using e.frames), e.mod, e.bs, e.bsz, e.funs, e.frf, e.hok, e.bare⟩

section
variable {X : Cx} {pins : List (Addr × Obj)} {σ : St} {H : Hp} {s s' : Shared}
/-- from a body: what a callee wants -/
theorem Inv.env0 (I : Inv X pins σ H s) : Env0 X.prog X.w X.K X.mg X.base X.A X.stack s H :=
  ⟨I.ok.frames, I.ok.mod, I.bs, Nat.le_trans I.ok.bsz I.sz, I.stack, I.stkFree, I.hok, I.bare⟩
/-- behind a call -/
theorem Inv.after {Q : VK} {u : Value} (I : Inv X pins σ H s) (h : CE X.stack X.prog X.w H s Q u s') : EP X pins σ Q u s' := by
  obtain ⟨v, H', os, bare, un, hok, r, q⟩ := h
  obtain ⟨hh, g, d, t, os'⟩ := s'
  obtain rfl : os' = s.os := os
  exact ⟨v, H', I.call (h' := hh) (g' := g) (d' := d) (t' := t) (ch := []) un hok bare (fun b z => absurd z (by simp)), r, q⟩
end

/-! ### calls -/
/-- f(..): the written arguments, then the defaults dvs; E: what is wanted of an exception -/
def tCall (sp : Sp) (dvs : List V) (E : XK) (t : TA) : TE := fun σ H Q => t σ H fun vs H1 => sp (vs ++ dvs) H1 Q E
/-- o.m(..) of an instance of the class at C -/
def tMeth (C : Addr) (m : Str) (sp : Sp) (dvs : List V) (E : XK) (ta : TE) (t : TA) : TE := fun σ H Q => ta σ H fun x H1 => ∃ a dx fs, x = .ref a ∧ H1 a = some (.ins C dx fs) ∧ fs.lookup m = none ∧
  t σ H1 fun vs H2 => sp (x :: (vs ++ dvs)) H2 Q E
/-- C(..): a new instance and its dict, then __init__ -/
def tMake (C : Addr) (sp : Sp) (dvs : List V) (E : XK) (t : TA) : TE := fun σ H Q => t σ H fun vs H1 => ∀ x dx, H1 x = none → H1 dx = none → dx ≠ x →
  sp (.ref x :: (vs ++ dvs)) (upd (upd H1 dx (.own x)) x (.ins C dx [])) (fun v H2 => v = .non ∧ Q (.ref x) H2) E

/-- how the parameters are bound: us the positional arguments, kw the keywords' values by name, ds the defaults that fill up -/
def Binds (K : PySem.W.Frag) (fd : FuncData) (ps : List Str) (ds : List Value) : Prop :=
  ∀ (s : Shared) (us : List Value), K.In s.heap → (us ++ ds).length = ps.length → BindsTo s fd ⟨us, []⟩ (ps.zip (us ++ ds))
/-- every parameter is given -/
theorem Binds.all {K : PySem.W.Frag} {fd : FuncData} {ps : List Str} (h : ∀ us : List Value, us.length = ps.length → bindArgs fd ⟨us, []⟩ = pure (ps.zip us)) : Binds K fd ps [] := fun s us _ hl => by
  rw [List.append_nil] at hl ⊢
  exact .of_eq (h us hl)

/-- an exception of a callee reaches what this body wants of exceptions -/
def Passes (CX : CXT) (X : Cx) (E : XK) : Prop := ∀ (pins : List (Addr × Obj)) (σ : St) (H : Hp) (s : Shared) (e : Value) (s' : Shared), Inv X pins σ H s → CX X.stack H s E e s' → X.xe e s'

section
variable {X : Cx} {CX : CXT} {k : Nat} {f C : Addr} {fd : FuncData} {ps : List Str} {sp : Sp} {dvs : List V} {ds : List Value} {E : XK} {x m : Str} {p pos apos : Pos} {e o : Expr} {es : List Expr} {ta : TE} {t : TA}

/-- the callee runs -/
theorem run_fn {pins : List (Addr × Obj)} {σ : St} {H : Hp} {s : Shared} {Q : VK} {us : List Value} {vs : List V} (F : FnOk X.prog X.w X.K X.mg X.base CX k f fd ps sp) (hr : Room k X.A) (hb : Binds X.K fd ps ds) (hd : Vals dvs ds) (hx : Passes CX X E)
    (I : Inv X pins σ H s) (r : Vals vs us) (h : sp (vs ++ dvs) H Q E) : wpAny (model X.prog X.w) X.A (call (.ref f) us) (EP X pins σ Q) X.xe s := by
  have r2 : Vals (vs ++ dvs) (us ++ ds) := r.append hd
  have hl : (us ++ ds).length = ps.length := by rw [← r2.length]; exact F.len _ _ _ _ h
  refine wpAny_call (codeAny_mono (F.run X.A X.stack s H ⟨us, []⟩ (us ++ ds) (vs ++ dvs) Q E hr I.env0 (hb s us I.kIn hl) r2 h) fun r s' hq => ?_)
  cases r with
  | error e => exact hx pins σ H s e s' I hq
  | ok fl =>
    cases fl with
    | ret u => exact I.after hq
    | next => exact False.elim hq
    | brk => exact False.elim hq
    | cont => exact False.elim hq

theorem pe_call (F : FnOk X.prog X.w X.K X.mg X.base CX k f fd ps sp) (hr : Room k X.A) (hg : Gl X x) (hm : X.mg x = some (.ref f)) (hk : PySem.W.keepIn X.K (.ref f) = true) (hb : Binds X.K fd ps ds) (hd : Vals dvs ds) (hx : Passes CX X E)
    (ha : PA X (e :: es) t) (hdb : (x == ("__debug__" : Str)) = false := by decide) (he : starEach (e :: es) X.env = (false, eval e X.env) :: starEach es X.env := by rfl) (hpl : (backTo pos (starEach es X.env)).any (·.1) = false := by rfl) :
    PE X (.Call (.Name x p) (e :: es) [] pos) (tCall sp dvs E t) := by
  intro pins s σ H Q I h
  refine wpAny_Call_Name_kw (ld_glob I hg hm ?_ hdb)
  refine PySem.W.callWith_K (h₀ := X.base) I.ok.mod.kin hk (thn (ha pos pins s σ H _ I h) fun us s1 ⟨vs, H1, I1, r, q⟩ => ⟨I1.kIn, ?_⟩) he hpl
  exact run_fn F hr hb hd hx I1 r q

/-- o.m(e, ..) -/
theorem pe_meth {pl : Sem Bool} (he : PE X o ta) (c : Cls X.K C) (hm : Meth X.K C m f) (F : FnOk X.prog X.w X.K X.mg X.base CX k f fd ps sp) (hr : Room k X.A) (hb : Binds X.K fd ps ds) (hd : Vals dvs ds) (hx : Passes CX X E) (ha : PA X (e :: es) t)
    (hst : starEach (e :: es) X.env = (false, eval e X.env) :: starEach es X.env := by rfl) (hpl : (backTo pos (starEach es X.env)).any (·.1) = false := by rfl)
    (ht : eval (.Call (.Attribute o m apos) (e :: es) [] pos) X.env = (do
      let ov ← eval o X.env
      standAt apos.atName
      let (f, first) ← holding [ov] (getMethod ov m pl)
      callWith pos f first (backTo pos (starEach (e :: es) X.env)) (backToKw pos (keywordEach [] X.env))) := by rfl) :
    PE X (.Call (.Attribute o m apos) (e :: es) [] pos) (tMeth C m sp dvs E ta t) := by
  intro pins s σ H Q I h
  refine PySem.W.methodCall_KW (pl := pl) (thn (he pins s σ H _ I h) fun u s1 ⟨x, H1, I1, rx, a, dx, fs, ex, ea, l, q⟩ => ?_) ht
  subst ex
  obtain rfl : u = Value.ref a := rx
  refine getmeth_ok I1 ea c hm l ?_
  refine PySem.W.callWith_K (first := [.ref a]) (h₀ := X.base) I.ok.mod.kin hm.kp (thn (ha pos pins s1 σ H1 _ I1 q) fun us s2 ⟨vs, H2, I2, r, q2⟩ => ⟨I2.kIn, ?_⟩) hst hpl
  exact run_fn (us := .ref a :: us) (vs := .ref a :: vs) F hr hb hd hx I2 (.cons rfl r) q2
/-- o.m() -/
theorem pe_meth0 {pl : Sem Bool} (he : PE X o ta) (c : Cls X.K C) (hm : Meth X.K C m f) (F : FnOk X.prog X.w X.K X.mg X.base CX k f fd ps sp) (hr : Room k X.A) (hb : Binds X.K fd ps ds) (hd : Vals dvs ds) (hx : Passes CX X E)
    (ht : eval (.Call (.Attribute o m apos) [] [] pos) X.env = (do
      let ov ← eval o X.env
      standAt apos.atName
      let (f, first) ← holding [ov] (getMethod ov m pl)
      callWith pos f first (backTo pos (starEach [] X.env)) (backToKw pos (keywordEach [] X.env))) := by rfl) :
    PE X (.Call (.Attribute o m apos) [] [] pos) (tMeth C m sp dvs E ta tNil) := by
  intro pins s σ H Q I h
  refine PySem.W.methodCall_KW (pl := pl) (thn (he pins s σ H _ I h) fun u s1 ⟨x, H1, I1, rx, a, dx, fs, ex, ea, l, q⟩ => ?_) ht
  subst ex
  obtain rfl : u = Value.ref a := rx
  refine getmeth_ok I1 ea c hm l ?_
  exact PySem.W.callWith_K0 (first := [.ref a]) I1.kIn hm.kp (run_fn (us := [.ref a]) (vs := [.ref a]) F hr hb hd hx I1 (.cons rfl .nil) q)

/-- what a class must have to be made -/
structure Mk (K : PySem.W.Frag) (C f : Addr) : Prop where
  makes : PySem.W.makesIn K C = true
  init : PySem.W.findIn K (.ref C) "__init__" = some (some (.ref f))
  fn : PySem.W.isFn K (.ref f) = true
  kp : PySem.W.keepIn K (.ref C) = true

theorem run_make {pins : List (Addr × Obj)} {σ : St} {H : Hp} {s : Shared} {Q : VK} {us : List Value} {vs : List V} (M : Mk X.K C f) (F : FnOk X.prog X.w X.K X.mg X.base CX k f fd ps sp) (hr : Room (k + 1) X.A) (hb : Binds X.K fd ps ds) (hd : Vals dvs ds)
    (hx : Passes CX X E) (I : Inv X pins σ H s) (r : Vals vs us)
    (h : ∀ x dx, H x = none → H dx = none → dx ≠ x → sp (.ref x :: (vs ++ dvs)) (upd (upd H dx (.own x)) x (.ins C dx [])) (fun v H2 => v = .non ∧ Q (.ref x) H2) E) :
    wpAny (model X.prog X.w) X.A (call (.ref C) us) (EP X pins σ Q) X.xe s := by
  have hq := h (s.heap.objs.size + 1) s.heap.objs.size (I.hok.fresh (Nat.le_succ _)) (I.hok.fresh (Nat.le_refl _)) (Nat.ne_of_lt (Nat.lt_succ_self _))
  have I2 := Inv.made (C := C) I
  have r2 : Vals (V.ref (s.heap.objs.size + 1) :: (vs ++ dvs)) (Value.ref (s.heap.objs.size + 1) :: (us ++ ds)) := .cons rfl (r.append hd)
  have hl : (Value.ref (s.heap.objs.size + 1) :: us ++ ds).length = ps.length := by
    have e := r2.length
    rw [F.len _ _ _ _ hq] at e
    exact e.symm
  refine wpAny_call (make_map (f := f) I.kIn M.makes M.init (beq_iff_eq.mp M.fn) (codeAny_mono (F.run _ X.stack _ _ ⟨Value.ref (s.heap.objs.size + 1) :: us, []⟩ (Value.ref (s.heap.objs.size + 1) :: (us ++ ds)) _ _ E (hr.make C us [])
    (I2.env0.make C us []) (hb _ (Value.ref (s.heap.objs.size + 1) :: us) I2.kIn hl) r2 hq) fun r s' hq' => ?_))
  cases r with
  | error e => exact hx pins σ _ _ e s' I2 hq'
  | ok fl =>
    cases fl with
    | ret u =>
      obtain ⟨v, H', I3, rv, ev, q3⟩ := I2.after hq'
      subst ev
      exact ⟨rv, ⟨V.ref (s.heap.objs.size + 1), H', I3, rfl, q3⟩⟩
    | next => exact False.elim hq'
    | brk => exact False.elim hq'
    | cont => exact False.elim hq'
theorem pe_make (M : Mk X.K C f) (F : FnOk X.prog X.w X.K X.mg X.base CX k f fd ps sp) (hr : Room (k + 1) X.A) (hg : Gl X x) (hm : X.mg x = some (.ref C)) (hb : Binds X.K fd ps ds) (hd : Vals dvs ds) (hx : Passes CX X E)
    (ha : PA X (e :: es) t) (hdb : (x == ("__debug__" : Str)) = false := by decide) (he : starEach (e :: es) X.env = (false, eval e X.env) :: starEach es X.env := by rfl) (hpl : (backTo pos (starEach es X.env)).any (·.1) = false := by rfl) :
    PE X (.Call (.Name x p) (e :: es) [] pos) (tMake C sp dvs E t) := by
  intro pins s σ H Q I h
  refine wpAny_Call_Name_kw (ld_glob I hg hm ?_ hdb)
  refine PySem.W.callWith_K (h₀ := X.base) I.ok.mod.kin M.kp (thn (ha pos pins s σ H _ I h) fun us s1 ⟨vs, H1, I1, r, q⟩ => ⟨I1.kIn, ?_⟩) he hpl
  exact run_make M F hr hb hd hx I1 r q
end

/-! ### keywords -/
section
variable {X : Cx} {CX : CXT} {k : Nat} {f C : Addr} {fd : FuncData} {ps ks : List Str} {sp : Sp} {E : XK} {x m : Str} {p pos apos kpos : Pos} {e o : Expr} {es : List Expr} {kws : List Keyword} {te ta : TE} {t tk : TA} {nm : Option Str}

variable {g : List Value → List Value → List Value} {gV : List V → List V → List V}
end

/-! ### a def's body keeps its promise -/
/-- names: the parameters first -/
structure FnScope (N P : List Str) (sc : Scope) : Prop where
  kind : sc.kind = .function
  co : sc.isCoroutine = false
  gen : sc.isGenerator = false
  nd : N.Nodup
  pre : N.take P.length = P
  par : ∀ x ∈ P, sc.names.lookup x = some .local ∨ sc.names.lookup x = some .cell
  nofree : ∀ y ∈ sc.names, y.2 ≠ .free

theorem bindL_out {kindOf : Str → Option NameKind} {x : Str} : ∀ {binds : List (Str × Value)} {m : Str → Option Value}, (∀ v, (x, v) ∉ binds) → bindL kindOf binds m x = m x
  | [], _, _ => rfl
  | (n, v) :: r, m, h => by
    unfold bindL
    rw [bindL_out fun w hw => h w (List.mem_cons_of_mem _ hw)]
    split
    · have : x ≠ n := by rintro rfl; exact h v List.mem_cons_self
      simp [this]
    · rfl
theorem bindC_out {kindOf : Str → Option NameKind} {x : Str} : ∀ {binds : List (Str × Value)} {m : Str → Option Value}, (∀ v, (x, v) ∉ binds) → bindC kindOf binds m x = m x
  | [], _, _ => rfl
  | (n, v) :: r, m, h => by
    unfold bindC
    rw [bindC_out fun w hw => h w (List.mem_cons_of_mem _ hw)]
    split
    · rfl
    · have : x ≠ n := by rintro rfl; exact h v List.mem_cons_self
      simp [this]
theorem bindL_get {kindOf : Str → Option NameKind} {x : Str} {v : Value} : ∀ {P : List Str} {vs : List Value} {i : Nat} {m : Str → Option Value}, P.Nodup → P[i]? = some x → vs[i]? = some v → kindOf x = some .local →
    bindL kindOf (P.zip vs) m x = some v
  | [], _, _, _, _, h, _, _ => by simp at h
  | _ :: _, [], _, _, _, _, h, _ => by simp at h
  | p :: P, w :: vs, 0, m, nd, h1, h2, hk => by
    simp at h1 h2; subst h1; subst h2
    show bindL kindOf ((p, w) :: P.zip vs) m p = _
    unfold bindL
    rw [bindL_out fun v hv => (List.nodup_cons.mp nd).1 (List.of_mem_zip hv).1, if_pos hk]
    simp
  | p :: P, w :: vs, i + 1, m, nd, h1, h2, hk => by
    show bindL kindOf ((p, w) :: P.zip vs) m x = _
    unfold bindL
    exact bindL_get (i := i) (List.nodup_cons.mp nd).2 (by simpa using h1) (by simpa using h2) hk
theorem bindC_get {kindOf : Str → Option NameKind} {x : Str} {v : Value} : ∀ {P : List Str} {vs : List Value} {i : Nat} {m : Str → Option Value}, P.Nodup → P[i]? = some x → vs[i]? = some v → kindOf x ≠ some .local →
    bindC kindOf (P.zip vs) m x = some v
  | [], _, _, _, _, h, _, _ => by simp at h
  | _ :: _, [], _, _, _, _, h, _ => by simp at h
  | p :: P, w :: vs, 0, m, nd, h1, h2, hk => by
    simp at h1 h2; subst h1; subst h2
    show bindC kindOf ((p, w) :: P.zip vs) m p = _
    unfold bindC
    rw [bindC_out fun v hv => (List.nodup_cons.mp nd).1 (List.of_mem_zip hv).1, if_neg hk]
    simp
  | p :: P, w :: vs, i + 1, m, nd, h1, h2, hk => by
    show bindC kindOf ((p, w) :: P.zip vs) m x = _
    unfold bindC
    exact bindC_get (i := i) (List.nodup_cons.mp nd).2 (by simpa using h1) (by simpa using h2) hk

/-- the names' values at the entry -/
def start (N : List Str) (vs : List V) : St := vs.map some ++ List.replicate (N.length - vs.length) none

/-- the context of a def's body, at its entry; an exception leaves the frame, then lies as CX says -/
def cxOf (CX : CXT) (P : Program) (w : World) (K : PySem.W.Frag) (mg : Str → Option Value) (base : Heap) (N : List Str) (qual : Str) (scope : Scope) (f : Addr) (cd : Value) (A : Around) (outer : List Env) (s : Shared) (H : Hp) (E : XK) : Cx where
  prog := P
  w := w
  K := K
  mg := mg
  base := base
  A := A.deeper (envOfC qual scope s.heap.objs.size f cd)
  N := N
  s₀ := s
  H₀ := H
  env := envOfC qual scope s.heap.objs.size f cd
  outer := outer
  stack := envOfC qual scope s.heap.objs.size f cd :: outer
  ex := []
  calm := true
  fn := fun _ => true
  pn := []
  xe := fun e s' => wpAny (model P w) (A.deeper (envOfC qual scope s.heap.objs.size f cd)) (leaving (envOfC qual scope s.heap.objs.size f cd) e) (fun _ s'' => CX outer H s E e s'') (fun e' s'' => CX outer H s E e' s'') s'

theorem cell_has {sc : Scope} {n : Nat} {x : Str} (h : sc.names.lookup x = some .cell) : ∃ c, (cellsFrom n sc.names []).lookup x = some c := by
  have q := PySem.W.cellsFrom_some sc.names n [] (.inl h)
  exact Option.isSome_iff_exists.mp q

theorem inv_start {CX : CXT} {P : Program} {w : World} {K : PySem.W.Frag} {mg : Str → Option Value} {base : Heap} {N ps : List Str} {qual : Str} {scope : Scope} {f : Addr} {cd : Value} {A : Around} {outer : List Env} {s s1 : Shared} {H : Hp} {E : XK} {us : List Value} {vs : List V}
    (S : FnScope N ps scope) (hd : A.handled = none) (e0 : Env0 P w K mg base A outer s H) (hl : vs.length = ps.length) (r : Vals vs us)
    (x : InCallC s s.heap.objs.size (bindL (envOfC qual scope s.heap.objs.size f cd).kindOf (ps.zip us) fun _ => none) (cellsFrom (s.heap.objs.size + 1) scope.names []) (bindC (envOfC qual scope s.heap.objs.size f cd).kindOf (ps.zip us) fun _ => none) s1) :
    Inv (cxOf CX P w K mg base N qual scope f cd A outer s H E) [] (start N vs) H s1 := by
  have hpl : ps.length ≤ N.length := by have := congrArg List.length S.pre; rw [List.length_take] at this; omega
  obtain ⟨h1, tk, rfl, hk⟩ := x.done
  have noA : ∀ b : Addr, b ∉ (cxOf CX P w K mg base N qual scope f cd A outer s H E).ex := fun b z => absurd (show b ∈ ([] : List Addr) from z) (by simp)
  refine ⟨⟨e0.mod, S.kind, rfl, rfl, Nat.le_refl _, fun y z c h1 h2 => ?_, fun y hy => ?_, fun y c _ h => ?_, fun _ => hd, Around.frames_deeper e0.frames, .inr ⟨rfl, rfl⟩, fun b z => absurd z (noA b), e0.bs, e0.bsz, fun b _ _ => noA b, fun b z => absurd z (noA b), e0.funs, e0.frf⟩,
    rfl, e0.bare, Un.kept hk, ⟨_, x.toInCall.ns, fun i y v h1 h2 h3 => ?_⟩, fun y c h => ⟨_, x.cell y c h⟩, e0.hok.fresh (Nat.le_refl _), fun y c h => ?_, fun p hp => absurd (show p ∈ ([] : List (Addr × Obj)) from hp) (by simp), e0.hok.kept hk, ?_⟩
  · exact name_of_addr x.apart (PySem.mem_of_lookup h1) (PySem.mem_of_lookup h2)
  · have hy : scope.names.lookup y = some .cell ∨ scope.names.lookup y = some .free := hy
    rcases hy with hy | hy
    · exact cell_has hy
    · exact absurd rfl (S.nofree _ (PySem.mem_of_lookup hy))
  · exact Nat.le_of_lt (x.above y c (PySem.mem_of_lookup h))
  · have hi : i < vs.length := by
      unfold start at h2
      by_cases hi : i < vs.length
      · exact hi
      · rw [List.getElem?_append_right (by simpa using hi)] at h2
        rw [List.getElem?_replicate] at h2
        split at h2 <;> cases h2
    have ha : vs[i]? = some v := by
      unfold start at h2
      rw [List.getElem?_append_left (by simpa using hi), List.getElem?_map] at h2
      cases e : vs[i]? with
      | none => rw [e] at h2; cases h2
      | some a => rw [e] at h2; cases h2; rfl
    obtain ⟨u, hu, rv⟩ := r.get ha
    have hp : ps[i]? = some y := by
      rw [← S.pre, List.getElem?_take_of_lt (by omega)]; exact h1
    have ndP : ps.Nodup := by rw [← S.pre]; exact S.nd.sublist (List.take_sublist _ _)
    refine ⟨u, rv, ?_⟩
    rcases S.par y (List.mem_of_getElem? hp) with k | k
    · exact .inl ⟨k, bindL_get ndP hp hu k⟩
    · obtain ⟨c, e⟩ := cell_has (n := s.heap.objs.size + 1) k
      refine .inr ⟨.inl k, c, e, ?_⟩
      have q := x.cell y c e
      rw [bindC_get ndP hp hu (by show scope.names.lookup y ≠ _; rw [k]; decide)] at q
      exact q
  · exact e0.hok.fresh (Nat.le_of_lt (x.above y c (PySem.mem_of_lookup h)))
  · unfold start
    show _ = N.length
    rw [List.length_append, List.length_map, List.length_replicate]
    omega

/-- THE RULE: a def (or a method) of the text, by its body. The body's reading t is chosen for each entry; it is run at the parameters' values -/
theorem fn_of {CX : CXT} {P : Program} {w : World} {K : PySem.W.Frag} {mg : Str → Option Value} {base : Heap} {k : Nat} {f : Addr} {name qual : Str} {params : Arguments} {body : List Stmt} {scope : Scope} {dV kV doc pm cdv ct oc : Value} {an od : Option Addr}
    {osl : Array (Option Value)} {N ps : List Str} {sp : Sp} (lk : K.lookup f = some ⟨oc, od, .func (PySem.W.fnOf name qual params body scope dV kV doc pm an cdv ct), osl⟩) (hcd : PySem.W.codeIn K cdv qual = true) (S : FnScope N ps scope)
    (len : ∀ vs H Q E, sp vs H Q E → vs.length = ps.length)
    (hbody : ∀ (A : Around) (outer : List Env) (s : Shared) (H : Hp) (vs : List V) (Q : VK) (E : XK), Room k (A.deeper (envOfC qual scope s.heap.objs.size f cdv)) → sp vs H Q E →
      ∃ t, PSs (cxOf CX P w K mg base N qual scope f cdv A outer s H E) body t ∧ t { nx := fun _ H' => Q .non H', rt := Q } (start N vs) H) :
    FnOk P w K mg base CX (k + 1) f (PySem.W.fnOf name qual params body scope dV kV doc pm an cdv ct) ps sp := by
  refine ⟨len, fun A outer s H args us vs Q E hr e0 hb r hsp => ?_⟩
  have hl := len _ _ _ _ hsp
  have KX : K.In s.heap := e0.mod.kin.keeps fun b o e => (e0.bs b o e).1
  have lim : s.heap.NoLimit := e0.mod.nolimit.keeps fun b o e => (e0.bs b o e).1
  have hkind : ∀ y ∈ ps.zip us, scope.names.lookup y.1 = some .local ∨ (scope.names.lookup y.1 = some .cell ∧ ((cellsFrom (s.heap.objs.size + 1) scope.names []).lookup y.1).isSome = true) := fun ⟨n, v⟩ hy => by
    rcases S.par n (List.of_mem_zip hy).1 with q | q
    · exact .inl q
    · exact .inr ⟨q, PySem.W.cellsFrom_some _ _ _ (.inl q)⟩
  refine codeAny_call_function hr.depth (KX _ _ lk) rfl S.co S.gen rfl (PySem.W.codeRec_of KX hcd) (hb _ _ _ _ ?_)
  refine wpAny_newFunctionEnv_cells S.kind hkind fun env he s1 x => ?_
  subst he
  refine ⟨lim.keeps x.toInCall.keep, codeAny_func ?_⟩
  obtain ⟨t, ht, hq⟩ := hbody A outer s H vs Q E (hr.deeper _) hsp
  have I : Inv (cxOf CX P w K mg base N qual scope f cdv A outer s H E) [] (start N vs) H s1 := inv_start S hr.hd e0 hl r x
  refine wpAny_mono (ht [] s1 (start N vs) H _ I hq) (fun fl s' hs => ?_) fun e s' hs => hs
  have fin : ∀ {σ' : St} {H' : Hp} {v : V} {u : Value}, Inv (cxOf CX P w K mg base N qual scope f cdv A outer s H E) [] σ' H' s' → RelV v u → Q v H' → CE outer P w H s Q u s' :=
    fun {σ' H' v u} J rv q => ⟨v, H', J.os, J.bare, J.base, J.hok, rv, q⟩
  cases fl with
  | ret u =>
    obtain ⟨v, σ', H', J, rv, q⟩ := hs
    exact fin J rv q
  | next =>
    obtain ⟨σ', H', J, q⟩ := hs
    exact fin (v := V.non) (u := Value.none) J rfl q
  | brk =>
    obtain ⟨_, _, _, q⟩ := hs
    exact False.elim q
  | cont =>
    obtain ⟨_, _, _, q⟩ := hs
    exact False.elim q
end L2

namespace L2
open PySem PySem.Spec PyProof.Rows
section
variable {X : Cx} {x : Str} {p pos : Pos} {e : Expr} {es : List Expr} {t : TA} {id T : String} {r : List V → Hp → VK → Prop}

def tCB (r : List V → Hp → VK → Prop) (t : TA) : TE := fun σ H Q => t σ H fun vs H1 => r vs H1 Q
/-- f(e, ..), f a built-in function -/
theorem pe_callB (hc : CallR X (.builtin id) r) (hg : Gl X x) (hm : X.mg x = none) (hv : bootBuiltins x = some (.builtin id)) (ha : PA X (e :: es) t) (hn : x ≠ "__name__" := by decide) (hdb : (x == ("__debug__" : Str)) = false := by decide)
    (he : starEach (e :: es) X.env = (false, eval e X.env) :: starEach es X.env := by rfl) (hpl : (backTo pos (starEach es X.env)).any (·.1) = false := by rfl) : PE X (.Call (.Name x p) (e :: es) [] pos) (tCB r t) := by
  intro pins s σ H Q I h
  refine wpAny_Call_Name_kw (ld_blt I hg hm hv ?_ hn hdb)
  exact PyProof.Rows.callWith_builtin1 (thn (ha pos pins s σ H _ I h) fun us s1 ⟨vs, H1, I1, r1, q1⟩ => hc pins s1 σ H1 vs us Q I1 r1 q1) he hpl
/-- T(e, ..), T a built-in type -/
theorem pe_callTy (hc : CallR X (.type T) r) (hg : Gl X x) (hm : X.mg x = none) (hv : bootBuiltins x = some (.type T)) (ha : PA X (e :: es) t) (hn : x ≠ "__name__" := by decide) (hdb : (x == ("__debug__" : Str)) = false := by decide)
    (he : starEach (e :: es) X.env = (false, eval e X.env) :: starEach es X.env := by rfl) (hpl : (backTo pos (starEach es X.env)).any (·.1) = false := by rfl) : PE X (.Call (.Name x p) (e :: es) [] pos) (tCB r t) := by
  intro pins s σ H Q I h
  refine wpAny_Call_Name_kw (ld_blt I hg hm hv ?_ hn hdb)
  exact PyProof.Rows.callWith_type1 (thn (ha pos pins s σ H _ I h) fun us s1 ⟨vs, H1, I1, r1, q1⟩ => hc pins s1 σ H1 vs us Q I1 r1 q1) he hpl
end
end L2

namespace HT
open PySem PyProof.Rows



section
open PySem.SeqAt
open PySem.AutoSeq1 (wpAny_loadPart')
open PySem.MeetsSeq PySem.MeetsSeq2 PySem.MeetsSeq3

end

section
variable {prog : Program} {w : World} {A : Around} {E : Value → Shared → Prop} {s : Shared}



/-! ### t[a:b], not the whole -/
/-- a slice's bound as a place among n (d where it is left out) -/
def sIx (n d : Nat) : Option Int → Nat
  | none => d
  | some v => if v < 0 then (v + (n : Int)).toNat else min v.toNat n
theorem sIx_none (n d : Nat) : sIx n d none = d := rfl
theorem sIx_nat (n d k : Nat) : sIx n d (some (k : Int)) = min k n := by
  show (if (k : Int) < 0 then ((k : Int) + (n : Int)).toNat else min (k : Int).toNat n) = min k n
  rw [if_neg (by omega), Int.toNat_natCast]
theorem sIx_le (n d : Nat) (hd : d ≤ n) (o : Option Int) : sIx n d o ≤ n := by
  cases o with
  | none => exact hd
  | some v =>
    show (if v < 0 then (v + (n : Int)).toNat else min v.toNat n) ≤ n
    by_cases hv : v < 0
    · rw [if_pos hv]; omega
    · rw [if_neg hv]; exact Nat.min_le_right _ _
theorem clip_eq (v : Int) (n d : Nat) : (if v < 0 then max (v + (n : Int)) 0 else min v (n : Int)) = ((sIx n d (some v) : Nat) : Int) := by
  show (if v < 0 then max (v + (n : Int)) 0 else min v (n : Int)) = (((if v < 0 then (v + (n : Int)).toNat else min v.toNat n) : Nat) : Int)
  by_cases hv : v < 0
  · simp only [if_pos hv]; omega
  · simp only [if_neg hv]; omega
theorem adjust_gen (lo hi : Option Int) (n : Nat) : Builtin.Slice.sliceAdjust lo hi 1 (n : Int) = (((sIx n 0 lo : Nat) : Int), ((sIx n n hi : Nat) : Int)) := by
  have h1 : ¬ ((1 : Int) < 0) := by omega
  unfold Builtin.Slice.sliceAdjust
  simp only [h1, if_false]
  refine Prod.ext ?_ ?_
  · cases lo with
    | none => rfl
    | some v => exact clip_eq v n 0
  · cases hi with
    | none => rfl
    | some v => exact clip_eq v n n
theorem places_gen (i j : Nat) : Builtin.Slice.slicePlaces (i : Int) (j : Int) 1 = j - i := by
  unfold Builtin.Slice.slicePlaces
  have h1 : (1 : Int) > 0 := by omega
  simp only [h1, if_true, Int.ediv_one]
  split <;> omega
theorem slicePart_ {v : Value} {o : Option Int} {Q : Option Int → Shared → Prop} (p : IsPart v o) (h : Q o s) : wpAny (model prog w) A (Builtin.Slice.slicePartIndex v) Q E s := by
  cases p with
  | none => exact slicePart_none h
  | int i t => exact slicePart_int h
theorem sliceApplied_gen {sl : Addr} {vl vu : Value} {lo hi : Option Int} {n : Nat} {Q : Int × Int × Nat → Shared → Prop} (hs : s.heap.IsSliceOf sl vl vu .none) (pl : IsPart vl lo) (pu : IsPart vu hi)
    (h : Q (((sIx n 0 lo : Nat) : Int), 1, sIx n n hi - sIx n 0 lo) s) : wpAny (model prog w) A (Builtin.Slice.sliceApplied (.ref sl) (pure (n : Int))) Q E s := by
  obtain ⟨os, hos, hcs, hds⟩ := id hs
  unfold Builtin.Slice.sliceApplied Builtin.Slice.sliceFields
  refine wpAny_bind (wpAny_bind (wpAny_field hos hds (x := vl) rfl (wpAny_bind (wpAny_field hos hds (x := vu) rfl (wpAny_bind (wpAny_field hos hds (x := .none) rfl (wpAny_pure ?_)))))))
  refine wpAny_bind (slicePart_none ?_)
  show wpAny _ _ (if ((1 : Int) == 0) = true then _ else _) _ _ s
  rw [if_neg (by decide)]
  refine wpAny_bind (slicePart_ pl (wpAny_bind (slicePart_ pu (wpAny_bind (wpAny_pure ?_)))))
  show wpAny _ _ (match Builtin.Slice.sliceAdjust lo hi 1 (n : Int) with | (lo, hi) => pure (lo, (1 : Int), Builtin.Slice.slicePlaces lo hi 1)) _ _ s
  rw [adjust_gen lo hi n]
  show wpAny _ _ (pure (((sIx n 0 lo : Nat) : Int), (1 : Int), Builtin.Slice.slicePlaces ((sIx n 0 lo : Nat) : Int) ((sIx n n hi : Nat) : Int) 1)) _ _ s
  rw [places_gen]
  exact wpAny_pure h
theorem pick_gen (xs : Array Value) (i k : Nat) : ((List.range k).filterMap fun (m : Nat) => xs[((i : Int) + (m : Int) * 1).toNat]?).toArray = ((xs.toList.drop i).take k).toArray := by
  have e : (fun (m : Nat) => xs[((i : Int) + (m : Int) * 1).toNat]?) = fun m => xs[i + m]? := by
    funext m
    have : ((i : Int) + (m : Int) * 1).toNat = i + m := by omega
    rw [this]
  rw [e]
  have := pick_run xs i k
  rw [List.filterMap_map] at this
  have e2 : ((fun x => xs[x]?) ∘ fun x => i + x) = fun m => xs[i + m]? := rfl
  rw [e2] at this
  rw [this]

theorem getItem_tuple_cut {t sl : Addr} {items : Array Value} {vl vu : Value} {lo hi : Option Int} {Q : Value → Shared → Prop} (ht : IsTup s.heap t items) (hs : s.heap.IsSliceOf sl vl vu .none) (pl : IsPart vl lo) (pu : IsPart vu hi)
    (hw : ¬ (sIx items.size 0 lo = 0 ∧ sIx items.size items.size hi = items.size))
    (h : Q (.ref s.heap.objs.size) { s with heap := s.heap.push { cls := .type "tuple", data := .seq ((items.toList.drop (sIx items.size 0 lo)).take (sIx items.size items.size hi - sIx items.size 0 lo)).toArray } })
    (hsz : items.size ≤ sizeLine) : wpAny (model prog w) A (getItem (.ref t) (.ref sl)) Q E s := by
  have htake : sizeOk (.seq ((items.toList.drop (sIx items.size 0 lo)).take (sIx items.size items.size hi - sIx items.size 0 lo)).toArray) := by
    show ((items.toList.drop (sIx items.size 0 lo)).take (sIx items.size items.size hi - sIx items.size 0 lo)).toArray.size ≤ sizeLine
    rw [List.size_toArray, List.length_take, List.length_drop, Array.length_toList]
    omega
  have hj : sIx items.size items.size hi ≤ items.size := sIx_le _ _ (Nat.le_refl _) hi
  obtain ⟨os, hos, hcs, hds⟩ := id hs
  have hTs : s.TypeIs (.ref sl) "slice" := ⟨os, hos, hcs⟩
  unfold getItem
  try with_reducible refine wpAny_holding ?_
  first | refine wpAny_bind (wpAny_pure ?_) | skip
  refine wpAny_bind (wpAny_sequenceKey ht.typeIs (by decide) ?_)
  refine wpAny_bind (wpAny_callSpecial?_slot (name := Str.ofString "__getitem__") ht.typeIs PyProof.Rows.slot_tuple_getitem
    (wpAny_call_entry PyProof.Rows.slot_tuple_getitem ht.typeIs entry_tuple_getitem ?_ (args_tuple_getitem _ _)))
  show wpAny _ _ (Builtin.Tuple.tupleItemsOf (.ref t) >>= _) _ _ s
  refine wpAny_bind (tupleItemsOf_ ht ?_)
  refine wpAny_bind (wpAny_typeOf hTs ?_)
  rw [if_pos (by decide)]
  refine wpAny_bind (sliceApplied_gen hs pl pu ?_)
  have hno : ¬ ((((sIx items.size 0 lo : Nat) : Int) == 0 && (1 : Int) == 1 && (sIx items.size items.size hi - sIx items.size 0 lo) == items.size) = true) := by
    intro q
    rw [Bool.and_eq_true, Bool.and_eq_true] at q
    have q1 : ((sIx items.size 0 lo : Nat) : Int) = 0 := eq_of_beq q.1.1
    have q2 : sIx items.size items.size hi - sIx items.size 0 lo = items.size := eq_of_beq q.2
    exact hw ⟨by omega, by omega⟩
  show wpAny _ _ (if (((sIx items.size 0 lo : Nat) : Int) == 0 && (1 : Int) == 1 && (sIx items.size items.size hi - sIx items.size 0 lo) == items.size) = true then _ else _) _ _ s
  rw [if_neg hno, pick_gen]
  first
    | exact wpAny_bind (m := Builtin.Tuple.tupleExact _) (wpAny_newObj_type (wpAny_pure ⟨_, rfl, wpAny_pure h⟩) htake)
    | exact wpAny_bind (m := Builtin.Tuple.tupleExact _) (wpAny_newObj_type (wpAny_bind (wpAny_pure (wpAny_pure ⟨_, rfl, wpAny_pure h⟩))) htake)
    | exact wpAny_bind (wpAny_bind (m := Builtin.Tuple.tupleExact _) (wpAny_newObj_type (wpAny_pure (wpAny_pure ⟨_, rfl, wpAny_pure h⟩)) htake))
    | exact wpAny_bind (wpAny_bind (m := Builtin.Tuple.tupleExact _) (wpAny_newObj_type (wpAny_pure ⟨_, rfl, wpAny_pure h⟩) htake))
end
end HT

namespace L2
open PySem PySem.Spec PyProof.Rows

/-! ### the parts of a slice -/
abbrev TO := St → Hp → (Option Int → Hp → Prop) → Prop
/-- a slice's part (left out, or an int) -/
def PO (X : Cx) (e : Option Expr) (t : TO) : Prop :=
  ∀ (pins : List (Addr × Obj)) (s : Shared) (σ : St) (H : Hp) (Q : Option Int → Hp → Prop), Inv X pins σ H s → t σ H Q →
    wpAny (model X.prog X.w) X.A (evalPart e X.env) (fun u s' => ∃ o H', Inv X pins σ H' s' ∧ IsPart u o ∧ Q o H') X.xe s
def tNoPart : TO := fun _ H Q => Q none H
def tPart (t : TE) : TO := fun σ H Q => t σ H fun x H1 => ∃ i, x = .int i ∧ Q (some i) H1

theorem intsAre_of {ns : List Int} : ∀ {us : List Value}, Vals (ns.map V.int) us → IntsAre us ns := by
  induction ns with
  | nil => intro us r; rw [List.map_nil] at r; cases r; exact .nil
  | cons n ns ih =>
    intro us r
    rw [List.map_cons] at r
    cases r with
    | cons r1 r2 =>
      obtain ⟨t, e⟩ := r1
      subst e
      exact .cons n t (ih r2)

section
variable {X : Cx} {e : Expr} {te : TE} {lo hi : Option Expr} {tl th : TO} {pos p2 : Pos}

theorem po_none : PO X none tNoPart := by
  intro pins s σ H Q I h
  rw [evalPart_none]
  exact wpAny_pure ⟨none, H, I, .none, h⟩
theorem po_some (h : PE X e te) : PO X (some e) (tPart te) := by
  intro pins s σ H Q I hw
  rw [evalPart_some]
  refine thn (h pins s σ H _ I hw) fun u s1 ⟨x, H1, I1, r1, q1⟩ => ?_
  obtain ⟨i, rfl, q⟩ := q1
  obtain ⟨t, rfl⟩ := r1
  exact ⟨some i, H1, I1, .int i t, q⟩

/-- what a slice of a value is, by values: the slice object stands at sl -/
def SlR (X : Cx) (r : V → Option Int → Option Int → Hp → VK → Prop) : Prop :=
  ∀ (pins : List (Addr × Obj)) (s : Shared) (σ : St) (H : Hp) (x : V) (v vl vu : Value) (lo hi : Option Int) (sl : Addr) (Q : VK), Inv X pins σ H s → RelV x v → s.heap.IsSliceOf sl vl vu .none → IsPart vl lo → IsPart vu hi → r x lo hi H Q →
    ∃ T id, typeLookup (.type T) "__getitem__" = pure (some (.builtin id)) ∧ s.TypeIs v T ∧ wpAny (model X.prog X.w) X.A (getItem v (.ref sl)) (EP X pins σ Q) X.xe s
def tSl (r : V → Option Int → Option Int → Hp → VK → Prop) (te : TE) (tl th : TO) : TE := fun σ H Q => te σ H fun x H1 => tl σ H1 fun l H2 => th σ H2 fun u H3 => r x l u H3 Q
/-- a[lo:hi], any a -/
theorem pe_slice {r : V → Option Int → Option Int → Hp → VK → Prop} (hr : SlR X r) (he : PE X e te) (hl : PO X lo tl) (hu : PO X hi th) : PE X (.Subscript e (.Slice lo hi none p2) pos) (tSl r te tl th) := by
  intro pins s σ H Q I h
  refine Subscript_ (thn (he pins s σ H _ I h) fun v s1 ⟨x, H1, I1, r1, q1⟩ => ?_)
  refine wpAny_Slice (thn (hl pins s1 σ H1 _ I1 q1) fun vl s2 ⟨l, H2, I2, pl, q2⟩ => thn (hu pins s2 σ H2 _ I2 q2) fun vu s3 ⟨u, H3, I3, pu, q3⟩ => ?_)
  rw [evalPart_none]
  refine wpAny_pure ?_
  have I4 : Inv X pins σ H3 { s3 with heap := s3.heap.push { cls := .type "slice", data := .fields #[vl, vu, .none] } } := I3.kept (t' := s3.toks) fun b ob q => Heap.get?_push_of_some _ q
  obtain ⟨T, id, hT, ht, hg⟩ := hr pins { s3 with heap := s3.heap.push { cls := .type "slice", data := .fields #[vl, vu, .none] } } σ H3 x v vl vu l u s3.heap.objs.size Q I4 r1 (Heap.IsSliceOf.new ..) pl pu q3
  show wpAny (model X.prog X.w) X.A (subscriptTail e (.Slice lo hi none p2) v (.ref s3.heap.objs.size)) (EP X pins σ Q) X.xe { s3 with heap := s3.heap.push { cls := .type "slice", data := .fields #[vl, vu, .none] } }
  exact tail_any (ops := [.ref s3.heap.objs.size, v]) ht hT hg (by with_unfolding_all rfl)

/-- the items of xs[lo:hi] -/
def cutV (xs : List V) (lo hi : Option Int) : List V := (xs.drop (HT.sIx xs.length 0 lo)).take (HT.sIx xs.length xs.length hi - HT.sIx xs.length 0 lo)
theorem cutV_length (xs : List V) (lo hi : Option Int) : (cutV xs lo hi).length ≤ xs.length := by
  unfold cutV
  rw [List.length_take, List.length_drop]
  omega

/-! ### t < u, t + u -/
end
end L2

namespace L2
open PySem PySem.Spec PyProof.Rows

/-! ### places -/
/-- the place that an index of any sign means -/
def ixN (n : Nat) (i : Int) : Option Nat := if 0 ≤ i then (if i < n then some i.toNat else none) else if -(n : Int) ≤ i then some (i + n).toNat else none
def atI {α : Type} (xs : List α) (i : Int) : Option α := (ixN xs.length i).bind fun j => xs[j]?
theorem ixN_seq {n : Nat} {i : Int} {j : Nat} (h : ixN n i = some j) : seqIndex? i n = some j ∧ j < n ∧ -(n : Int) ≤ i ∧ i < n := by
  unfold ixN at h
  by_cases h0 : 0 ≤ i
  · rw [if_pos h0] at h
    by_cases h1 : i < n
    · rw [if_pos h1] at h
      have e : i.toNat = j := Option.some.inj h
      exact ⟨by rw [seqIndex_of h0 h1, e], by omega, by omega, h1⟩
    · rw [if_neg h1] at h; cases h
  · rw [if_neg h0] at h
    by_cases h1 : -(n : Int) ≤ i
    · rw [if_pos h1] at h
      have e : (i + n).toNat = j := Option.some.inj h
      exact ⟨by rw [seqIndex_neg (by omega) h1, e], by omega, h1, by omega⟩
    · rw [if_neg h1] at h; cases h
theorem atI_get {α : Type} {xs : List α} {i : Int} {v : α} (h : atI xs i = some v) : ∃ j, seqIndex? i xs.length = some j ∧ xs[j]? = some v ∧ j < xs.length ∧ -(xs.length : Int) ≤ i ∧ i < xs.length := by
  unfold atI at h
  cases e : ixN xs.length i with
  | none => rw [e] at h; cases h
  | some j =>
    rw [e] at h
    obtain ⟨h1, h2, h3, h4⟩ := ixN_seq e
    exact ⟨j, h1, h, h2, h3, h4⟩
theorem atI_nat {α : Type} {xs : List α} {j : Nat} {v : α} (h : xs[j]? = some v) : atI xs (j : Int) = some v := by
  have hj : j < xs.length := (List.getElem?_eq_some_iff.mp h).1
  have e : ixN xs.length (j : Int) = some j := by
    unfold ixN
    rw [if_pos (by omega), if_pos (by omega)]; simp
  unfold atI; rw [e]; exact h

/-! ### what may be subscripted -/
/-- what stands as an index of a plain subscript -/
def PlainIx (b : Expr) : Prop := ∀ o i, subscripted b false o i = operate [o, i] (getItem o i)
/-- a subscript by values -/
def IxR (X : Cx) (r : R2) : Prop :=
  ∀ (value slice : Expr) (pins : List (Addr × Obj)) (s : Shared) (σ : St) (H : Hp) (x y : V) (v u : Value) (Q : VK), Inv X pins σ H s → RelV x v → RelV y u → r x y H Q →
    subscripted slice false v u = operate [v, u] (getItem v u) → wpAny (model X.prog X.w) X.A (subscriptTail value slice v u) (EP X pins σ Q) X.xe s
/-- a call of a builtin's method by values: the receiver, the arguments -/
def MtR (X : Cx) (id : String) (r : V → List V → Hp → VK → Prop) : Prop :=
  ∀ (pins : List (Addr × Obj)) (s : Shared) (σ : St) (H : Hp) (x : V) (xs : List V) (v : Value) (us : List Value) (Q : VK), Inv X pins σ H s → RelV x v → Vals xs us → r x xs H Q →
    wpAny (model X.prog X.w) X.A (call (.builtin id) (v :: us)) (EP X pins σ Q) X.xe s
section
variable {X : Cx} {a b : Expr} {ta tb : TE} {pos : Pos}
/-- a[b] -/
theorem pe_ix {r : R2} (hr : IxR X r) (ha : PE X a ta) (hb : PE X b tb) (hs : PlainIx b) : PE X (.Subscript a b pos) (tOp r ta tb) := by
  intro pins s σ H Q I h
  exact Subscript_ (binT ha hb I h fun v u s2 x y H2 I2 rx ry q => hr a b pins s2 σ H2 x y v u Q I2 rx ry q (hs _ _))

def rIxL (K : PySem.W.Frag) : R2 := fun x y H Q => ∃ p xs i v, x = .ref p ∧ y = .int i ∧ SqL K H p xs ∧ atI xs i = some v ∧ Q v H
def rIxT (K : PySem.W.Frag) : R2 := fun x y H Q => ∃ p xs i v, x = .ref p ∧ y = .int i ∧ SqT K H p xs ∧ atI xs i = some v ∧ Q v H
def rIxS : R2 := fun x y H Q => ∃ z i c, x = .str z ∧ y = .int i ∧ z.length ≤ sizeLine ∧ atI z.cps.toList i = some c ∧ Q (.str ⟨#[c]⟩) H
theorem ix_list : IxR X (rIxL X.K) := by
  intro value slice pins s σ H x y v u Q I rx ry h hs
  obtain ⟨p, xs, i, z, rfl, rfl, hq, he, q⟩ := h
  cases rx
  obtain ⟨t, rfl⟩ := ry
  obtain ⟨its, r, pl, hz⟩ := I.list hq
  obtain ⟨j, h1, h2, h3, h4, h5⟩ := atI_get he
  obtain ⟨w, ew, rw'⟩ := r.get h2
  have hl := r.length
  have hn := line63
  have fin : EP X pins σ Q w s := ⟨z, H, I, rw', q⟩
  by_cases h0 : 0 ≤ i
  · have hj : i.toNat = j := by
      rw [seqIndex_of h0 h5] at h1
      exact Option.some.inj h1
    exact item_listR pl.isList h0 (by omega) (by rw [hj]; simpa using ew) fin hs
  · have hj : (i + (its.toArray.size : Int)).toNat = j := by
      rw [seqIndex_neg (by omega) h4] at h1
      rw [List.size_toArray, ← hl]
      exact Option.some.inj h1
    exact subscriptTail_builtinR (x := w) pl.isList.typeIs slot_list_getitem.lookup
      (wpAny_getItem_list_neg (Q := fun r s' => r = w ∧ EP X pins σ Q r s') pl.isList (by omega) (by rw [List.size_toArray] <;> omega) (by omega) (by rw [hj]; simpa using ew) ⟨rfl, fin⟩) hs
theorem ix_tup : IxR X (rIxT X.K) := by
  intro value slice pins s σ H x y v u Q I rx ry h hs
  obtain ⟨p, xs, i, z, rfl, rfl, hq, he, q⟩ := h
  cases rx
  obtain ⟨t, rfl⟩ := ry
  obtain ⟨its, r, pl, hz⟩ := I.tuple hq
  obtain ⟨j, h1, h2, h3, h4, h5⟩ := atI_get he
  obtain ⟨w, ew, rw'⟩ := r.get h2
  have hl := r.length
  have hn := line63
  have fin : EP X pins σ Q w s := ⟨z, H, I, rw', q⟩
  exact subscriptTail_builtinR (x := w) pl.typeIs slot_tuple_getitem.lookup
    (getItem_tuple (j := j) (Q := fun r s' => r = w ∧ EP X pins σ Q r s') pl (by omega) (by omega) (by rw [List.size_toArray, ← hl]; exact h1) (by simpa using ew) ⟨rfl, fin⟩) hs
theorem ix_str : IxR X rIxS := by
  intro value slice pins s σ H x y v u Q I rx ry h hs
  obtain ⟨z, i, c, rfl, rfl, hz, he, q⟩ := h
  obtain ⟨t, rfl⟩ := rx
  obtain ⟨t', rfl⟩ := ry
  obtain ⟨j, h1, h2, h3, h4, h5⟩ := atI_get he
  have hl : z.cps.toList.length = z.length := by simp [Str.length]
  rw [hl] at h1 h4 h5
  have hn := line63
  exact tail_any (typeIs_str s z t) slot_str_getitem.lookup (getItem_str (c := c) (by
    have e1 : decide (i < -(2 ^ 63 : Int)) = false := decide_eq_false (by omega)
    have e2 : decide (i ≥ 2 ^ 63) = false := decide_eq_false (by omega)
    rw [e1, e2, Bool.or_false]) (by rw [h1]; simpa using h2) ⟨.str ⟨#[c]⟩, H, I.tok _, ⟨_, rfl⟩, q⟩) hs

/-! ### xs[i] = v, any sign -/
/-- the list's object behind a store -/
theorem mapSeq_set (its : List Value) (n j : Nat) (u : Value) : Obj.mapSeq (·.setIfInBounds j u) { cls := .type "list", data := .seq its.toArray n } = { cls := .type "list", data := .seq (its.set j u).toArray n } := by
  simp [Obj.mapSeq]
theorem Inv.lst {pins : List (Addr × Obj)} {σ : St} {H : Hp} {s : Shared} {p : Addr} {xs : List V} (I : Inv X pins σ H s) (h : H p = some (.lst xs)) :
    ∃ (its : List Value) (n : Nat), Vals xs its ∧ s.heap.get? p = some { cls := .type "list", data := .seq its.toArray n } ∧ xs.length ≤ sizeLine := by
  obtain ⟨z, its, n, r, e⟩ := I.hok p _ h
  exact ⟨its, n, r, e, z⟩
/-- the list at p is written by an update of its object -/
theorem Inv.lstUpd {pins : List (Addr × Obj)} {σ : St} {H : Hp} {s : Shared} {p : Addr} {xs ys : List V} {its its' : List Value} {n n' : Nat} {f : Obj → Obj} (I : Inv X pins σ H s) (h : H p = some (.lst xs))
    (ho : s.heap.get? p = some { cls := .type "list", data := .seq its.toArray n }) (hf : f { cls := .type "list", data := .seq its.toArray n } = { cls := .type "list", data := .seq its'.toArray n' }) (r : Vals ys its') (hz : ys.length ≤ sizeLine) (t : Nat) :
    Inv X pins σ (upd H p (.lst ys)) { s with heap := s.heap.update p f, toks := t } := by
  have e : (s.heap.update p f).get? p = some { cls := .type "list", data := .seq its'.toArray n' } := by
    rw [Heap.get?_update_self f ho (by rw [hf] <;> rfl), hf]
  refine I.write (x := p) (e := p) (by rw [h]; trivial) (.inl rfl) (fun b u hb q => (Heap.get?_update_other _ _ (Ne.symm hb)).trans q) ⟨_, e⟩ ?_
  exact ⟨hz, its', n', r, e⟩
def rSetL : V → V → V → Hp → (Hp → Prop) → Prop := fun o i v H Q => ∃ p xs k j, o = .ref p ∧ i = .int k ∧ H p = some (.lst xs) ∧ ixN xs.length k = some j ∧ Q (upd H p (.lst (xs.set j v)))
theorem set_list : PSet X rSetL := by
  intro pins s σ H o i v ov iv u Q I ro ri rv h
  obtain ⟨p, xs, k, j, rfl, rfl, hp, hj, q⟩ := h
  cases ro
  obtain ⟨t, rfl⟩ := ri
  obtain ⟨its, n, r, ho, hz⟩ := I.lst hp
  obtain ⟨h1, h2, h3, h4⟩ := ixN_seq hj
  have hl := r.length
  have hn := line63
  have I' : Inv X pins σ (upd H p (.lst (xs.set j v))) { s with heap := s.heap.update p (Obj.mapSeq (·.setIfInBounds j u)) } :=
    I.lstUpd hp ho (mapSeq_set its n j u) (r.set rv j) (by rw [List.length_set]; exact hz) s.toks
  by_cases h0 : 0 ≤ k
  · have hk : k.toNat = j := by
      rw [seqIndex_of h0 h4] at h1
      exact Option.some.inj h1
    exact PySem.W.ki_setAt ho h0 (by omega) (by rw [List.size_toArray, ← hl]; exact h4) (by rw [hk]; exact ⟨_, I', q⟩)
  · have hk : (k + (its.toArray.size : Int)).toNat = j := by
      rw [seqIndex_neg (by omega) h3] at h1
      rw [List.size_toArray, ← hl]
      exact Option.some.inj h1
    exact PySem.W.ki_setBack ho (by omega) (by rw [List.size_toArray, ← hl]; exact h3) (by omega) (by rw [hk]; exact ⟨_, I', q⟩)

/-! ### slices -/
theorem slice_bounds (lo hi : Option Int) (n : Nat) : (sliceBounds lo hi none n).1 = ((HT.sIx n 0 lo : Nat) : Int) ∧ (sliceBounds lo hi none n).2.1 = ((HT.sIx n n hi : Nat) : Int) ∧ (sliceBounds lo hi none n).2.2 = 1 := by
  refine ⟨?_, ?_, rfl⟩
  · cases lo with
    | none => simp [sliceBounds, HT.sIx]
    | some i =>
      simp only [sliceBounds, HT.sIx, Option.getD_none, show (1 : Int) > 0 by decide, if_true]
      by_cases h : i < 0
      · simp only [h, if_true] <;> omega
      · simp only [h, if_false] <;> omega
  · cases hi with
    | none => simp [sliceBounds, HT.sIx]
    | some i =>
      simp only [sliceBounds, HT.sIx, Option.getD_none, show (1 : Int) > 0 by decide, if_true]
      by_cases h : i < 0
      · simp only [h, if_true] <;> omega
      · simp only [h, if_false] <;> omega
theorem slicePick_cut (its : List Value) (lo hi : Option Int) : slicePick its.toArray lo hi none = ((its.drop (HT.sIx its.length 0 lo)).take (HT.sIx its.length its.length hi - HT.sIx its.length 0 lo)).toArray := by
  obtain ⟨h1, h2, h3⟩ := slice_bounds lo hi its.toArray.size
  unfold slicePick
  rw [h1, h2, h3]
  simp only [sliceRange_one, pick_run, List.size_toArray] <;> rfl
/-- xs[lo:hi] of a list: a new list -/
def rSlL (K : PySem.W.Frag) : V → Option Int → Option Int → Hp → VK → Prop := fun x lo hi H Q => ∃ a xs, x = .ref a ∧ SqL K H a xs ∧ ∀ p, H p = none → Q (.ref p) (upd H p (.lst (cutV xs lo hi)))
theorem sl_list : SlR X (rSlL X.K) := by
  intro pins s σ H x v vl vu lo hi sl Q I rx hs pl pu h
  obtain ⟨a, xs, rfl, hx, q⟩ := h
  cases rx
  obtain ⟨its, r, ht, hz⟩ := I.list hx
  have hlen := r.length
  refine ⟨"list", _, slot_list_getitem.lookup, ht.isList.typeIs, ?_⟩
  refine wpAny_getItem_list_slice ht.isList hs pl pu .none (by simp) ?_ (by rw [List.size_toArray] <;> omega)
  rw [slicePick_cut, ← hlen]
  refine ⟨.ref s.heap.objs.size, _, I.laid (t' := s.toks) (o := .lst (cutV xs lo hi)) (fun b ob q => Heap.get?_push_of_some _ q) (Nat.le_refl _) ?_, rfl, q _ (I.hok.fresh (Nat.le_refl _))⟩
  exact ⟨Nat.le_trans (cutV_length xs lo hi) hz, _, 0, (r.drop (HT.sIx xs.length 0 lo)).take (HT.sIx xs.length xs.length hi - HT.sIx xs.length 0 lo), Heap.get?_push_size _ rfl⟩

/-! ### in, not in: flat items -/

/-! ### len, list(x), tuple(x) of any list or tuple that is read -/
theorem call_len_seq : CallR X (.builtin "len") (fun xs H Q => ∃ p ys, xs = [.ref p] ∧ (SqL X.K H p ys ∨ SqT X.K H p ys) ∧ Q (.int ys.length) H) := by
  intro pins s σ H xs us Q I r h
  obtain ⟨p, ys, rfl, hq, q⟩ := h
  obtain ⟨u, rfl, rx⟩ := vals1 r
  cases rx
  have hn := line63
  rcases hq with hq | hq
  · obtain ⟨its, r', pl, hz⟩ := I.list hq
    have hlen := r'.length
    exact Calls.call_len_list pl.isList (by simp only [List.size_toArray] <;> omega) ⟨.int ys.length, H, I.tok _, ⟨s.toks + 1, by rw [List.size_toArray, hlen]⟩, q⟩
  · obtain ⟨its, r', pl, hz⟩ := I.tuple hq
    have hlen := r'.length
    exact len_tuple pl (by simp only [List.size_toArray] <;> omega) ⟨.int ys.length, H, I.tok _, ⟨s.toks + 1, by rw [List.size_toArray, hlen]⟩, q⟩
theorem call_len_str : CallR X (.builtin "len") (fun xs H Q => ∃ z, xs = [.str z] ∧ z.length ≤ sizeLine ∧ Q (.int z.length) H) := by
  intro pins s σ H xs us Q I r h
  obtain ⟨z, rfl, hz, q⟩ := h
  obtain ⟨u, rfl, t, rfl⟩ := vals1 r
  have hn := line63
  exact len_str (by omega) ⟨.int z.length, H, I.tok _, ⟨_, rfl⟩, q⟩
theorem call_list_of : CallR X (.type "list") (fun xs H Q => ∃ p ys, xs = [.ref p] ∧ (SqL X.K H p ys ∨ SqT X.K H p ys) ∧ ∀ l, H l = none → Q (.ref l) (upd H l (.lst ys))) := by
  intro pins s σ H xs us Q I r h
  obtain ⟨p, ys, rfl, hq, q⟩ := h
  obtain ⟨u, rfl, rx⟩ := vals1 r
  cases rx
  have fin : ∀ (its : List Value), Vals ys its → ys.length ≤ sizeLine → ∀ (h' : Heap) (c' : Nat), (∀ b o', s.heap.get? b = some o' → h'.get? b = some o') →
      h'.get? s.heap.objs.size = some { cls := .type "list", dict := none, data := .seq its.toArray c', slots := #[] } → EP X pins σ Q (.ref s.heap.objs.size) { s with heap := h' } := fun its r' hz h' c' kp e =>
    ⟨.ref s.heap.objs.size, _, I.laid (t' := s.toks) kp (Nat.le_refl _) (show ObjOk X.prog X.w _ h' _ (.lst ys) from ⟨hz, its, c', r', e⟩), rfl, q _ (I.hok.fresh (Nat.le_refl _))⟩
  rcases hq with hq | hq
  · obtain ⟨its, r', pl, hz⟩ := I.list hq
    have hlen := r'.length
    obtain ⟨o, ho, hc, n, hd⟩ := pl.isList
    exact call_list_seq p (.inl rfl) ho hc hd (fun h' c' kp e => fin its r' hz h' c' kp e) (by simp only [List.size_toArray] <;> omega)
  · obtain ⟨its, r', pl, hz⟩ := I.tuple hq
    have hlen := r'.length
    obtain ⟨o, ho, hc, n, hd⟩ := pl
    exact call_list_seq p (.inr rfl) ho hc hd (fun h' c' kp e => fin its r' hz h' c' kp e) (by simp only [List.size_toArray] <;> omega)

/-! ### the call of a builtin's method: o.m(..) -/
/-- the value is of that builtin type -/
def tyV (K : PySem.W.Frag) (T : String) (x : V) (H : Hp) : Prop := match x with
  | .str _ => T = "str"
  | .int _ => T = "int"
  | .ref p => (T = "list" ∧ ∃ xs, SqL K H p xs) ∨ (T = "tuple" ∧ ∃ o, K.lookup p = some o ∧ o.cls = .type "tuple" ∧ o.dict = none) ∨
      (T = "dict" ∧ ((∃ kvs, H p = some (.dK kvs)) ∨ ∃ kvs, H p = some (.dT kvs))) ∨ (T = "set" ∧ ∃ S n, H p = some (.set S n))
  | _ => False
theorem tyV_is {pins : List (Addr × Obj)} {σ : St} {H : Hp} {s : Shared} {T : String} {x : V} {v : Value} (I : Inv X pins σ H s) (r : RelV x v) (ty : tyV X.K T x H) :
    s.TypeIs v T ∧ ∀ a, v = .ref a → ∃ ob, s.heap.get? a = some ob ∧ ob.dict = none := by
  cases x with
  | str z =>
    obtain ⟨t, rfl⟩ := r
    cases (show T = "str" from ty)
    exact ⟨typeIs_str s z t, fun _ e => nomatch e⟩
  | int i =>
    obtain ⟨t, rfl⟩ := r
    cases (show T = "int" from ty)
    exact ⟨typeIs_int s i t, fun _ e => nomatch e⟩
  | ref p =>
    cases r
    rcases ty with ⟨rfl, xs, hq⟩ | ⟨rfl, o, hk, hc, hd⟩ | ⟨rfl, hk⟩ | ⟨rfl, S, n, hk⟩
    · obtain ⟨its, _, pl, _⟩ := I.list hq
      refine ⟨pl.isList.typeIs, fun a e => ?_⟩
      cases e
      obtain ⟨o, n, e, c, hd, _⟩ := pl
      exact ⟨o, e, hd⟩
    · refine ⟨⟨o, I.kIn p o hk, hc⟩, fun a e => ?_⟩
      cases e
      exact ⟨o, I.kIn _ o hk, hd⟩
    · have z : ∃ o, s.heap.get? p = some o ∧ o.ExactDict := by
        rcases hk with ⟨kvs, hk⟩ | ⟨kvs, hk⟩
        · obtain ⟨_, _, _, _, o, _, _, e, ex, _⟩ := I.hok p _ hk
          exact ⟨o, e, ex⟩
        · obtain ⟨_, _, _, _, o, _, _, e, ex, _⟩ := I.hok p _ hk
          exact ⟨o, e, ex⟩
      obtain ⟨o, e, ex⟩ := z
      refine ⟨⟨o, e, ex.1⟩, fun a e2 => ?_⟩
      cases e2
      exact ⟨o, e, ex.2.1⟩
    · obtain ⟨o, _, _, _, e, ex, _⟩ := I.hok p _ hk
      refine ⟨⟨o, e, ex.1⟩, fun a e2 => ?_⟩
      cases e2
      exact ⟨o, e, ex.2.1⟩
  | _ => exact False.elim ty
def tBM (K : PySem.W.Frag) (T : String) (r : V → List V → Hp → VK → Prop) (to : TE) (t : TA) : TE := fun σ H Q => to σ H fun x H1 => tyV K T x H1 ∧ t σ H1 fun xs H2 => r x xs H2 Q
variable {o e : Expr} {es : List Expr} {to : TE} {t : TA} {name : Str} {apos cpos : Pos} {T id : String} {r : V → List V → Hp → VK → Prop}
theorem pe_bm (pa : PlainAttrs T) (slot : Slot T name id) (hty : typeOf (.builtin id) = pure (.type "method_descriptor")) (hm : MtR X id r) (ho : PE X o to) (ha : PA X (e :: es) t)
    (hbase : attributeBase o name X.env (eval o X.env) = eval o X.env := by rfl)
    (hfew : ((backTo cpos (starEach (e :: es) X.env)).all (fun x => !x.1) && (backToKw cpos (keywordEach [] X.env)).all (fun x => x.1.isSome)
      && decide ((e :: es).length + ([] : List Keyword).length + (if ([] : List Keyword).isEmpty then 0 else 1) < 30)) = true := by rfl)
    (hline : (apos.endLine == cpos.line) = true := by rfl) (hs : starEach (e :: es) X.env = (false, eval e X.env) :: starEach es X.env := by rfl) (hplain : (backTo cpos (starEach es X.env)).any (·.1) = false := by rfl) :
    PE X (.Call (.Attribute o name apos) (e :: es) [] cpos) (tBM X.K T r to t) := by
  intro pins s σ H Q I h
  refine wpAny_Call_method_late hbase hfew hline rfl (thn (ho pins s σ H _ I h) fun v s1 ⟨x, H1, I1, r1, ty, q1⟩ => ?_)
  obtain ⟨h1, h2⟩ := tyV_is I1 r1 ty
  refine ⟨T, id, pa, slot, hty, h1, h2, ?_⟩
  have hA := ha cpos pins s1 σ H1 _ I1 q1
  rw [hs] at hA ⊢
  refine Calls.callWith_builtin (by show (false || (backTo cpos (starEach es X.env)).any (·.1)) = false; rw [hplain] <;> rfl) (Calls.evalArgs_plain ?_)
  exact thn hA fun us s2 ⟨vs, H2, I2, r2, q2⟩ => hm pins s2 σ H2 x vs v us Q I2 r1 r2 q2
/- xs.append(e), list.index on a module's tuple .. are MtR facts of 06m -/
end
end L2

namespace L2
open PySem PySem.Spec PyProof.Rows

def MtM (X : Cx) (id : String) (r : V → List V → Hp → VK → Prop) : Prop :=
  ∀ (pins : List (Addr × Obj)) (s : Shared) (σ : St) (H : Hp) (x : V) (xs : List V) (v : Value) (us : List Value) (Q : VK), Inv X pins σ H s → RelV x v → Vals xs us → r x xs H Q →
    wpAny (model X.prog X.w) X.A (call (.builtin id) (v :: us)) (EP X pins σ Q) X.xe s

/-! ### lists of values -/
theorem Vals.one : ∀ {x : V} {us : List Value}, Vals [x] us → ∃ u, us = [u] ∧ RelV x u
  | _, _, .cons r .nil => ⟨_, rfl, r⟩

section
variable {X : Cx} {pins : List (Addr × Obj)} {σ : St} {H : Hp} {s : Shared} {l b : Addr} {xs ys zs : List V}

/-! ### the two steps: a tracked list is rewritten, a new list is laid -/
theorem Inv.lset {its its' : List Value} {n : Nat} {f : Array Value → Array Value} {t' : Nat} (I : Inv X pins σ H s) (hH : H l = some (.lst xs))
    (e : s.heap.get? l = some { cls := .type "list", data := .seq its.toArray n }) (hf : f its.toArray = its'.toArray) (hv : Vals ys its') (hz : ys.length ≤ sizeLine) :
    Inv X pins σ (upd H l (.lst ys)) { s with heap := s.heap.update l (Obj.mapSeq f), toks := t' } := by
  have q := PySem.IsL.update e f
  rw [hf] at q
  refine I.write (x := l) (e := l) (by rw [hH]; exact trivial) (.inl rfl) (fun b' u hb hu => (Heap.get?_update_other s.heap (Obj.mapSeq f) (Ne.symm hb)).trans hu) ⟨_, q⟩ ?_
  exact ⟨hz, its', _, hv, q⟩
theorem Inv.lnew {its : List Value} {t' : Nat} (I : Inv X pins σ H s) (hv : Vals ys its) (hz : ys.length ≤ sizeLine) :
    Inv X pins σ (upd H s.heap.objs.size (.lst ys)) { s with heap := s.heap.push { cls := .type "list", data := .seq its.toArray }, toks := t' } :=
  I.laid (fun _ _ q => Heap.get?_push_of_some _ q) (Nat.le_refl _) ⟨hz, its, 0, hv, Heap.get?_push_size _ rfl⟩
theorem Inv.fresh (I : Inv X pins σ H s) : H s.heap.objs.size = none := I.hok.fresh (Nat.le_refl _)
theorem Inv.lstM (I : Inv X pins σ H s) (hH : H l = some (.lst xs)) : xs.length ≤ sizeLine ∧ ∃ (its : List Value) (n : Nat), Vals xs its ∧ xs.length = its.length ∧ s.heap.get? l = some { cls := .type "list", data := .seq its.toArray n } := by
  obtain ⟨z, its, n, r, e⟩ := I.hok l _ hH
  exact ⟨z, its, n, r, r.length, e⟩

end

section
variable {X : Cx}

/-! ### methods -/
def rAppend : V → List V → Hp → VK → Prop := fun x vs H Q => ∃ l xs y, x = .ref l ∧ vs = [y] ∧ H l = some (.lst xs) ∧ xs.length < sizeLine ∧ Q .non (upd H l (.lst (xs ++ [y])))
theorem mt_append : MtM X "list.append" rAppend := by
  intro pins s σ H x vs v us Q I rx rv h
  obtain ⟨l, xs, y, rfl, rfl, hH, hz, q⟩ := h
  cases rx
  obtain ⟨u, rfl, ru⟩ := rv.one
  obtain ⟨z, its, n, r, hl, e⟩ := I.lstM hH
  refine call_meets F.slot_list_append ⟨_, e, rfl⟩ F.entry_list_append (F.args_list_append_2 _ _) (PySem.list_append l its.toArray n u (by rw [List.size_toArray]; omega)) ⟨e, ?_⟩
  refine ⟨.non, _, I.lset (its' := its ++ [u]) hH e (by simp) (r.append (.cons ru .nil)) ?_, rfl, q⟩
  rw [List.length_append, List.length_singleton]
  omega






/-! ### list + list, list += list, list * int -/
def rCat : R2 := fun x y H Q => ∃ l b xs zs, x = .ref l ∧ y = .ref b ∧ H l = some (.lst xs) ∧ H b = some (.lst zs) ∧ xs.length + zs.length ≤ sizeLine ∧ ∀ p, H p = none → Q (.ref p) (upd H p (.lst (xs ++ zs)))
theorem op_cat : OpR X (binaryOp .Add) rCat := by
  intro pins s σ H x y v u Q I rx ry h
  obtain ⟨l, b, xs, zs, rfl, rfl, hH, hB, hz, q⟩ := h
  cases rx
  cases ry
  obtain ⟨z, its, n, r, hl, e⟩ := I.lstM hH
  obtain ⟨z2, its2, n2, r2, hl2, e2⟩ := I.lstM hB
  refine PySem.P.add_list e e2 ?_ (by rw [List.size_toArray, List.size_toArray]; omega)
  have ea : its.toArray ++ its2.toArray = (its ++ its2).toArray := by simp
  rw [ea]
  exact ⟨.ref _, _, I.lnew (t' := s.toks) (r.append r2) (by rw [List.length_append]; omega), rfl, q _ I.fresh⟩

/-! ### del xs[i] -/
end

/-! ### xs[a:b] = ys -/
section
variable {prog : Program} {w : World} {A : Around} {E : Value → Shared → Prop} {s : Shared}
set_option maxRecDepth 100000 in
end

section
variable {X : Cx}
end
end L2

namespace L2
open PySem PySem.Spec PyProof.Rows

/-! ### lists of pairs as tables -/
section
variable {κ : Type} [DecidableEq κ]
def valV (kvs : List (κ × V)) (k : κ) : Option V := (kvs.find? fun kv => decide (kv.1 = k)).map (·.2)
/-- in its place, or at the end -/
def putK (kvs : List (κ × V)) (k : κ) (v : V) : List (κ × V) :=
  if (kvs.any fun kv => decide (kv.1 = k)) = true then kvs.map (fun kv => if kv.1 = k then (kv.1, v) else kv) else kvs ++ [(k, v)]

theorem valV_pos {p : κ × V} {r : List (κ × V)} {k : κ} (e : p.1 = k) : valV (p :: r) k = some p.2 := by simp [valV, List.find?_cons, e]
theorem valV_neg {p : κ × V} {r : List (κ × V)} {k : κ} (e : ¬ p.1 = k) : valV (p :: r) k = valV r k := by simp [valV, List.find?_cons, e]
theorem valV_any (k : κ) : ∀ kvs : List (κ × V), (kvs.any fun kv => decide (kv.1 = k)) = (valV kvs k).isSome
  | [] => rfl
  | p :: r => by
    rw [List.any_cons]
    by_cases e : p.1 = k
    · simp only [valV_pos e, decide_eq_true e, Bool.true_or, Option.isSome_some]
    · rw [valV_neg e, decide_eq_false e, Bool.false_or]; exact valV_any k r
theorem valV_map (k j : κ) (y : V) : ∀ kvs : List (κ × V), valV (kvs.map fun kv => if kv.1 = k then (kv.1, y) else kv) j = (valV kvs j).map fun x => if j = k then y else x
  | [] => rfl
  | p :: r => by
    have ih := valV_map k j y r
    rw [List.map_cons]
    by_cases h : p.1 = k
    · rw [if_pos h]
      by_cases e : p.1 = j
      · rw [valV_pos (p := (p.1, y)) e, valV_pos e, Option.map_some, if_pos (e.symm.trans h)]
      · rw [valV_neg (p := (p.1, y)) e, valV_neg e, ih]
    · rw [if_neg h]
      by_cases e : p.1 = j
      · rw [valV_pos (p := p) e, valV_pos e, Option.map_some, if_neg (fun z => h (e.trans z))]
      · rw [valV_neg (p := p) e, valV_neg e, ih]
theorem valV_snoc (k j : κ) (y : V) : ∀ kvs : List (κ × V), valV kvs k = none → valV (kvs ++ [(k, y)]) j = if j = k then some y else valV kvs j
  | [], _ => by
    by_cases e : k = j
    · rw [if_pos e.symm]; exact valV_pos (p := (k, y)) e
    · rw [if_neg (fun z => e z.symm)]; exact valV_neg (p := (k, y)) e
  | p :: r, hn => by
    rw [List.cons_append]
    have hk : ¬ p.1 = k := fun z => by rw [valV_pos z] at hn; cases hn
    rw [valV_neg hk] at hn
    have ih := valV_snoc k j y r hn
    by_cases e : p.1 = j
    · rw [valV_pos e, valV_pos e, if_neg (fun z => hk (e.trans z))]
    · rw [valV_neg e, valV_neg e, ih]
theorem valV_put (kvs : List (κ × V)) (k j : κ) (y : V) : valV (putK kvs k y) j = if j = k then some y else valV kvs j := by
  unfold putK
  by_cases a : (kvs.any fun kv => decide (kv.1 = k)) = true
  · rw [if_pos a, valV_map]
    rw [valV_any] at a
    by_cases e : j = k
    · obtain ⟨x, hx⟩ := Option.isSome_iff_exists.mp a
      rw [if_pos e, e, hx, Option.map_some, if_pos rfl]
    · rw [if_neg e]
      cases valV kvs j with
      | none => rfl
      | some x => rw [Option.map_some, if_neg e]
  · rw [if_neg a]
    refine valV_snoc k j y kvs ?_
    rw [valV_any] at a
    cases q : valV kvs k with
    | none => rfl
    | some x => rw [q] at a; exact (a rfl).elim
theorem length_putK (kvs : List (κ × V)) (k : κ) (v : V) : (putK kvs k v).length ≤ kvs.length + 1 := by
  unfold putK
  split
  · rw [List.length_map]; omega
  · rw [List.length_append, List.length_cons, List.length_nil]; omega

theorem RelO.isSome_eq {o : Option V} {u : Option Value} (r : RelO o u) : o.isSome = u.isSome := by
  cases o with
  | none => cases u with
    | none => rfl
    | some _ => exact (show False from r).elim
  | some _ => cases u with
    | none => exact (show False from r).elim
    | some _ => rfl
theorem RelO.getD {o : Option V} {u : Option Value} {d : V} {d' : Value} (r : RelO o u) (rd : RelV d d') : RelV (o.getD d) (u.getD d') := by
  cases o with
  | none => cases u with
    | none => exact rd
    | some _ => exact (show False from r).elim
  | some _ => cases u with
    | none => exact (show False from r).elim
    | some _ => exact r

/-- raw tables of the same keys -/
theorem KV.val {kvs : List (κ × V)} {vs : List (κ × Value)} (r : KV kvs vs) (k : κ) : RelO (valV kvs k) (valueAt vs k) := by
  unfold KV at r
  induction r with
  | nil => exact True.intro
  | @cons p q ps qs h t ih =>
    obtain ⟨h1, h2⟩ := h
    by_cases e : p.1 = k
    · have e' : q.1 = k := h1.symm.trans e
      have b : valueAt (q :: qs) k = some q.2 := by simp [valueAt, List.find?_cons, e']
      rw [valV_pos e, b]; exact h2
    · have e' : ¬ q.1 = k := fun z => e (h1.trans z)
      have b : valueAt (q :: qs) k = valueAt qs k := by simp [valueAt, List.find?_cons, e']
      rw [valV_neg e, b]; exact ih
theorem KV.any {kvs : List (κ × V)} {vs : List (κ × Value)} (r : KV kvs vs) (k : κ) : (kvs.any fun kv => decide (kv.1 = k)) = vs.any fun kv => decide (kv.1 = k) := by
  unfold KV at r
  induction r with
  | nil => rfl
  | cons h t ih => rw [List.any_cons, List.any_cons, ih, h.1]
theorem KV.repl {kvs : List (κ × V)} {vs : List (κ × Value)} (r : KV kvs vs) (k : κ) {y : V} {u : Value} (ry : RelV y u) :
    KV (kvs.map fun kv => if kv.1 = k then (kv.1, y) else kv) (vs.map fun kv => if kv.1 = k then (kv.1, u) else kv) := by
  unfold KV at r ⊢
  induction r with
  | nil => exact .nil
  | @cons p q ps qs h t ih =>
    rw [List.map_cons, List.map_cons]
    refine .cons ?_ ih
    obtain ⟨h1, h2⟩ := h
    by_cases e : p.1 = k
    · rw [if_pos e, if_pos (h1.symm.trans e)]; exact ⟨h1, ry⟩
    · rw [if_neg e, if_neg (fun z => e (h1.trans z))]; exact ⟨h1, h2⟩
theorem KV.put {kvs : List (κ × V)} {vs : List (κ × Value)} (r : KV kvs vs) (k : κ) {y : V} {u : Value} (ry : RelV y u) : KV (putK kvs k y) (stored vs k u) := by
  unfold putK stored
  rw [r.any k]
  by_cases e : (vs.any fun kv => decide (kv.1 = k)) = true
  · rw [if_pos e, if_pos e]; exact r.repl k ry
  · rw [if_neg e, if_neg e]; exact Paired.snoc r ⟨rfl, ry⟩
theorem KV.length {kvs : List (κ × V)} {vs : List (κ × Value)} (r : KV kvs vs) : kvs.length = vs.length := Paired.length r
end


/-! ### a tracked dict, its keys ints and texts or tuples of these -/
theorem kV_is {P : Program} {w : World} {k : Key} {u : Value} (r : RelV (kV k) u) : (mixKind P w).is k u = true := by
  cases k with
  | inl i => obtain ⟨t, e⟩ := (show ∃ t, u = Value.int i t from r); subst e; exact mixKind_int P w i t
  | inr x => obtain ⟨t, e⟩ := (show ∃ t, u = Value.str x t from r); subst e; exact mixKind_str P w x t
theorem items_are {P : Program} {w : World} : ∀ {ks : List Key} {us : List Value}, Vals (ks.map kV) us → ItemsAre (mixKind P w) ks us
  | [], _, r => by rw [List.map_nil] at r; cases r; exact .nil
  | k :: ks, _, r => by
    rw [List.map_cons] at r
    cases r with
    | cons h t => exact .cons (kV_is h) (items_are t)

/-- raw entries of a dict with tuple keys -/
abbrev KT (H : Hp) : List (List Key × V) → List (List Key × Addr × Value) → Prop := Paired fun p q => p.1 = q.1 ∧ H q.2.1 = some (.tup (p.1.map kV)) ∧ RelV p.2 q.2.2
theorem KT.val {H : Hp} {kvs : List (List Key × V)} {xs : List (List Key × Addr × Value)} (r : KT H kvs xs) (k : List Key) : RelO (valV kvs k) ((atKey xs k).map (·.2)) := by
  induction r with
  | nil => exact True.intro
  | @cons p q ps qs h t ih =>
    obtain ⟨h1, _, h2⟩ := h
    by_cases e : p.1 = k
    · have e' : q.1 = k := h1.symm.trans e
      have b : atKey (q :: qs) k = some q.2 := by simp [atKey, List.find?_cons, e']
      rw [valV_pos e, b]; exact h2
    · have e' : ¬ q.1 = k := fun z => e (h1.trans z)
      have b : atKey (q :: qs) k = atKey qs k := by simp [atKey, List.find?_cons, e']
      rw [valV_neg e, b]; exact ih
theorem KT.repl {H : Hp} {kvs : List (List Key × V)} {xs : List (List Key × Addr × Value)} (r : KT H kvs xs) (k : List Key) {y : V} {u : Value} (ry : RelV y u) :
    KT H (kvs.map fun kv => if kv.1 = k then (kv.1, y) else kv) (xs.map (putAt k u)) := by
  induction r with
  | nil => exact .nil
  | @cons p q ps qs h t ih =>
    rw [List.map_cons, List.map_cons]
    refine .cons ?_ ih
    obtain ⟨h1, h2, h3⟩ := h
    unfold putAt
    by_cases e : p.1 = k
    · rw [if_pos e, if_pos (h1.symm.trans e)]; exact ⟨h1, h2, ry⟩
    · rw [if_neg e, if_neg (fun z => e (h1.trans z))]; exact ⟨h1, h2, h3⟩
theorem KT.put {H : Hp} {kvs : List (List Key × V)} {xs : List (List Key × Addr × Value)} (r : KT H kvs xs) (k : List Key) {b : Addr} {y : V} {u : Value} (hb : H b = some (.tup (k.map kV))) (ry : RelV y u) :
    KT H (putK kvs k y) (storedH xs k b u) := by
  have e : (kvs.any fun kv => decide (kv.1 = k)) = (atKey xs k).isSome := by
    rw [valV_any, (r.val k).isSome_eq, Option.isSome_map]
  unfold putK storedH
  rw [e]
  by_cases q : (atKey xs k).isSome = true
  · rw [if_pos q, if_pos q]; exact r.repl k ry
  · rw [if_neg q, if_neg q]; exact Paired.snoc r ⟨rfl, hb, ry⟩
theorem KT.keeps {H H' : Hp} {kvs : List (List Key × V)} {xs : List (List Key × Addr × Value)} (r : KT H kvs xs) (ht : ∀ b ys, H b = some (.tup ys) → H' b = some (.tup ys)) : KT H' kvs xs :=
  Paired.mapP r fun _ _ z => ⟨z.1, ht _ _ z.2.1, z.2.2⟩

section
variable {P : Program} {w : World} {H : Hp} {h : Heap} {a : Addr}
theorem rd_of {u : HO} (ok : HOk P w H h) (e : Rd H a u) : ObjOk P w H h a u := e.ok ok
theorem dk_rd {kvs : List (Key × V)} (ok : HOk P w H h) (e : Rd H a (.dK kvs)) : kvs.length ≤ sizeLine ∧ (a == sysModules) = false ∧ ∃ vs, KV kvs vs ∧ h.DictOf (mixKind P w) a vs :=
  show ObjOk P w H h a (.dK kvs) from rd_of ok e
theorem dk_of {kvs : List (Key × V)} (ok : HOk P w H h) (e : H a = some (.dK kvs)) : kvs.length ≤ sizeLine ∧ (a == sysModules) = false ∧ ∃ vs, KV kvs vs ∧ h.DictOf (mixKind P w) a vs := dk_rd ok (.inl e)
/-- a tracked tuple of ints and texts is a key -/
theorem key_of {ks : List Key} (ok : HOk P w H h) (e : H a = some (.tup (ks.map kV))) : (tupleKind (mixKind P w)).is h ks a := by
  obtain ⟨_, its, r, o, h1, h2, n, h3⟩ := (show ObjOk P w H h a (.tup (ks.map kV)) from ok a _ e)
  exact ⟨o, its.toArray, n, h1, h2, h3, by simpa using items_are r⟩
theorem dt_rd {kvs : List (List Key × V)} (ok : HOk P w H h) (e : Rd H a (.dT kvs)) : kvs.length ≤ sizeLine ∧ (a == sysModules) = false ∧
    ∃ xs, KT H kvs xs ∧ h.DictOfH (tupleKind (mixKind P w)) a xs := by
  obtain ⟨z, y, xs, r, o, es, ep, h1, h2, h3, h4, h5⟩ := (show ObjOk P w H h a (.dT kvs) from rd_of ok e)
  refine ⟨z, y, xs, r, o, es, ep, h1, h2, h3, h4, fun x hx => ?_, h5⟩
  have all : ∀ {l : List (List Key × V)} {m : List (List Key × Addr × Value)}, KT H l m → ∀ x ∈ m, (tupleKind (mixKind P w)).is h x.1 x.2.1 := by
    intro l m q
    induction q with
    | nil => intro x hx; exact nomatch hx
    | @cons p q ps qs hq t ih =>
      intro x hx
      rcases List.mem_cons.mp hx with e | hx
      · subst e
        exact key_of ok (by rw [← hq.1]; exact hq.2.1)
      · exact ih x hx
  exact all r x hx
theorem dt_of {kvs : List (List Key × V)} (ok : HOk P w H h) (e : H a = some (.dT kvs)) : kvs.length ≤ sizeLine ∧ (a == sysModules) = false ∧
    ∃ xs, KT H kvs xs ∧ h.DictOfH (tupleKind (mixKind P w)) a xs := dt_rd ok (.inl e)
end

/-- what the dict at a holds at the key y -/
def DGet (H : Hp) (a : Addr) (y : V) (r : Option V) : Prop :=
  (∃ kvs k, Rd H a (.dK kvs) ∧ y = kV k ∧ r = valV kvs k) ∨ ∃ kvs k b, Rd H a (.dT kvs) ∧ y = .ref b ∧ H b = some (.tup (k.map kV)) ∧ r = valV kvs k
/-- the heap behind a[y] = v -/
def DPut (H : Hp) (a : Addr) (y v : V) (H' : Hp) : Prop :=
  (∃ kvs k, H a = some (.dK kvs) ∧ y = kV k ∧ kvs.length < sizeLine ∧ H' = upd H a (.dK (putK kvs k v))) ∨
  ∃ kvs k b, H a = some (.dT kvs) ∧ y = .ref b ∧ H b = some (.tup (k.map kV)) ∧ kvs.length < sizeLine ∧ H' = upd H a (.dT (putK kvs k v))
theorem DGet.k {H : Hp} {a : Addr} {kvs : List (Key × V)} {k : Key} (e : H a = some (.dK kvs)) : DGet H a (kV k) (valV kvs k) := .inl ⟨kvs, k, .inl e, rfl, rfl⟩
theorem DPut.k {H : Hp} {a : Addr} {kvs : List (Key × V)} {k : Key} {v : V} (e : H a = some (.dK kvs)) (hl : kvs.length < sizeLine) : DPut H a (kV k) v (upd H a (.dK (putK kvs k v))) := .inl ⟨kvs, k, e, rfl, hl, rfl⟩


section
variable {X : Cx} {pins : List (Addr × Obj)} {σ : St} {H : Hp} {s : Shared} {a : Addr} {y v : V} {u r : Value} {o : Option V} {A : Around} {E : Value → Shared → Prop}

theorem Inv.big (I : Inv X pins σ H s) : sysModules < s.heap.objs.size := by
  have h : mainGlobals < s.heap.objs.size := (I.mod.glob.keeps I.bk).lt
  exact Nat.lt_trans (by decide) h

/-- d[y], there -/
theorem d_getItem {Q : Value → Shared → Prop} (hu : A.units + 1 < cLine) (I : Inv X pins σ H s) (g : DGet H a y (some v)) (ry : RelV y u) (h : ∀ w' s', Inv X pins σ H s' → RelV v w' → Q w' s') :
    wpAny (model X.prog X.w) A (getItem (.ref a) u) Q E s := by
  rcases g with ⟨kvs, k, e, ey, l⟩ | ⟨kvs, k, b, e, ey, eb, l⟩
  · subst ey
    obtain ⟨z, hd, vs, rel, dd⟩ := dk_rd I.hok e
    obtain ⟨w', hw, rw'⟩ := RelO.some_of (v := v) (o := valueAt vs k) (by rw [l]; exact rel.val k)
    exact wpAny_getItem_of (kV_is ry) dd.mapOf hw (h w' _ (I.tok _) rw')
  · subst ey
    cases (show u = Value.ref b from ry)
    obtain ⟨z, hd, xs, rel, dd⟩ := dt_rd I.hok e
    obtain ⟨w', hw, rw'⟩ := RelO.some_of (v := v) (o := (atKey xs k).map (·.2)) (by rw [l]; exact rel.val k)
    obtain ⟨p, hp, hp2⟩ := Option.map_eq_some_iff.mp hw
    refine wpAny_getItem_heap (tupleKind_room_in1 hu) (key_of I.hok eb) dd hp ?_
    rw [hp2]
    exact h w' _ (I.tok _) rw'
/-- y in d -/
theorem d_in {Q : Value → Shared → Prop} (hu : A.units + 1 < cLine) (I : Inv X pins σ H s) (g : DGet H a y o) (ry : RelV y u) (h : ∀ s', Inv X pins σ H s' → Q (.bool o.isSome) s') :
    wpAny (model X.prog X.w) A (compareOp .In u (.ref a)) Q E s := by
  rcases g with ⟨kvs, k, e, ey, l⟩ | ⟨kvs, k, b, e, ey, eb, l⟩
  · subst ey
    obtain ⟨z, hd, vs, rel, dd⟩ := dk_rd I.hok e
    refine wpAny_in_of (kV_is ry) hd dd.mapOf ?_
    rw [← (rel.val k).isSome_eq, ← l]
    exact h _ (I.tok _)
  · subst ey
    cases (show u = Value.ref b from ry)
    obtain ⟨z, hd, xs, rel, dd⟩ := dt_rd I.hok e
    refine wpAny_in_heap (tupleKind_room_in1 hu) (key_of I.hok eb) hd dd ?_
    have q := (rel.val k).isSome_eq
    rw [Option.isSome_map] at q
    rw [← q, ← l]
    exact h _ (I.tok _)
/-- a dict's object is replaced -/
theorem d_write {h' : Heap} {t' : Nat} {ob : HO} (I : Inv X pins σ H s) (mu : Mut (H a)) (hs : Heap.SameBut a s.heap h') (he : ∃ q, h'.get? a = some q) (new : ObjOk X.prog X.w (upd H a ob) h' a ob) :
    Inv X pins σ (upd H a ob) { s with heap := h', toks := t' } :=
  I.write (x := a) (e := a) mu (.inl rfl) (fun b q hb z => (hs.2 b hb).trans z) he new
theorem dk_new {P : Program} {w : World} {H' : Hp} {h' : Heap} {kvs : List (Key × V)} {vs : List (Key × Value)} (z : kvs.length ≤ sizeLine) (hd : (a == sysModules) = false) (rel : KV kvs vs) (dd : h'.DictOf (mixKind P w) a vs) :
    ObjOk P w H' h' a (.dK kvs) := ⟨z, hd, vs, rel, dd⟩
/-- d[y] = v -/
theorem d_setItem {H' : Hp} {Q : Unit → Shared → Prop} (hu : A.units + 1 < cLine) (I : Inv X pins σ H s) (g : DPut H a y v H') (ry : RelV y u) (rv : RelV v r) (h : ∀ s', Inv X pins σ H' s' → Q () s') :
    wpAny (model X.prog X.w) A (setItem (.ref a) u r) Q E s := by
  rcases g with ⟨kvs, k, e, ey, l, eH⟩ | ⟨kvs, k, b, e, ey, eb, l, eH⟩
  · subst ey eH
    obtain ⟨z, hd, vs, rel, dd⟩ := dk_of I.hok e
    have hz : vs.length ≤ sizeLine := by rw [← rel.length]; exact z
    have hl : (putK kvs k v).length ≤ sizeLine := by have := length_putK kvs k v; omega
    refine wpAny_setItem_pairs (hsz := hz) (kV_is ry) dd fun h' dd' hs => h _ ?_
    have he : ∃ q, h'.get? a = some q := let ⟨q, _, _, hq, _⟩ := dd'; ⟨q, hq⟩
    exact d_write I (by rw [e]; exact True.intro) hs he (dk_new hl hd (rel.put k rv) dd')
  · subst ey eH
    cases (show u = Value.ref b from ry)
    obtain ⟨z, hd, xs, rel, dd⟩ := dt_of I.hok e
    have hz : xs.length ≤ sizeLine := by rw [← Paired.length rel]; exact z
    have hl : (putK kvs k v).length ≤ sizeLine := by have := length_putK kvs k v; omega
    refine wpAny_setItem_heap (hsz := hz) (tupleKind_room_in1 hu) (key_of I.hok eb) dd fun h' dd' hs => h _ ?_
    obtain ⟨q, es, ep, hq, h2, h3, h4, _, h5⟩ := dd'
    refine d_write I (by rw [e]; exact True.intro) hs ⟨q, hq⟩ ⟨hl, hd, _, (rel.put k eb rv).keeps fun c ys ec => ?_, q, es, ep, hq, h2, h3, h4, h5⟩
    rw [upd_ne (ne_of ec e (fun z => nomatch z))]
    exact ec
end

section
variable {X : Cx} {pins : List (Addr × Obj)} {σ : St} {H : Hp} {s : Shared} {a : Addr} {kvs : List (Key × V)} {k : Key} {u : Value} {A : Around} {E : Value → Shared → Prop}
end


/-! ### readings and rules -/
/-- the element of a subscription, not a slice -/
def NoSl (i : Expr) : Prop := ∀ ov iv, subscripted i false ov iv = operate [ov, iv] (getItem ov iv)
theorem subD_of {prog : Program} {w : World} {A : Around} {E : Value → Shared → Prop} {s : Shared} {env : Env} {value slice : Expr} {pos : Pos} {T id : String} {Q : Value → Shared → Prop}
    (hl : typeLookup (.type T) "__getitem__" = pure (some (.builtin id))) (hs : NoSl slice)
    (h : wpAny (model prog w) A (eval value env) (fun o s₁ => wpAny (model prog w) A (eval slice env) (fun i s₂ => s₂.TypeIs o T ∧ wpAny (model prog w) A (getItem o i) Q E s₂) E s₁) E s) :
    wpAny (model prog w) A (eval (.Subscript value slice pos) env) Q E s := by
  refine Subscript_ (wpAny_mono h (fun o s₁ h₁ => wpAny_mono h₁ (fun i s₂ h₂ => ?_) fun _ _ x => x) fun _ _ x => x)
  obtain ⟨hT, h₂⟩ := h₂
  unfold subscriptTail
  refine wpAny_bind ?_
  rw [getitemInPython_of_ne hT.not_modules]
  refine wpAny_bind (wpAny_specialOf hT hl ?_)
  have fin : wpAny (model prog w) A (subscripted slice false o i) (fun r s₃ => wpAny (model prog w) A (letTemporaryGo value o r >>= fun _ => pure r) Q E s₃) E s₂ := by
    rw [hs o i]
    exact wpAny_operating (wpAny_mono h₂ (fun r s₃ h₃ => wpAny_bind (wpAny_letTemporaryGo (wpAny_pure h₃))) fun _ _ x => x)
  first
    | exact wpAny_pure (wpAny_bind fin)
    | exact wpAny_bind (wpAny_pure (wpAny_bind fin))
    | exact wpAny_bind fin

theorem dict_typeIs {X : Cx} {pins : List (Addr × Obj)} {σ : St} {H : Hp} {s : Shared} {a : Addr} {y : V} {o : Option V} (I : Inv X pins σ H s) (g : DGet H a y o) : s.TypeIs (.ref a) "dict" := by
  rcases g with ⟨kvs, k, e, _, _⟩ | ⟨kvs, k, b, e, _, _, _⟩
  · obtain ⟨_, _, vs, _, dd⟩ := dk_rd I.hok e
    exact dd.typeIs
  · obtain ⟨_, _, xs, _, dd⟩ := dt_rd I.hok e
    exact dd.typeIs

/-- d[y] -/
def tDGet (td ty : TE) : TE := fun σ H Q => td σ H fun x H1 => ty σ H1 fun y H2 => ∃ a v, x = .ref a ∧ DGet H2 a y (some v) ∧ Q v H2
/-- d[y] = v -/
def sDPut (td ty tv : TE) : TS := fun D σ H => tv σ H fun v H1 => td σ H1 fun x H2 => ty σ H2 fun y H3 => ∃ a H4, x = .ref a ∧ DPut H3 a y v H4 ∧ D.nx σ H4

section
variable {X : Cx} {o i e value : Expr} {pos pos' tpos : Pos} {td ty tv : TE}
theorem pe_dget (hu : X.A.units + 1 < cLine) (ho : PE X o td) (hi : PE X i ty) (hs : NoSl i) : PE X (.Subscript o i pos) (tDGet td ty) := by
  intro pins s σ H Q I h
  refine subD_of PySem.F.slot_dict_getitem.lookup hs (thn (ho pins s σ H _ I h) fun u s1 ⟨x, H1, I1, rx, q1⟩ => thn (hi pins s1 σ H1 _ I1 q1) fun iv s2 ⟨y, H2, I2, ry, a, v, ex, g, q2⟩ => ?_)
  subst ex
  obtain rfl : u = Value.ref a := rx
  exact ⟨dict_typeIs I2 g, d_getItem hu I2 g ry fun w' s3 I3 rw' => ⟨v, H2, I3, rw', q2⟩⟩
theorem ps_dput (hu : X.A.units + 1 < cLine) (ho : PE X o td) (hi : PE X i ty) (hv : PE X value tv) (hs : swapsWith value (some (.Subscript o i pos')) pos.line X.env = pure false) :
    PS X (.Assign [.Subscript o i pos'] value pos) (sDPut td ty tv) := by
  intro pins s σ H D I h
  refine wpAny_Assign_Subscript (thn (hv pins s σ H _ I h) fun r s1 ⟨v, H1, I1, rv, q1⟩ => thn (ho pins s1 σ H1 _ I1 q1) fun u s2 ⟨x, H2, I2, rx, q2⟩ => thn (hi pins s2 σ H2 _ I2 q2) fun iv s3 ⟨y, H3, I3, ry, a, H4, ex, g, q3⟩ => ?_) hs
  subst ex
  obtain rfl : u = Value.ref a := rx
  exact d_setItem hu I3 g ry rv fun s4 I4 => ⟨σ, H4, I4, q3⟩
end


/-! ### displays -/
theorem dk_empty {P : Program} {w : World} {H : Hp} (h : Heap) (hb : sysModules < h.objs.size) : ObjOk P w H (h.push { cls := .type "dict", data := .dict #[] }) h.objs.size (.dK []) :=
  ⟨Nat.zero_le _, beq_eq_false_iff_ne.mpr (Ne.symm (Nat.ne_of_lt hb)), [], .nil, Heap.DictOf.new h⟩
/-- {}, to be a dict of the kind that is wanted -/
def tDNewK : TE := fun _ H Q => ∀ p, H p = none → Q (.ref p) (upd H p (.dK []))
section
variable {X : Cx} {pos : Pos}
theorem pe_dnewK : PE X (.Dict [] [] pos) tDNewK := fun pins s σ H Q I h =>
  wpAny_Dict_empty ⟨.ref s.heap.objs.size, _, I.laid (a := s.heap.objs.size) (o := .dK []) (t' := s.toks) (fun _ _ q => Heap.get?_push_of_some _ q) (Nat.le_refl _) (dk_empty s.heap I.big), rfl, h _ (I.hok.fresh (Nat.le_refl _))⟩
end

/-- the pairs of a display, from the left -/
def tPairs : List (TE × TE) → St → Hp → (List (V × V) → Hp → Prop) → Prop
  | [], _, H, Q => Q [] H
  | (tk, tv) :: r, σ, H, Q => tk σ H fun x H1 => tv σ H1 fun y H2 => tPairs r σ H2 fun ps H3 => Q ((x, y) :: ps) H3
abbrev VV : List (V × V) → List (Value × Value) → Prop := Paired fun p q => RelV p.1 q.1 ∧ RelV p.2 q.2
def PPs (X : Cx) (pos : Pos) (keys : List (Option Expr)) (values : List Expr) (trs : List (TE × TE)) : Prop :=
  ∀ (pins : List (Addr × Obj)) (s : Shared) (σ : St) (H : Hp) (Q : List (V × V) → Hp → Prop), Inv X pins σ H s → tPairs trs σ H Q →
    wpAny (model X.prog X.w) X.A (evalPairs (pairTrees keys values X.env pos)) (fun vs s' => ∃ ps H', Inv X pins σ H' s' ∧ VV ps vs ∧ Q ps H') X.xe s
theorem pps_nil {X : Cx} {pos : Pos} : PPs X pos [] [] [] := fun pins s σ H Q I h => pairTrees_nil_walk ⟨[], H, I, .nil, h⟩
theorem pps_cons {X : Cx} {pos : Pos} {k v : Expr} {ks : List (Option Expr)} {vs : List Expr} {tk tv : TE} {trs : List (TE × TE)} (hk : PE X k tk) (hv : PE X v tv) (hr : PPs X pos ks vs trs) :
    PPs X pos (some k :: ks) (v :: vs) ((tk, tv) :: trs) := fun pins s σ H Q I h =>
  pairTrees_cons_walk (thn (hk pins s σ H _ I h) fun u s1 ⟨x, H1, I1, rx, q1⟩ => thn (hv pins s1 σ H1 _ I1 q1) fun w2 s2 ⟨y, H2, I2, ry, q2⟩ =>
    thn (hr pins s2 σ H2 _ I2 q2) fun ws s3 ⟨ps, H3, I3, rel, q3⟩ => ⟨(x, y) :: ps, H3, I3, .cons ⟨rx, ry⟩ rel, q3⟩)

def mergeK (kvs more : List (Key × V)) : List (Key × V) := more.foldl (fun acc kv => putK acc kv.1 kv.2) kvs
theorem KV.merge : ∀ {more : List (Key × V)} {rs : List (Key × Value)} {kvs : List (Key × V)} {vs : List (Key × Value)}, KV more rs → KV kvs vs → KV (mergeK kvs more) (merged vs rs) := by
  intro more rs kvs vs r
  unfold KV at r
  induction r generalizing kvs vs with
  | nil => intro q; exact q
  | @cons p q ps qs h t ih =>
    intro r0
    have e : KV (putK kvs p.1 p.2) (stored vs q.1 q.2) := by
      have := r0.put p.1 h.2
      rw [← h.1]; exact this
    exact ih e
theorem length_mergeK : ∀ (more kvs : List (Key × V)), (mergeK kvs more).length ≤ kvs.length + more.length
  | [], kvs => by show kvs.length ≤ kvs.length + 0; omega
  | p :: r, kvs => by
    have h1 := length_mergeK r (putK kvs p.1 p.2)
    have h2 := length_putK kvs p.1 p.2
    show (mergeK (putK kvs p.1 p.2) r).length ≤ _
    rw [List.length_cons]; omega
theorem carries_of {P : Program} {w : World} : ∀ {kvs : List (Key × V)} {ws : List (Value × Value)}, VV (kvs.map fun kv => (kV kv.1, kv.2)) ws → ∃ rs, Carries (mixKind P w) ws rs ∧ KV kvs rs
  | [], _, r => by rw [List.map_nil] at r; cases r; exact ⟨[], True.intro, .nil⟩
  | p :: kvs, _, r => by
    rw [List.map_cons] at r
    cases r with
    | @cons a b as bs h t =>
      obtain ⟨rs, c, q⟩ := carries_of (P := P) (w := w) t
      obtain ⟨b1, b2⟩ := b
      exact ⟨(p.1, b2) :: rs, ⟨kV_is h.1, rfl, c⟩, .cons ⟨rfl, h.2⟩ q⟩
/-- {k: v, ..} with keys ints and texts; the new dict stands empty while the pairs are made -/
def tDisp (trs : List (TE × TE)) : TE := fun σ H Q => ∀ p, H p = none → tPairs trs σ (upd H p (.dK [])) fun ps H2 => H2 p = some (.dK []) ∧ ∃ kvs : List (Key × V), ps = kvs.map (fun kv => (kV kv.1, kv.2)) ∧ kvs.length ≤ 15 ∧ Q (.ref p) (upd H2 p (.dK (mergeK [] kvs)))
theorem pe_disp {X : Cx} {pos : Pos} {keys : List (Option Expr)} {values : List Expr} {trs : List (TE × TE)} (h : PPs X pos keys values trs) (hall : keys.all (·.isSome) = true) (hl : keys.length = values.length) (h0 : keys ≠ [])
    (h15 : keys.length ≤ 15) : PE X (.Dict keys values pos) (tDisp trs) := by
  intro pins s σ H Q I q
  have hn := I.hok.fresh (Nat.le_refl s.heap.objs.size)
  have I1 := I.laid (a := s.heap.objs.size) (o := .dK []) (h' := s.heap.push { cls := .type "dict", data := .dict #[] }) (t' := s.toks) (fun _ _ q => Heap.get?_push_of_some _ q) (Nat.le_refl _) (dk_empty s.heap I.big)
  refine wpAny_Dict_walk (knd := mixKind X.prog X.w) hall hl h0 h15 (thn (h pins _ σ _ _ I1 (q _ hn)) fun ws s2 ⟨ps, H2, I2, rel, e, kvs, ep, lk, q2⟩ => ?_)
  subst ep
  obtain ⟨rs, c, rk⟩ := carries_of (P := X.prog) (w := X.w) rel
  obtain ⟨z, hd, vs0, r0, dd⟩ := dk_of I2.hok e
  cases r0
  refine ⟨rs, c, dd, fun h' dd' hs => ⟨.ref s.heap.objs.size, _, ?_, rfl, q2⟩⟩
  have hz : (mergeK [] kvs).length ≤ sizeLine := by
    have h1 := length_mergeK kvs []
    rw [List.length_nil] at h1
    rw [sizeLine_eq]; omega
  have he : ∃ q, h'.get? s.heap.objs.size = some q := let ⟨q, _, _, hq, _⟩ := dd'; ⟨q, hq⟩
  exact d_write I2 (by rw [e]; exact True.intro) hs he (dk_new hz hd (rk.merge .nil) dd')


/-! ### methods -/
structure M2 (X : Cx) (o : Expr) (m : Str) (apos : Pos) (e f : Expr) (cpos : Pos) : Prop where
  base : attributeBase o m X.env (eval o X.env) = eval o X.env
  few : ((backTo cpos (starEach [e, f] X.env)).all (fun x => !x.1) && (backToKw cpos (keywordEach [] X.env)).all (fun x => x.1.isSome)
    && decide (([e, f] : List Expr).length + ([] : List Keyword).length + (if ([] : List Keyword).isEmpty then 0 else 1) < 30)) = true
  line : (apos.endLine == cpos.line) = true
  trees : backTo cpos (starEach [e, f] X.env) = [(false, eval e X.env), (false, eval f X.env)]

/-- a is a dict, whatever its keys -/
def IsD (H : Hp) (a : Addr) : Prop := (∃ kvs, Rd H a (.dK kvs)) ∨ ∃ kvs, Rd H a (.dT kvs)
theorem isD_at {X : Cx} {pins : List (Addr × Obj)} {σ : St} {H : Hp} {s : Shared} {a : Addr} (I : Inv X pins σ H s) (d : IsD H a) :
    s.TypeIs (.ref a) "dict" ∧ (∀ b, Value.ref a = .ref b → ∃ ob, s.heap.get? b = some ob ∧ ob.dict = none) ∧ (a == sysModules) = false := by
  rcases d with ⟨kvs, e⟩ | ⟨kvs, e⟩
  · obtain ⟨_, hd, vs, _, dd⟩ := dk_rd I.hok e
    refine ⟨dd.typeIs, fun b q => ?_, hd⟩
    cases q
    obtain ⟨ob, _, _, h1, h2, _⟩ := dd
    exact ⟨ob, h1, h2.2.1⟩
  · obtain ⟨_, hd, xs, _, dd⟩ := dt_rd I.hok e
    refine ⟨dd.typeIs, fun b q => ?_, hd⟩
    cases q
    obtain ⟨ob, _, _, h1, h2, _⟩ := dd
    exact ⟨ob, h1, h2.2.1⟩

section
variable {X : Cx} {pins : List (Addr × Obj)} {σ : St} {H : Hp} {s : Shared} {a : Addr} {y d : V} {u r : Value} {o : Option V} {A : Around} {E : Value → Shared → Prop}
/-- d.get(y, x) -/
theorem d_get2 {Q : Value → Shared → Prop} (hu : A.units + 1 < cLine) (I : Inv X pins σ H s) (g : DGet H a y o) (ry : RelV y u) (rd : RelV d r) (h : ∀ w' s', Inv X pins σ H s' → RelV (o.getD d) w' → Q w' s') :
    wpAny (model X.prog X.w) A (call (.builtin "dict.get") [.ref a, u, r]) Q E s := by
  rcases g with ⟨kvs, k, e, ey, l⟩ | ⟨kvs, k, b, e, ey, eb, l⟩
  · subst ey
    obtain ⟨z, hd, vs, rel, dd⟩ := dk_rd I.hok e
    refine call_meetsIn PySem.F.slot_dict_get dd.typeIs PySem.F.entry_dict_get (PySem.F.args_dict_get_3 _ _ _) (meets_dict_get_default (mixKind X.prog X.w) a (kV_is ry) hd r) ⟨_, dd.mapOf, h _ _ (I.tok _) ?_⟩
    rw [l]
    exact (rel.val k).getD rd
  · subst ey
    cases (show u = Value.ref b from ry)
    obtain ⟨z, hd, xs, rel, dd⟩ := dt_rd I.hok e
    refine call_meetsIn PySem.F.slot_dict_get dd.typeIs PySem.F.entry_dict_get (PySem.F.args_dict_get_3 _ _ _) (meetsH_dict_get_default (tupleKind (mixKind X.prog X.w)) a b hd r) ⟨tupleKind_room_in1 hu, k, xs, key_of I.hok eb, dd, h _ _ (I.tok _) ?_⟩
    rw [l]
    exact (rel.val k).getD rd
end

def tDGet2 (td ty tx : TE) : TE := fun σ H Q => td σ H fun x H1 => ∃ a, x = .ref a ∧ IsD H1 a ∧ ty σ H1 fun y H2 => tx σ H2 fun z H3 => ∃ o, DGet H3 a y o ∧ Q (o.getD z) H3
section
variable {X : Cx} {o e f : Expr} {apos cpos : Pos} {td ty tx : TE}
theorem pe_dget2 (hu : X.A.units + 1 < cLine) (ho : PE X o td) (he : PE X e ty) (hf : PE X f tx) (m : M2 X o "get" apos e f cpos) : PE X (.Call (.Attribute o "get" apos) [e, f] [] cpos) (tDGet2 td ty tx) := by
  intro pins s σ H Q I h
  refine wpAny_Call_method m.base m.few m.line PySem.F.plainAttrs_dict PySem.F.slot_dict_get PySem.F.type_dict_get (thn (ho pins s σ H _ I h) fun u s1 ⟨x, H1, I1, rx, a, ex, d, q1⟩ => ?_)
  subst ex
  obtain rfl : u = Value.ref a := rx
  obtain ⟨t1, t2, _⟩ := isD_at I1 d
  refine ⟨t1, t2, ?_⟩
  rw [m.trees]
  refine Calls.callWith_builtin rfl (Calls.evalArgs_plain (Calls.spliced_cons (thn (he pins s1 σ H1 _ I1 q1) fun iv s2 ⟨y, H2, I2, ry, q2⟩ =>
    Calls.spliced_cons (thn (hf pins s2 σ H2 _ I2 q2) fun fv s3 ⟨z, H3, I3, rz, ov, g, q3⟩ => Calls.spliced_nil ?_))))
  exact d_get2 hu I3 g ry rz fun w' s4 I4 rw' => ⟨_, H3, I4, rw', q3⟩
end

/-! ### dict(d): a copy -/
section
variable {X : Cx} {pins : List (Addr × Obj)} {σ : St} {H : Hp} {s : Shared} {a : Addr} {kvs : List (Key × V)} {A : Around} {E : Value → Shared → Prop}
end


section
variable {X : Cx} {pins : List (Addr × Obj)} {σ : St} {H : Hp} {s : Shared} {a : Addr} {y : V} {u : Value} {A : Around} {E : Value → Shared → Prop}
end
end L2

namespace Att
open PySem PySem.W PySem.Calls PyProof.Rows

/-! ### the script -/
theorem ints_of_wellAll {P : Params} {h : Heap} : ∀ (ns : List Int) (vs : List Value), WellAll P h vs (ns.map WData.int) → IntsAre vs ns := by
  intro ns
  induction ns with
  | nil =>
    intro vs w
    rw [List.map_nil] at w
    cases w
    exact .nil
  | cons n ns ih =>
    intro vs w
    rw [List.map_cons] at w
    cases w with
    | cons a b =>
      cases a
      exact .cons _ _ (ih _ b)

theorem script_of {l : OpenLaw} {n : Nat} (hn : l.most = some n) {P : Params} {h : Heap} {args : List WData} {vals : List Value}
    (hpre : l.row.toRowW.claim.pre args = true) (hwl : WellAll P h vals args) :
    ∃ a vs ns, vals = [Value.ref a] ∧ args = [WData.list (ns.map WData.int)] ∧ h.get? a = some { cls := .type "list", data := .seq vs.toArray } ∧ IntsAre vs ns ∧ ns.length ≤ n := by
  have hsh : WShape.hasAll [] args [.list .int] = true := (pre_splitW hpre).1
  have hc : l.pre.holds [] { args := args } = true := (pre_splitW hpre).2
  obtain ⟨d, r, rfl, h1, h2⟩ := hasAllW_cons hsh
  obtain rfl := hasAllW_nil h2
  obtain ⟨xs, rfl, h3⟩ := hasW_list h1
  obtain ⟨ns, rfl⟩ := items_int h3
  have hlen : ns.length ≤ n := by
    unfold OpenLaw.pre at hc
    have h4 : (WTm.not (.lt (.lit (.int (n : Int))) (.len (.arg 0)))).holds [] { args := [.list (ns.map .int)] } = true := by
      have h4 := (holds_andW hc).1
      rw [hn] at h4
      exact h4
    have h5 := condW_of h4 (w_not (w_lt w_lit (w_len_list (w_arg rfl))))
    rw [List.length_map] at h5
    refine Nat.le_of_not_lt fun q => ?_
    have q' : (n : Int) < ((ns.length : Nat) : Int) := by omega
    first
      | (rw [decide_eq_true q'] at h5; exact absurd h5 (by decide))
      | (simp at h5; omega)
  cases hwl with
  | cons w1 w2 =>
    cases w2
    cases w1 with
    | list ho hall => exact ⟨_, _, ns, rfl, rfl, ho, ints_of_wellAll ns _ hall, hlen⟩

theorem post_true (l : OpenLaw) (args : List WData) : l.row.toRowW.claim.post args (.bool true) args = true :=
  postW_of (r := l.row.toRowW) (X := (true == true))
    (show WShape.has [] (.bool true) .bool = true by first | rfl | decide | simp [WShape.has, WShape.arms, WShape.armsAll])
    (show (WTm.eq .res (.lit (.bool true))).value [] { args := args, res := some (.bool true), after := args } = some (.bool (true == true)) from w_eq_bool (w_res rfl) w_lit) rfl

/-! ### the attachment: holds_open's last premise (the goal 'hc' behind k_head) from a wpAny of the law's body -/

/-- the same from a codeAny of the CALL (for a layer whose function contracts speak of calls) -/
theorem attach_call {l : OpenLaw} {n : Nat} {q : Program} {loose : List Str} {XP : (Str → Option Value) → Heap → Prop} {YP : World → Heap → Prop} {d : DefRec}
    (hn : l.most = some n) (hdf : d.params.defaults = [])
    (call : ∀ (w : World) (s₀ s₁ : Shared) (mg mb : Str → Option Value) (fa : Addr) (o : Obj) (pm cd doc : Value) (a : Addr) (vs : List Value) (ns : List Int),
      Ground q loose [] XP w s₀ mg mb s₁.heap → YP w s₁.heap →
      s₁.heap.get? fa = some o → o.data = .func (docDef d.name d.params d.body d.scope pm cd doc) → s₁.heap.CodeRec cd d.name → mg d.name = some (.ref fa) →
      s₁.heap.get? a = some { cls := .type "list", data := .seq vs.toArray } → IntsAre vs ns → ns.length ≤ n → s₁.gens = #[] →
      codeAny (model l.prog w) callerA (.call (.ref fa) ⟨[.ref a], []⟩) (fun r s' => r = .ok (.ret (.bool true)) ∧ OldK s₁.heap s'.heap ∧ s'.os = s₁.os ∧ AllBare s'.gens) s₁) :
    WalkO q loose XP YP l.row.toRowW d [] (fun f vs => PySem.call f vs) := by
  intro w s₀ s₁ mg mb G Y fa o pm cd doc dV kV ho hd hcd hD hmg hg args vals as hpre hlay hrd hwl hlo
  obtain rfl : dV = .none := Dflts.none hD hdf
  obtain rfl : kV = .none := Dflts.noKw hD
  obtain ⟨a, vs, ns, rfl, rfl, hobj, hints, hlen⟩ := script_of hn hpre hwl
  refine enter_call (codeAny_mono (call w s₀ s₁ mg mb fa o pm cd doc a vs ns G Y ho (fd_plain hd) hcd hmg hobj hints hlen hg) fun r s' hq => ?_)
  obtain ⟨rfl, h2, h3, h4⟩ := hq
  exact ⟨.inl ⟨.bool true, .bool true, [], rfl, fun _ => rfl, .bool true, post_true l _, fun _ => ⟨List.Pairwise.nil, fun _ hm => (nomatch hm)⟩⟩, h2, h3, h4⟩


/-! ### rules over ANY heap (no ledger) from facts about the written part K: the library's own take a ledger (News) for what they write -/
section
variable {prog : Program} {w : World} {A : Around} {E : Value → Shared → Prop} {s : Shared} {K : Frag}





/-! the whole heap as the ledger: makes every rule that writes through a ledger a rule over any heap -/

end
end Att

namespace L2
open PySem PySem.Spec PyProof.Rows

theorem vals_ints : ∀ {vs : List Value} {ns : List Int}, IntsAre vs ns → Vals (ns.map V.int) vs
  | _, _, .nil => .nil
  | _, _, .cons n t h => .cons ⟨t, rfl⟩ (vals_ints h)

/-- nothing is tracked but the script, known to the object (or it is an object of the module) -/
def Only (H : Hp) : Prop := ∀ b, H b = none ∨ ∃ o xs, H b = some (.frz o (.lst xs))

/-- THE HEAD: the law's promise, at the heap behind the top. F, the promise of the law's def, may use that base is part of the heap (so K.In base, base.Ns mainGlobals mg stand in Mod) -/
theorem law_call {P : Program} {w : World} {K : PySem.W.Frag} {mg mb : Str → Option Value} {CX : CXT} {k : Nat} {fa a : Addr} {fd : FuncData} {x : Str} {sp : Sp} {s₁ : Shared} {vs : List Value} {ns : List Int}
    (KX : K.In s₁.heap) (hns : s₁.heap.Ns mainGlobals mg) (hb : s₁.heap.Ns builtinsNs mb) (hbb : ∀ x : Str, x ≠ "__name__" → mb x = bootBuiltins x) (hlim : s₁.heap.NoLimit) (hg : s₁.gens = #[])
    (ha : s₁.heap.get? a = some { cls := .type "list", data := .seq vs.toArray }) (hi : IntsAre vs ns) (hl : ns.length ≤ sizeLine) (hr : Room k callerA)
    (F : ∀ base : Heap, K.In base → base.Ns mainGlobals mg → FnOk P w K mg base CX k fa fd [x] sp) (hbind : ∀ (s : Shared) (u : Value), BindsTo s fd ⟨[u], []⟩ [(x, u)])
    (hsp : ∀ H : Hp, Only H → SqL K H a (ns.map V.int) → sp [.ref a] H (fun v _ => v = .bl true) fun _ _ _ => False)
    (hCX : ∀ H e s', CX [] H s₁ (fun _ _ _ => False) e s' → False) :
    codeAny (model P w) callerA (.call (.ref fa) ⟨[.ref a], []⟩) (fun r s' => r = .ok (.ret (.bool true)) ∧ OldK s₁.heap s'.heap ∧ s'.os = s₁.os ∧ AllBare s'.gens) s₁ := by
  have rv := vals_ints hi
  have lenV := hi.length
  -- from an abstract heap in which nothing but the script may be tracked
  have core : ∀ H : Hp, Only H → SqL K H a (ns.map V.int) → HOk P w H s₁.heap → (∀ b, H b ≠ none → b = a) → (H a ≠ none → K.lookup a = none) →
      codeAny (model P w) callerA (.call (.ref fa) ⟨[.ref a], []⟩) (fun r s' => r = .ok (.ret (.bool true)) ∧ OldK s₁.heap s'.heap ∧ s'.os = s₁.os ∧ AllBare s'.gens) s₁ := by
    intro H hO hS hok hA hK
    have base_of : ∀ {b : Addr} {o : Obj}, s₁.heap.get? b = some o → H b = none → (hidT s₁.heap H).get? b = some o := fun e n => hidT_get e n
    have noA : ∀ {b : Addr} {o : Obj} {es : Array DictEntry} {ep : Nat}, s₁.heap.get? b = some o → o.data = .dict es ep → H b = none := fun {b o es ep} e d => by
      cases q : H b with
      | none => rfl
      | some u =>
        have e' : b = a := hA b (by rw [q]; simp)
        subst e'
        rw [ha] at e; cases e
        have d' : Data.seq vs.toArray _ = Data.dict es ep := d
        cases d'
    have nsK : ∀ {b : Addr} {m : Str → Option Value}, s₁.heap.Ns b m → (hidT s₁.heap H).Ns b m := fun {b m} ⟨o, es, ep, e, d, r⟩ => ⟨o, es, ep, base_of e (noA e d), d, r⟩
    have hKb : K.In (hidT s₁.heap H) := fun b o e => base_of (KX b o e) (by
      cases q : H b with
      | none => rfl
      | some u =>
        have e' : b = a := hA b (by rw [q]; simp)
        subst e'
        rw [hK (by rw [q]; simp)] at e; cases e)
    have hM : Mod K mg (hidT s₁.heap H) := ⟨hKb, nsK hns, ⟨mb, nsK hb, hbb⟩, let ⟨mc, h1, h2⟩ := hlim; ⟨mc, nsK h1, h2⟩⟩
    have e0 : Env0 P w K mg (hidT s₁.heap H) callerA [] s₁ H := ⟨rfl, hM, fun b o e => of_hidT e, Nat.le_of_eq (hidT_size _ _), trivial, fun b hb => absurd (show b ∈ ([] : List Addr) from hb) (by simp), hok, .of_eq hg⟩
    refine codeAny_mono ((F _ hKb (nsK hns)).run callerA [] s₁ H ⟨[.ref a], []⟩ [.ref a] [.ref a] _ _ hr e0 (hbind s₁ (.ref a)) (.cons rfl .nil) (hsp H hO hS)) fun r s' h => ?_
    cases r with
    | error e => exact (hCX H e s' h).elim
    | ok fl =>
      cases fl with
      | next => exact False.elim h
      | brk => exact False.elim h
      | cont => exact False.elim h
      | ret u =>
        obtain ⟨v, H', os, bare, un, hok', r', q⟩ := h
        have q' : v = .bl true := q
        subst q'
        obtain rfl : u = Value.bool true := r'
        refine ⟨rfl, OldK.of_keep fun b o e => ?_, os, bare⟩
        cases q : H b with
        | none => exact un.keep b o e q (by intro z; exact absurd (show b ∈ ([] : List Addr) from z) (by simp)) (by simp)
        | some u =>
          rcases hO b with z | ⟨ob, xs, z⟩
          · rw [q] at z; cases z
          · have z2 := un.frzs b ob _ z
            obtain ⟨e1, _⟩ := hok b _ z
            obtain ⟨e2, _⟩ := hok' b _ z2
            rw [e] at e1; cases e1
            exact e2
  cases hk : K.lookup a with
  | some o =>
    -- the script is one of the module's own objects
    have e := KX a o hk
    rw [ha] at e
    cases e
    refine core (fun _ => none) (fun _ => .inl rfl) (.inr ⟨_, vs.toArray, _, hk, rfl, rfl, rfl, by rw [List.size_toArray, lenV]; exact hl, by simpa using rv⟩) (fun b u z => by have z' : (none : Option HO) = some u := z; cases z') (fun b z => absurd rfl z) fun z => absurd rfl z
  | none =>
    refine core (fun b => if b = a then some (.frz { cls := .type "list", data := .seq vs.toArray } (.lst (ns.map V.int))) else none) (fun b => ?_) (.inl (.inr ⟨{ cls := .type "list", data := .seq vs.toArray }, if_pos rfl⟩)) (fun b u z => ?_) (fun b z => ?_) fun _ => hk
    · by_cases hb : b = a
      · exact .inr ⟨_, _, if_pos hb⟩
      · exact .inl (if_neg hb)
    · by_cases hb : b = a
      · have z' := (if_pos hb).symm.trans z
        cases z'
        subst hb
        exact ⟨ha, by rw [List.length_map]; exact hl, vs, _, rv, ha⟩
      · have z' := (if_neg hb).symm.trans z
        cases z'
    · by_cases hb : b = a
      · exact hb
      · exact absurd (if_neg hb) z
end L2

namespace L2
open PySem PySem.Spec PyProof.Rows


/-- the goal that k_head leaves (case hc), from the law's promise. F gives the function object fd (K's own) once, then the promise over every base -/
theorem walk_of {l : PySem.W.OpenLaw} {n k : Nat} {q : Program} {loose : List Str} {XP : (Str → Option Value) → Heap → Prop} {YP : World → Heap → Prop} {d : DefRec} {K : Params → PySem.W.Frag} {CX : World → CXT} {sp : World → Sp} {x : Str}
    (hn : l.most = some n) (hn2 : n ≤ sizeLine) (hdf : d.params.defaults = []) (hr : Room k callerA)
    (hY : ∀ (w : World) (h : Heap), YP w h → (K w.params).In h)
    (F : ∀ (w : World) (mg : Str → Option Value) (fa : Addr) (h : Heap), (K w.params).In h → h.Ns mainGlobals mg → mg d.name = some (.ref fa) →
      ∃ fd : FuncData, (∀ (s : Shared) (u : Value), BindsTo s fd ⟨[u], []⟩ [(x, u)]) ∧
        ∀ base : Heap, (K w.params).In base → base.Ns mainGlobals mg → FnOk l.prog w (K w.params) mg base (CX w) k fa fd [x] (sp w))
    (hsp : ∀ (w : World) (H : Hp) (a : Addr) (ns : List Int), ns.length ≤ n → Only H → SqL (K w.params) H a (ns.map V.int) → sp w [.ref a] H (fun v _ => v = .bl true) fun _ _ _ => False)
    (hCX : ∀ (w : World) (H : Hp) (s : Shared) (e : Value) (s' : Shared), CX w [] H s (fun _ _ _ => False) e s' → False) :
    PySem.W.WalkO q loose XP YP l.row.toRowW d [] (fun f vs => PySem.call f vs) := by
  refine Att.attach_call hn hdf fun w s₀ s₁ mg mb fa o pm cd doc a vs ns G Y ho hd hcd hmg hobj hints hlen hg => ?_
  have KX := hY w _ Y
  obtain ⟨fd, hb, hF⟩ := F w mg fa _ KX G.T.g hmg
  exact law_call KX G.T.g G.T.b G.T.builtins G.T.nolimit hg hobj hints (Nat.le_trans hlen hn2) hr hF hb (fun H hO hS => hsp w H a ns hlen hO hS) fun H e s' => hCX w H s₁ e s'
end L2

/- THE LAST THEOREM (shape; LID, My.* are yours):
   My.Adr: a structure of the addresses that your layer names (classes, functions); My.Txt K t: a structure (Prop) of the equations over K;
   My.txt_mk : {K} {implicit addresses ..} (e1 : nsIn K mainGlobals "law" = some (some (.ref f))) (e2 : K.lookup f = some ⟨oc, od, .func (fnOf "law" "law" params body scope dV kV doc pm an cdv ct), sl⟩) (e3 : codeIn K cdv "law" = true) .. : ∃ t, My.Txt K t

set_option maxRecDepth 100000 in
set_option maxHeartbeats 0 in
theorem PySem.Challenge.cw_LID_holds : PySem.Challenge.rw_LID.Holds := by
  w_on; o_law; k_head; (case hw => w_witness2)
  k_fill
  refine L2.walk_of (l := PySem.Challenge.rw_LID) (n := 63) (k := 40) (x := "script") (CX := fun w => ..) (sp := fun _ => My.sp_law) rfl (by decide) rfl ⟨rfl, by decide, by decide⟩ (fun w h Y => PySem.W.kIn_of Y) ?F ?S ?C
  case F =>
    intro w mg fa h KX G hmg
    have T : ∃ t, My.Txt (L2.KOf KX) t := by
      dsimp only [L2.KOf]                          -- K must stand as «<heap const> w.params» for k_is
      refine' My.txt_mk ?e1 ?e2 ?e3 ..
      (case e1 => PySem.W.k_is)                    -- in the order: a name -> its address -> its object -> its parts
      (case e2 => PySem.W.k_is)
      ..
    obtain ⟨t, T⟩ := T
    have e0 := hmg.symm.trans (PySem.W.mg_of KX G T.law)
    cases e0                                       -- fa is the law's own address
    exact ⟨_, fun s u => .of_eq rfl, fun base kb nb => My.law_fn T kb nb⟩     -- if «.of_eq rfl» comes too early: refine' ⟨_, ?b, fun base kb nb => My.law_fn T kb nb⟩; exact fun s u => .of_eq rfl
  case S => exact fun w H a ns hl hO hS => ..
  case C => exact ..
(the tactic k_is has no namespace: write k_is) -/

/-! SHORT WORDS over the layer: a def of the text, its body, what a loop and a test want. -/
namespace L2
open PySem PySem.Spec PyProof.Rows

/-! ### the text by places -/
/-- the j-th statement of a class's body -/
def inClass (s : Stmt) (j : Nat) : Stmt := match s with
  | .ClassDef _ _ _ body _ _ _ _ _ _ _ => body.getD j (.Pass ⟨0, 0, 0, 0⟩)
  | _ => .Pass ⟨0, 0, 0, 0⟩
def defArgs (s : Stmt) : Arguments := match s with
  | .FunctionDef _ a _ _ _ _ _ _ _ _ => a
  | _ => { posonlyargs := [], args := [], vararg := none, kwonlyargs := [], kw_defaults := [], kwarg := none, defaults := [] }
def defBody (s : Stmt) : List Stmt := match s with
  | .FunctionDef _ _ b _ _ _ _ _ _ _ => b
  | _ => []
def defScope (s : Stmt) : Scope := match s with
  | .FunctionDef _ _ _ _ _ _ sc _ _ _ => sc
  | _ => { kind := .function, names := [], isGenerator := false, isCoroutine := false }

/-! ### no exception leaves a def -/
abbrev CX0 : CXT := fun _ _ _ _ _ _ => False
abbrev E0 : XK := fun _ _ _ => False
theorem pass0 {X : Cx} : Passes CX0 X E0 := fun _ _ _ _ _ _ _ h => h.elim

/-! ### a def (or method) of the text as it stands behind the top -/
structure Fun (K : PySem.W.Frag) (x qual : Str) (st : Stmt) (f : Addr) (fd : FuncData) : Prop where
  ex : ∃ (oc : Value) (od : Option Addr) (kV doc pm : Value) (an : Option Addr) (cdv ct : Value) (osl : Array (Option Value)),
    fd = PySem.W.fnOf x qual (defArgs st) (defBody st) (defScope st) .none kV doc pm an cdv ct ∧ K.lookup f = some ⟨oc, od, .func fd, osl⟩ ∧ PySem.W.codeIn K cdv qual = true
  kp : PySem.W.keepIn K (.ref f) = true
section
variable {P : Program} {w : World} {K : PySem.W.Frag} {mg : Str → Option Value} {base : Heap}
/-- THE RULE for a def: its body as a term of rules, and the reading of that term -/
theorem Fun.ok {x qual : Str} {st : Stmt} {f : Addr} {fd : FuncData} {N ps : List Str} {k : Nat} {sp : Sp} (F : Fun K x qual st f fd) (S : FnScope N ps (defScope st)) (len : ∀ vs H Q E, sp vs H Q E → vs.length = ps.length)
    (hbody : ∀ (cdv : Value) (A : Around) (outer : List Env) (s : Shared) (H : Hp) (vs : List V) (Q : VK) (E : XK), Room k (A.deeper (envOfC qual (defScope st) s.heap.objs.size f cdv)) → sp vs H Q E →
      ∃ t, PSs (cxOf CX0 P w K mg base N qual (defScope st) f cdv A outer s H E).nox (defBody st) t ∧ t { nx := fun _ H' => Q .non H', rt := Q } (start N vs) H) : FnOk P w K mg base CX0 (k + 1) f fd ps sp := by
  obtain ⟨oc, od, kV, doc, pm, an, cdv, ct, osl, rfl, lk, hcd⟩ := F.ex
  refine fn_of lk hcd S len fun A outer s H vs Q E hr hsp => ?_
  obtain ⟨t, h, q⟩ := hbody cdv A outer s H vs Q E hr hsp
  exact ⟨t, h.nox, q⟩
/-- how its arguments bind (no defaults): h is «fun _ _ _ _ _ _ us hl => match us, hl with | [_, _], _ => rfl», one _ a parameter -/
theorem Fun.binds {x qual : Str} {st : Stmt} {f : Addr} {fd : FuncData} {ps : List Str} (F : Fun K x qual st f fd)
    (h : ∀ (kV doc pm : Value) (an : Option Addr) (cdv ct : Value) (us : List Value), us.length = ps.length → bindArgs (PySem.W.fnOf x qual (defArgs st) (defBody st) (defScope st) .none kV doc pm an cdv ct) ⟨us, []⟩ = pure (ps.zip us)) : Binds K fd ps [] := by
  obtain ⟨oc, od, kV, doc, pm, an, cdv, ct, osl, rfl, lk, hcd⟩ := F.ex
  exact .all (h kV doc pm an cdv ct)
theorem fun_mk {x qual : Str} {st : Stmt} {f : Addr} {oc : Value} {od an : Option Addr} {osl : Array (Option Value)} {kV doc pm cdv ct : Value} (l : K.lookup f = some ⟨oc, od, .func (PySem.W.fnOf x qual (defArgs st) (defBody st) (defScope st) .none kV doc pm an cdv ct), osl⟩)
    (c : PySem.W.codeIn K cdv qual = true) (k : PySem.W.keepIn K (.ref f) = true) : Fun K x qual st f (PySem.W.fnOf x qual (defArgs st) (defBody st) (defScope st) .none kV doc pm an cdv ct) := ⟨⟨oc, od, kV, doc, pm, an, cdv, ct, osl, rfl, l, c⟩, k⟩
end
theorem hu_of {A : Around} {k : Nat} (hr : Room k A) : A.units + 1 < cLine := Nat.lt_of_le_of_lt (Nat.add_le_add_left (by decide : 1 ≤ 64) _) hr.units
theorem small1000 {n : Nat} (h : n ≤ 1000) : n < sizeLine := Nat.lt_of_le_of_lt h (by decide)

/-! ### expressions in short: the name that stands in the i-th slot -/
section
variable {X : Cx}
theorem pv (i : Nat) {x : Str} {pos : Pos} (hN : X.N[i]? = some x := by rfl) (hv : Vis X.env.scope x := by first | exact Or.inl rfl | exact Or.inr (Or.inl rfl) | exact Or.inr (Or.inr rfl)) (hd : (x == ("__debug__" : Str)) = false := by decide)
    (hcd : (x == ("__classdict__" : Str)) = false := by decide) : PE X (.Name x pos) (tVar i) := pe_var hN hv hd hcd
end

/-! ### tests -/
theorem iteF {A B : Prop} (h : B) : if false = true then A else B := by
  rw [if_neg Bool.false_ne_true]
  exact h
theorem iteT {A B : Prop} (h : A) : if true = true then A else B := by
  rw [if_pos rfl]
  exact h
theorem ite2 {c A B : Prop} [Decidable c] (h1 : c → A) (h2 : ¬ c → B) : if c then A else B := by
  by_cases h : c
  · rw [if_pos h]
    exact h1 h
  · rw [if_neg h]
    exact h2 h

/-! ### heaps -/
/-- all that was tracked is as it was -/
def Same (H H' : Hp) : Prop := ∀ b o, H b = some o → H' b = some o
theorem Same.refl (H : Hp) : Same H H := fun _ _ h => h
theorem Same.trans {H H1 H2 : Hp} (a : Same H H1) (b : Same H1 H2) : Same H H2 := fun c o h => b c o (a c o h)
theorem Same.free {H H' : Hp} (e : Same H H') {l : Addr} (h : H' l = Option.none) : H l = Option.none := by
  cases q : H l with
  | none => rfl
  | some o =>
    rw [e l o q] at h
    cases h
theorem Same.seq {K : PySem.W.Frag} {H H' : Hp} {a : Addr} {xs : List V} (e : Same H H') (h : SqL K H a xs) : SqL K H' a xs := by
  rcases h with (h | ⟨o, h⟩) | h
  · exact .inl (.inl (e _ _ h))
  · exact .inl (.inr ⟨o, e _ _ h⟩)
  · exact .inr h

/-! ### a dict's pairs: keys that differ -/
section
variable {κ : Type} [DecidableEq κ]
theorem valV_not {kvs : List (κ × V)} {k : κ} (h : valV kvs k = none) : ¬ k ∈ kvs.map (·.1) := by
  intro m
  obtain ⟨p, hp, e⟩ := List.mem_map.mp m
  have q : (kvs.any fun kv => decide (kv.1 = k)) = true := List.any_eq_true.mpr ⟨p, hp, decide_eq_true e⟩
  rw [valV_any, h] at q
  exact absurd q (by simp)
theorem valV_in {kvs : List (κ × V)} {k : κ} {v : V} (h : valV kvs k = some v) : k ∈ kvs.map (·.1) := by
  have q : (kvs.any fun kv => decide (kv.1 = k)) = true := by
    rw [valV_any, h]
    all_goals rfl
  obtain ⟨p, hp, e⟩ := List.any_eq_true.mp q
  exact List.mem_map.mpr ⟨p, hp, of_decide_eq_true e⟩
theorem nd_snoc : ∀ {l : List κ} {k : κ}, l.Nodup → ¬ k ∈ l → (l ++ [k]).Nodup
  | [], k, _, _ => by simp
  | a :: r, k, h, hk => by
    obtain ⟨h1, h2⟩ := List.nodup_cons.mp h
    show (a :: (r ++ [k])).Nodup
    refine List.nodup_cons.mpr ⟨fun m => ?_, nd_snoc h2 fun m => hk (List.mem_cons.mpr (Or.inr m))⟩
    rcases List.mem_append.mp m with q | q
    · exact h1 q
    · exact hk (List.mem_cons.mpr (Or.inl (List.mem_singleton.mp q).symm))
end
end L2

set_option Elab.async false
set_option linter.all false
set_option maxRecDepth 100000
set_option maxHeartbeats 4000000
/-! list comprehensions over the hand layer: one clause, at most one test, no exception leaves -/
namespace L2
open PySem PySem.Spec PyProof.Rows

theorem forIn_yield_fold {α β : Type} {f : α → β → Sem (ForInStep β)} (g : β → α → β) : ∀ (l : List α) (c : β), (∀ x ∈ l, ∀ c, f x c = pure (.yield (g c x))) → forIn l c f = pure (l.foldl g c)
  | [], c, _ => rfl
  | x :: l, c, h => by
    rw [List.forIn_cons, h x List.mem_cons_self, pure_bind]
    exact forIn_yield_fold g l (g c x) fun y hy => h y (List.mem_cons_of_mem _ hy)

/-- the cells that a block closes over -/
def closF (cells : List (Str × Addr)) (c : List (Str × Addr)) (x : Str × NameKind) : List (Str × Addr) :=
  if x.2 == .free then (match cells.lookup x.1 with | some a => (x.1, a) :: c | none => c) else c
def closOf (env : Env) (sc : Scope) : List (Str × Addr) := sc.names.foldl (closF env.cells) []
theorem closureFor_is {scope : Scope} {env : Env} (h : ∀ x ∈ scope.names, x.2 = .free → ∃ c, env.cells.lookup x.1 = some c) : closureFor scope env = pure (closOf env scope) := by
  simp only [closureFor]
  rw [forIn_yield_fold (closF env.cells) scope.names [] (fun x hx c => ?_)]
  · rfl
  · obtain ⟨n, k⟩ := x
    unfold closF
    cases hk : (k == NameKind.free) with
    | true =>
      have e : k = .free := by simpa using hk
      obtain ⟨a, ha⟩ := h (n, k) hx e
      have ha' : env.cells.lookup n = some a := ha
      simp only [hk, if_true, cellOf, ha', pure_bind]
    | false => simp only [hk, Bool.false_eq_true, if_false]
theorem lookup_pair {β : Type} (x n : Str) (a : β) (l : List (Str × β)) : List.lookup x ((n, a) :: l) = if x = n then some a else List.lookup x l := by
  by_cases h : x = n
  · have hb : (x == n) = true := beq_iff_eq.mpr h
    simp only [List.lookup_cons, hb, if_pos h]
  · have hb : (x == n) = false := beq_eq_false_iff_ne.mpr h
    simp only [List.lookup_cons, hb, if_neg h]
theorem clos_sub {cells : List (Str × Addr)} : ∀ (names : List (Str × NameKind)) (acc : List (Str × Addr)), (∀ x c, acc.lookup x = some c → cells.lookup x = some c) →
    ∀ x c, (names.foldl (closF cells) acc).lookup x = some c → cells.lookup x = some c
  | [], acc, h => h
  | (n, k) :: r, acc, h => clos_sub r _ fun x c e => by
    unfold closF at e
    by_cases hk : ((n, k).2 == NameKind.free) = true
    · rw [if_pos hk] at e
      dsimp only at e
      cases q : cells.lookup n with
      | none => rw [q] at e; exact h x c e
      | some a =>
        rw [q] at e
        dsimp only at e
        rw [lookup_pair] at e
        by_cases hx : x = n
        · rw [if_pos hx] at e; rw [hx, q]; exact e
        · rw [if_neg hx] at e; exact h x c e
    · rw [if_neg hk] at e; exact h x c e
theorem clos_mono {cells : List (Str × Addr)} : ∀ (names : List (Str × NameKind)) (acc : List (Str × Addr)) (x : Str), (∃ c, acc.lookup x = some c) → ∃ c, (names.foldl (closF cells) acc).lookup x = some c
  | [], acc, x, h => h
  | (n, k) :: r, acc, x, h => clos_mono r _ x (by
    obtain ⟨c, h⟩ := h
    unfold closF
    by_cases hk : ((n, k).2 == NameKind.free) = true
    · rw [if_pos hk]
      dsimp only
      cases q : cells.lookup n with
      | none => exact ⟨c, h⟩
      | some a =>
        dsimp only
        rw [lookup_pair]
        by_cases hx : x = n
        · exact ⟨a, by rw [if_pos hx]⟩
        · exact ⟨c, by rw [if_neg hx]; exact h⟩
    · rw [if_neg hk]; exact ⟨c, h⟩)
theorem clos_has {cells : List (Str × Addr)} {x : Str} {c : Addr} (hc : cells.lookup x = some c) : ∀ (names : List (Str × NameKind)) (acc : List (Str × Addr)), (x, NameKind.free) ∈ names → ∃ c, (names.foldl (closF cells) acc).lookup x = some c
  | [], acc, h => by cases h
  | (n, k) :: r, acc, h => by
    rcases List.mem_cons.mp h with e | e
    · cases e
      refine clos_mono r _ x ⟨c, ?_⟩
      unfold closF
      rw [if_pos (by rfl)]
      dsimp only
      rw [hc]
      dsimp only
      rw [lookup_pair, if_pos rfl]
    · exact clos_has hc r _ e
theorem clos_at {env : Env} {sc : Scope} {x : Str} {c : Addr} (hc : env.cells.lookup x = some c) (hm : (x, NameKind.free) ∈ sc.names) : (closOf env sc).lookup x = some c := by
  obtain ⟨c', h⟩ := clos_has hc sc.names [] hm
  have e := clos_sub sc.names [] (fun x c e => by cases e) x c' h
  rw [hc] at e; cases e
  exact h
theorem clos_of {env : Env} {sc : Scope} {x : Str} {c : Addr} (h : (closOf env sc).lookup x = some c) : env.cells.lookup x = some c :=
  clos_sub sc.names [] (fun x c e => by cases e) x c h

/-- the kinds in a block -/
def relK (env : Env) (x : Str) (k : NameKind) : NameKind := if (k == .free && env.scope.kind == .function && env.kindOf x == some .cell) then .cell else k
theorem relabel_lookup {env : Env} (x : Str) : ∀ names : List (Str × NameKind),
    (names.map fun (n, k) => if (k == NameKind.free && env.scope.kind == .function && env.kindOf n == some .cell) then (n, NameKind.cell) else (n, k)).lookup x = (names.lookup x).map (relK env x)
  | [] => rfl
  | (n, k) :: r => by
    have ih := relabel_lookup (env := env) x r
    rw [List.map_cons]
    have e : (if (k == NameKind.free && env.scope.kind == .function && env.kindOf n == some .cell) = true then (n, NameKind.cell) else (n, k)) = (n, relK env n k) := by
      unfold relK
      split <;> rfl
    dsimp only
    rw [e, lookup_pair, lookup_pair]
    by_cases hx : x = n
    · rw [if_pos hx, if_pos hx, hx]; rfl
    · rw [if_neg hx, if_neg hx]; exact ih
theorem comp_lookup {env : Env} {scope : Scope} {cl : List (Str × Addr)} {C : Addr} (x : Str) : (compEnvC scope cl C env).scope.names.lookup x = (scope.names.lookup x).map (relK env x) := relabel_lookup x scope.names

/-- where a block's names get their values -/
def srcSt (src : List (Option Nat)) (σ : St) : St := src.map fun o => o.bind fun i => (σ[i]?).join
/-- what is asked of a block's names: sc, N the def's scope and names, N' the block's names, src where those of the def stand in N -/
structure CompOk (sc : Scope) (N N' : List Str) (src : List (Option Nat)) (scope : Scope) : Prop where
  nd : N'.Nodup
  len : src.length = N'.length
  kind : scope.kind = .function
  nocell : ∀ y ∈ scope.names, y.2 ≠ .cell
  names : ∀ y ∈ scope.names, y.2 = .local → scope.names.lookup y.1 = some .local
  free : ∀ y ∈ scope.names, y.2 = .free → sc.names.lookup y.1 = some .cell ∨ sc.names.lookup y.1 = some .free
  srcs : ((src.zip N').all fun (o, x) => match o with | none => true | some i => N[i]? == some x && scope.names.lookup x == some .free) = true
theorem CompOk.at {sc : Scope} {N N' : List Str} {src : List (Option Nat)} {scope : Scope} (O : CompOk sc N N' src scope) {j i : Nat} {x : Str} (h1 : src[j]? = some (some i)) (h2 : N'[j]? = some x) : N[i]? = some x ∧ scope.names.lookup x = some .free := by
  have hz : (src.zip N')[j]? = some (some i, x) := by rw [List.getElem?_zip_eq_some]; exact ⟨h1, h2⟩
  have q := List.all_eq_true.mp O.srcs _ (List.mem_of_getElem? hz)
  have q' : (N[i]? == some x && scope.names.lookup x == some .free) = true := q
  rw [Bool.and_eq_true] at q'
  exact ⟨eq_of_beq q'.1, eq_of_beq q'.2⟩

def Cx.comp (X : Cx) (N' : List Str) (scope : Scope) (C : Addr) (s : Shared) (H : Hp) (fp : List Addr) : Cx :=
  { X with N := N', s₀ := s, H₀ := H, env := compEnvC scope (closOf X.env scope) C X.env, outer := X.stack, ex := fp, fn := fun _ => false, pn := [], xe := fun _ _ => False }

theorem Un.adopt {fs ex : List Addr} {H H1 : Hp} {h h1 : Heap} {D : Addr} {o : HO} (u : Un fs ex H H1 h h1) (hD : h.get? D = none) (hH : H D = none) : Un fs ex H (upd H1 D o) h h1 where
  keep := u.keep
  slot := u.slot
  free := fun b ob q n hx => by
    have hb : b ≠ D := fun z => by rw [z, hD] at q; cases q
    rw [upd_ne hb]; exact u.free b ob q n hx
  there := u.there
  tups := fun b xs q => by rw [upd_ne (ne_of_none q hH)]; exact u.tups b xs q
  frzs := fun b ob xs q => by rw [upd_ne (ne_of_none q hH)]; exact u.frzs b ob xs q
  tbls := fun b ps q => by rw [upd_ne (ne_of_none q hH)]; exact u.tbls b ps q
theorem HOk.adopt {P : Program} {w : World} {H : Hp} {h : Heap} {D : Addr} {o : HO} (x : HOk P w H h) (n : H D = none) (new : ObjOk P w (upd H D o) h D o) : HOk P w (upd H D o) h := fun b u e => by
  by_cases hb : b = D
  · subst hb; rw [upd_same] at e; cases e; exact new
  · rw [upd_ne hb] at e
    exact (x b u e).stay (fun c v _ q => q) (fun c q => by rw [upd_ne (ne_of_none q n)]; exact q) fun c xs q => by rw [upd_ne (ne_of_none q n)]; exact q

/-- a test of a clause -/
def PFi (X : Cx) (ifs : List Expr) (tf : TT) : Prop :=
  ∀ (pins : List (Addr × Obj)) (s : Shared) (σ : St) (H : Hp) (Q : Bool → Hp → Prop), Inv X pins σ H s → tf σ H Q →
    wpAny (model X.prog X.w) X.A (forIn ifs true fun c r => if r = true then do let ok ← isTrue c X.env (eval c X.env); pure (ForInStep.yield ok) else pure (ForInStep.yield r)) (TP X pins σ Q) X.xe s
def tfNil : TT := fun _ H Q => Q true H
theorem pf_nil {X : Cx} : PFi X [] tfNil := by
  intro pins s σ H Q I h
  rw [List.forIn_nil]
  exact wpAny_pure ⟨H, I, h⟩
theorem pf_one {X : Cx} {c : Expr} {tc : TT} (hc : PT X c tc) : PFi X [c] tc := by
  intro pins s σ H Q I h
  rw [List.forIn_cons]
  refine wpAny_bind (wpAny_bind (thn (hc pins s σ H _ I h) fun b s1 ⟨H1, I1, q1⟩ => wpAny_pure ?_))
  dsimp only
  rw [List.forIn_nil]
  exact wpAny_pure ⟨H1, I1, q1⟩

/-- what a comprehension's block asks: W the word by the turn, a measure, what is gathered, the block's names -/
def CompW (src : List (Option Nat)) (J : It) (g : TG) (tf : TT) (te : TE) (Q : VK) (σ : St) (H : Hp) : Prop :=
  ∃ W : Nat → Nat → List V → St → Hp → Prop, (∃ m, W 0 m [] (srcSt src σ) H) ∧ ∀ i m ys σ' H', W i m ys σ' H' → ys.length ≤ sizeLine ∧
  ((J.stop i H' ∧ ∀ p, H' p = none → Q (.ref p) (upd H' p (.lst ys))) ∨
   (J.go i H' ∧ ∃ Nx : List V → St → Hp → Prop, (∀ ys2 σ2 H2, Nx ys2 σ2 H2 → ∃ m', m' < m ∧ W (i + 1) m' ys2 σ2 H2) ∧
     ∀ x H2, J.yld i H' x H2 → g x σ' H2 fun σ2 H3 => tf σ2 H3 fun b H4 => if b = true then te σ2 H4 fun y H5 => Nx (ys ++ [y]) σ2 H5 else Nx ys σ2 H4))
/-- [elt for tg in iter if ..] -/
def tComp (src : List (Option Nat)) (wi : TI) (g : TG) (tf : TT) (te : TE) : TE := fun σ H Q => wi σ H fun J H1 => CompW src J g tf te Q σ H1

section
variable {X : Cx} {tg elt iter : Expr} {ifs : List Expr} {scope sc : Scope} {N N' : List Str} {src : List (Option Nat)} {g : TG} {tf : TT} {te : TE} {wi : TI} {pos : Pos}

theorem loop_own {prog : Program} {w : World} {A : Around} {R : Result → Shared → Prop} {s : Shared} {it acc : Value} {env : Env} (I : Nat → Shared → Prop)
    (turn : ∀ n s, I n s → wpAny (model prog w) A (pyNext it) (fun r s₁ => match r with
      | none => R (.ok .next) s₁
      | some v => wpAny (model prog w) A (letOwnedTupleGo tg it v) (fun _ s₂ => wpAny (model prog w) A (assign tg env v) (fun _ s₃ =>
          wpAny (model prog w) A (forIn ifs true fun c r => if r = true then do let ok ← isTrue c env (eval c env); pure (ForInStep.yield ok) else pure (ForInStep.yield r)) (fun ok s₄ =>
            if ok = true then wpAny (model prog w) A (eval elt env) (fun x s₅ =>
              wpAny (model prog w) A (call (.builtin "list.append") [acc, x]) (fun _ s₆ => ∃ m, m < n ∧ I m s₆) (fun _ _ => False) s₅) (fun _ _ => False) s₄
            else ∃ m, m < n ∧ I m s₄) (fun _ _ => False) s₃) (fun _ _ => False) s₂) (fun _ _ => False) s₁) (fun _ _ => False) s)
    (n : Nat) (h : I n s) : codeAny (model prog w) A (.compLoop (.ListComp elt [⟨tg, iter, ifs, 0⟩] scope pos) 0 it acc env) R s := by
  refine codeAny_loop rfl I (fun n s hI => ?_) n h
  show wpAny _ A ((compTurn (.ListComp elt [⟨tg, iter, ifs, 0⟩] scope pos) 0 it acc env).onRaise (fun x => do noteFrame x env; theTreesLotGoes x)) _ _ s
  refine wpAny_noted ?_
  rw [compTurn_list]
  refine wpAny_bind (wpAny_standAt (wpAny_bind (wpAny_mono (turn n s hI) (fun r s₁ h₁ => ?_) fun _ _ h' => h'.elim)))
  cases r with
  | none => exact wpAny_pure h₁
  | some v =>
    refine wpAny_bind (wpAny_mono h₁ (fun _ s₂ h₂ => ?_) fun _ _ h' => h'.elim)
    refine wpAny_bind (wpAny_mono h₂ (fun _ s₃ h₃ => wpAny_bind (wpAny_mono h₃ (fun ok s₄ h₄ => ?_) fun _ _ h' => h'.elim)) fun _ _ h' => h'.elim)
    cases ok with
    | false => exact wpAny_pure ⟨rfl, h₄⟩
    | true =>
      exact wpAny_bind (wpAny_bind (wpAny_mono h₄ (fun x s₅ h₅ => wpAny_bind (wpAny_mono h₅ (fun _ s₆ h₆ => wpAny_pure (wpAny_pure ⟨rfl, h₆⟩)) fun _ _ h' => h'.elim)) fun _ _ h' => h'.elim))

/-- the block's context is good -/
theorem comp_ok {pins : List (Addr × Obj)} {σ : St} {H : Hp} {s : Shared} {fp : List Addr} {C : Addr} (O : CompOk sc N N' src scope) (hsc : X.env.scope = sc) (I : Inv X pins σ H s) (hf : ∀ b ∈ fp, FpOk X pins H b)
    (ho : ∀ b ∈ fp, ∃ o, s.heap.get? b = some o) (hC : s.heap.objs.size ≤ C) : (X.comp N' scope C s H fp).Ok := by
  have hk : ∀ x, ((compEnvC scope (closOf X.env scope) C X.env).kindOf x = some .cell ∨ (compEnvC scope (closOf X.env scope) C X.env).kindOf x = some .free) → (x, NameKind.free) ∈ scope.names := fun x h => by
    have h : (compEnvC scope (closOf X.env scope) C X.env).scope.names.lookup x = some .cell ∨ (compEnvC scope (closOf X.env scope) C X.env).scope.names.lookup x = some .free := h
    rw [comp_lookup] at h
    cases q : scope.names.lookup x with
    | none => rw [q] at h; rcases h with h | h <;> cases h
    | some k =>
      have hm := PySem.mem_of_lookup q
      rw [q] at h
      cases k with
      | free => exact hm
      | cell => exact absurd rfl (O.nocell _ hm)
      | _ =>
        exfalso
        rcases h with h | h <;> (have h' := Option.some.inj h; unfold relK at h'; simp at h')
  refine ⟨I.ok.mod, O.kind, I.ok.glob, I.ok.blt, hC, fun x y c h1 h2 => I.ok.inj x y c (clos_of h1) (clos_of h2), fun x h => ?_, fun x c h => (by cases h), I.ok.hd, I.ok.frames, .inl rfl, fun b hb => ?_, I.bs, Nat.le_trans I.ok.bsz I.sz, fun b o e hb => ?_, fun b hb z => ?_, I.stack, I.stkFree⟩
  · have hm := hk x h
    have hx := O.free _ hm rfl
    rw [← hsc] at hx
    obtain ⟨c, hc⟩ := I.ok.has x hx
    exact ⟨c, clos_at hc hm⟩
  · refine ⟨?_, fun x c h => (hf b hb).2.2.2.2.1 x c (clos_of h)⟩
    obtain ⟨o, e⟩ := ho b hb
    exact Nat.ne_of_lt (Nat.lt_of_lt_of_le (Heap.lt_size e) hC)
  · rcases (hf b hb).2.2.2.1 with z | z
    · exact I.ok.noex b o e z
    · exact absurd (Nat.lt_of_lt_of_le (Nat.lt_of_lt_of_le (Heap.lt_size e) I.ok.bsz) z) (Nat.lt_irrefl _)
  · rcases List.mem_cons.mp (I.stkSub b z) with e | e
    · exact (hf b hb).2.1 e
    · exact (hf b hb).2.2.1 e

/-- the block's first state -/
theorem comp_inv {pins : List (Addr × Obj)} {σ : St} {H : Hp} {s : Shared} {fp : List Addr} {C : Addr} {h' : Heap} {tk : Nat} (O : CompOk sc N N' src scope) (hsc : X.env.scope = sc) (hN : X.N = N) (I : Inv X pins σ H s) (hf : ∀ b ∈ fp, FpOk X pins H b)
    (ho : ∀ b ∈ fp, ∃ o, s.heap.get? b = some o) (hC : s.heap.objs.size ≤ C) (k : ∀ b o, s.heap.get? b = some o → h'.get? b = some o) {m' : Str → Option Value} (hn : h'.Ns C m') :
    Inv (X.comp N' scope C s H fp) [] (srcSt src σ) H { s with heap := h', toks := tk } := by
  have cells : ∀ x c, X.env.cells.lookup x = some c → ∀ v, s.heap.IsCell c v → h'.IsCell c v := fun x c _ v ⟨o, e, d⟩ => ⟨o, k c o e, d⟩
  refine ⟨comp_ok O hsc I hf ho hC, rfl, I.bare, Un.kept k, ⟨_, hn, fun j x v e1 e2 e3 => ?_⟩, fun x c e => ?_, I.hok.fresh hC, fun x c e => I.freeC x c (clos_of e), fun p hp => (by cases hp), I.hok.kept k, ?_⟩
  · have e2 : (srcSt src σ)[j]? = some (some v) := e2
    have e1 : N'[j]? = some x := e1
    unfold srcSt at e2
    rw [List.getElem?_map] at e2
    cases q : src[j]? with
    | none => rw [q] at e2; cases e2
    | some o =>
      rw [q] at e2
      have e2 : (o.bind fun i => (σ[i]?).join) = some v := Option.some.inj e2
      cases o with
      | none => cases e2
      | some i =>
        have e2 : (σ[i]?).join = some v := e2
        obtain ⟨y2, hlk⟩ := O.at q e1
        have y3 := PySem.mem_of_lookup hlk
        have e4 : σ[i]? = some (some v) := by
          cases r : σ[i]? with
          | none => rw [r] at e2; cases e2
          | some w => rw [r] at e2; cases w with
            | none => cases e2
            | some w' => have : w' = v := Option.some.inj e2; rw [this]
        have hx := O.free _ y3 rfl
        rw [← hsc] at hx
        obtain ⟨m, hm, hl⟩ := I.loc
        obtain ⟨u, ru, lu⟩ := hl i x v (by rw [hN]; exact y2) e4 (.inr hx)
        refine ⟨u, ru, .inr ?_⟩
        obtain ⟨c, hc, hcell⟩ : ∃ c, X.env.cells.lookup x = some c ∧ s.heap.IsCell c (some u) := by
          rcases lu with ⟨z, _⟩ | ⟨_, c, hc, hz⟩
          · exfalso
            have z : X.env.scope.names.lookup x = some .local := z
            rcases hx with hx | hx <;> (rw [hx] at z; cases z)
          · exact ⟨c, hc, hz⟩
        refine ⟨?_, c, clos_at hc y3, cells x c hc _ hcell⟩
        show (compEnvC scope (closOf X.env scope) C X.env).scope.names.lookup x = some .cell ∨ (compEnvC scope (closOf X.env scope) C X.env).scope.names.lookup x = some .free
        rw [comp_lookup, hlk]
        show some (relK X.env x .free) = some .cell ∨ some (relK X.env x .free) = some .free
        unfold relK
        split
        · exact .inl rfl
        · exact .inr rfl
  · obtain ⟨v, z⟩ := I.cell x c (clos_of e)
    exact ⟨v, cells x c (clos_of e) v z⟩
  · show (srcSt src σ).length = N'.length
    unfold srcSt
    rw [List.length_map]
    exact O.len

/-- the block, from the iterator on -/
theorem comp_block {pins : List (Addr × Obj)} {σ : St} {H : Hp} {s : Shared} {fp : List Addr} {it : Addr} {tn : Nat → Heap → Prop} {J : It} {E : Value → Shared → Prop} {RR : Value → Addr → Result → Shared → Prop} {Fin : List V → Hp → Prop} (O : CompOk sc N N' src scope) (hsc : X.env.scope = sc) (hN : X.N = N) (hcalm : X.calm = true)
    (hg : ∀ C s H fp, PG (X.comp N' scope C s H fp) tg g) (hft : ∀ C s H fp, PFi (X.comp N' scope C s H fp) ifs tf) (he : ∀ C s H fp, PE (X.comp N' scope C s H fp) elt te)
    (I : Inv X pins σ H s) (T : Turn X.prog X.w X.K tg J fp it tn) (t0 : tn 0 s.heap) (hf : ∀ b ∈ fp, FpOk X pins H b)
    (W : Nat → Nat → List V → St → Hp → Prop) (m0 : Nat) (w0 : W 0 m0 [] (srcSt src σ) H)
    (hW : ∀ i m ys σ' H', W i m ys σ' H' → ys.length ≤ sizeLine ∧ ((J.stop i H' ∧ Fin ys H') ∨
      (J.go i H' ∧ ∃ Nx : List V → St → Hp → Prop, (∀ ys2 σ2 H2, Nx ys2 σ2 H2 → ∃ m', m' < m ∧ W (i + 1) m' ys2 σ2 H2) ∧
        ∀ x H2, J.yld i H' x H2 → g x σ' H2 fun σ2 H3 => tf σ2 H3 fun b H4 => if b = true then te σ2 H4 fun y H5 => Nx (ys ++ [y]) σ2 H5 else Nx ys σ2 H4)))
    (hRR : ∀ (D C : Addr) (s' : Shared) (σ' : St) (H' : Hp) (ys : List V) (its : List Value) (n : Nat), s.heap.objs.size ≤ D → s.heap.objs.size ≤ C → Inv (X.comp N' scope C s H fp) [] σ' H' s' → s'.heap.get? D = some { cls := .type "list", data := .seq its.toArray n } → Vals ys its → ys.length ≤ sizeLine →
      H' D = none → D ≠ C → Fin ys H' → RR (.ref D) C (.ok .next) s') :
    wpAny (model X.prog X.w) X.A (newList []) (fun acc s₃ => wpAny (model X.prog X.w) X.A (newFunctionEnv scope X.env.globals (closOf X.env scope) [] X.env.qual none .none (some X.env)) (fun cenv s₄ =>
      codeAny (model X.prog X.w) X.A (.compStart (.ListComp elt [⟨tg, iter, ifs, 0⟩] scope pos) 0 (.ref it) acc { cenv with scope := relabel scope X.env }) (RR acc cenv.locals) s₄) E s₃) E s := by
  refine wpAny_newObj_type (wpAny_newFunctionEnv O.nocell (by intro y hy; cases hy) (fun h₁ hns₁ hsb₁ => ?_) O.kind)
  dsimp only at hns₁ hsb₁ ⊢
  generalize hH2 : s.heap.push { cls := .type "list", dict := none, data := .seq ([] : List Value).toArray } = P2 at hns₁ hsb₁ ⊢
  have hCs : P2.objs.size = s.heap.objs.size + 1 := by rw [← hH2, Heap.size_push]
  have hDC : s.heap.objs.size ≠ P2.objs.size := by rw [hCs]; exact Nat.ne_of_lt (Nat.lt_succ_self _)
  have hCle : s.heap.objs.size ≤ P2.objs.size := by rw [hCs]; exact Nat.le_succ _
  have below : ∀ b, b < s.heap.objs.size → b ≠ P2.objs.size ∧ b ≠ s.heap.objs.size := fun b hb => ⟨by rw [hCs]; exact Nat.ne_of_lt (Nat.lt_succ_of_lt hb), Nat.ne_of_lt hb⟩
  have old : ∀ b o, s.heap.get? b = some o → h₁.get? b = some o := fun b o e => hsb₁.extBut b o (below b (Heap.lt_size e)).1 (Heap.get?_push_of_some _ (hH2 ▸ Heap.get?_push_of_some _ e))
  have hacc : h₁.get? s.heap.objs.size = some { cls := .type "list", data := .seq ([] : List Value).toArray 0 } := hsb₁.extBut _ _ hDC (Heap.get?_push_of_some _ (hH2 ▸ Heap.get?_push_size _ rfl))
  have fpo : ∀ b ∈ fp, ∃ o, s.heap.get? b = some o := fun b hb => let ⟨o, e, _⟩ := T.obj 0 _ t0 b hb; ⟨o, e⟩
  have fplt : ∀ b ∈ fp, b < s.heap.objs.size := fun b hb => let ⟨o, e⟩ := fpo b hb; Heap.lt_size e
  generalize hD : s.heap.objs.size = D at *
  generalize hC : P2.objs.size = C at *
  have ok1 : ∀ tk, Inv (X.comp N' scope C s H fp) [] (srcSt src σ) H { s with heap := h₁, toks := tk } := fun tk => comp_inv O hsc hN I hf fpo (by rw [hD]; exact hCle) old hns₁
  have okX : (X.comp N' scope C s H fp).Ok := (ok1 0).ok
  -- what holds of the iterator's objects in the block
  have stat : ∀ {H' : Hp} {pl : List (Addr × Obj)}, (∀ b ∈ fp, H' b = none) → (∀ p ∈ pl, p.1 ∉ fp) → ∀ b ∈ fp, FpOk (X.comp N' scope C s H fp) pl H' b := fun {H' pl} hn hp b hb =>
    ⟨hn b hb, (okX.exf b hb).1, okX.exfs b hb, .inl hb, (okX.exf b hb).2, fun p hm => by
      have hm : p ∈ pl := by simpa [Cx.comp] using hm
      exact fun z => hp p hm (z ▸ hb)⟩
  have Dfs : D ∉ (X.comp N' scope C s H fp).fs := fun hb => by
    obtain ⟨_, o, ho, _⟩ := okX.funs.mem hb
    have ho : s.heap.get? D = some o := ho
    have h1 := Heap.lt_size ho
    rw [hD] at h1
    exact Nat.lt_irrefl _ h1
  have Dcell : ∀ x c, (X.comp N' scope C s H fp).env.cells.lookup x = some c → c ≠ D := fun x c e z => by
    obtain ⟨v, o, ho, _⟩ := I.cell x c (clos_of e)
    have h1 := Heap.lt_size ho
    rw [hD, z] at h1
    exact Nat.lt_irrefl _ h1
  have loop : ∀ tk, codeAny (model X.prog X.w) X.A (.compLoop (.ListComp elt [⟨tg, iter, ifs, 0⟩] scope pos) 0 (.ref it) (.ref D) (compEnvC scope (closOf X.env scope) C X.env)) (RR (.ref D) C) { s with heap := h₁, toks := tk } := by
    intro tk
    refine loop_own (fun n s' => ∃ i ys σ' H' its c, Inv (X.comp N' scope C s H fp) [] σ' H' s' ∧ tn i s'.heap ∧ (∀ b ∈ fp, H' b = none) ∧ s'.heap.get? D = some { cls := .type "list", data := .seq (its : List Value).toArray c } ∧ Vals ys its ∧ H' D = none ∧ W i n ys σ' H') ?_ m0
      ⟨0, [], srcSt src σ, H, [], 0, ok1 tk, T.keep 0 _ _ t0 fun b _ o e => old b o e, fun b hb => (hf b hb).1, hacc, .nil, I.hok.fresh (by rw [hD]; exact Nat.le_refl _), w0⟩
    rintro n s3 ⟨i, ys, σ3, H3, its, c3, I3, st3, fr3, d3, v3, nD3, w3⟩
    obtain ⟨hlen, alt⟩ := hW i n ys σ3 H3 w3
    rcases alt with ⟨stop, fin⟩ | ⟨go, Nx, hNx, step⟩
    · have I3' : Inv (X.comp N' scope C s H fp) [(D, { cls := .type "list", data := .seq its.toArray c3 })] σ3 H3 s3 := I3.pins_of fun p hp => by
        have e : p = (D, { cls := .type "list", data := .seq its.toArray c3 }) := by simpa using hp
        subst e
        exact ⟨d3, nD3, hDC, Dfs, fun v z => by cases z⟩
      refine thn (T.done (X.comp N' scope C s H fp) rfl rfl rfl hcalm i _ s3 σ3 H3 _ I3' (stat fr3 fun p hp z => by
        have e : p = (D, { cls := .type "list", data := .seq its.toArray c3 }) := by simpa using hp
        rw [e] at z
        exact Nat.lt_irrefl _ (fplt D z)) st3 stop) fun r s4 ⟨hr, I4⟩ => ?_
      subst hr
      obtain ⟨d4, nD4, _⟩ := I4.pin (D, { cls := .type "list", data := .seq its.toArray c3 }) (by simp [Cx.comp])
      exact hRR D C s4 σ3 H3 ys its c3 (by omega) (by omega) (I4.pins_of fun p hp => (by cases hp)) d4 v3 hlen nD4 hDC fin
    · have I3' : Inv (X.comp N' scope C s H fp) [(D, { cls := .type "list", data := .seq its.toArray c3 })] σ3 H3 s3 := I3.pins_of fun p hp => by
        have e : p = (D, { cls := .type "list", data := .seq its.toArray c3 }) := by simpa using hp
        subst e
        exact ⟨d3, nD3, hDC, Dfs, fun v z => by cases z⟩
      have hpD : ∀ p ∈ [((D, { cls := .type "list", data := .seq its.toArray c3 }) : Addr × Obj)], p.1 ∉ fp := fun p hp z => by
        have e : p = (D, { cls := .type "list", data := .seq its.toArray c3 }) := by simpa using hp
        rw [e] at z
        exact Nat.lt_irrefl _ (fplt D z)
      refine thn (T.item (X.comp N' scope C s H fp) rfl rfl rfl hcalm i _ s3 σ3 H3 _ I3' (stat fr3 hpD) st3 go) fun r s4 ⟨u, hr, h4⟩ => ?_
      subst hr
      refine thn h4 fun _ s5 ⟨x, H5, I5, r5, y5, st5, fr5⟩ => ?_
      have I5' := I5.pinned (stat fr5 hpD) (T.obj _ _ st5)
      have pinD : (D, ({ cls := .type "list", data := .seq its.toArray c3 } : Obj)) ∈ (X.comp N' scope C s H fp).pn ++ ([((D, { cls := .type "list", data := .seq its.toArray c3 }) : Addr × Obj)] ++ pinsAt fp s5.heap) := by simp [Cx.comp]
      have back : ∀ {σ7 : St} {H7 : Hp} {s7 : Shared}, Inv (X.comp N' scope C s H fp) ([((D, { cls := .type "list", data := .seq its.toArray c3 }) : Addr × Obj)] ++ pinsAt fp s5.heap) σ7 H7 s7 →
          tn (i + 1) s7.heap ∧ ∀ b ∈ fp, H7 b = none := fun {σ7 H7 s7} I7 => ⟨T.keep _ _ _ st5 fun b hb o e => (I7.pin (b, o) (List.mem_append_right _ (List.mem_append_right _ (mem_pinsAt hb e)))).1, fun b hb => by
        obtain ⟨o, e, d⟩ := T.obj _ _ st5 b hb
        exact (I7.pin (b, o) (List.mem_append_right _ (List.mem_append_right _ (mem_pinsAt hb e)))).2.1⟩
      refine thn (hg C s H fp _ s5 σ3 H5 x u _ I5' r5 (step x H5 y5)) fun _ s6 ⟨σ6, H6, I6, q6⟩ => ?_
      refine thn (hft C s H fp _ s6 σ6 H6 _ I6 q6) fun b s7 ⟨H7, I7, q7⟩ => ?_
      cases b with
      | false =>
        obtain ⟨m', hm', w7⟩ := hNx ys σ6 H7 (by simpa using q7)
        obtain ⟨b1, b2⟩ := back I7
        obtain ⟨d7, nD7, _⟩ := I7.pin _ pinD
        exact ⟨m', hm', i + 1, ys, σ6, H7, its, c3, I7.pins_of fun p hp => (by cases hp), b1, b2, d7, v3, nD7, w7⟩
      | true =>
        have q7 : te σ6 H7 fun y H5 => Nx (ys ++ [y]) σ6 H5 := by simpa using q7
        rw [if_pos rfl]
        refine thn (he C s H fp _ s7 σ6 H7 _ I7 q7) fun u8 s8 ⟨y, H8, I8, r8, n8⟩ => ?_
        obtain ⟨m', hm', w8⟩ := hNx _ _ _ n8
        obtain ⟨b1, b2⟩ := back I8
        obtain ⟨d8, nD8, _⟩ := I8.pin _ pinD
        have hl := v3.length
        refine wpAny_list_append_plain (items := its.toArray) ⟨c3, d8⟩ (fun h9 ⟨c9, d9⟩ sb9 => ?_) (by rw [List.size_toArray, ← hl]; exact hlen)
        have I8' : Inv (X.comp N' scope C s H fp) [] σ6 H8 s8 := I8.pins_of fun p hp => by cases hp
        have I9 : Inv (X.comp N' scope C s H fp) [] σ6 H8 { s8 with heap := h9 } := I8'.turned (t' := s8.toks) (it := D) (fun b o hb e => (sb9.2 b hb).trans e) nD8 hDC (.inr (by show s.heap.objs.size ≤ D; omega)) Dcell (fun p hp => by
          have hp : p ∈ ([] : List (Addr × Obj)) := by simpa [Cx.comp] using hp
          cases hp)
        refine ⟨m', hm', i + 1, ys ++ [y], σ6, H8, its ++ [u8], c9, I9, T.keep _ _ _ b1 fun b hb o e => (sb9.2 b (fun z => Nat.lt_irrefl _ (z ▸ fplt b hb))).trans e, b2, ?_, v3.append (.cons r8 .nil), nD8, w8⟩
        show h9.get? D = _
        rw [d9]
        simp
  exact codeAny_compStart_list (loop _) (T.self _ 0 _ _ _ (T.keep 0 _ _ t0 fun b _ o e => old b o e) (loop _))

/-- the gathered list is taken up, in the def's own context -/
theorem comp_back {pins : List (Addr × Obj)} {σ σ' : St} {H H' : Hp} {s s' : Shared} {fp : List Addr} {C D : Addr} {ys : List V} {its : List Value} {n : Nat} (I : Inv X pins σ H s) (hf : ∀ b ∈ fp, FpOk X pins H b)
    (J : Inv (X.comp N' scope C s H fp) [] σ' H' s') (hD : s.heap.objs.size ≤ D) (d : s'.heap.get? D = some { cls := .type "list", data := .seq its.toArray n }) (v : Vals ys its) (hl : ys.length ≤ sizeLine) (nD : H' D = none) :
    Inv X pins σ (upd H' D (.lst ys)) s' := by
  have u : Un (frs X.stack) fp H H' s.heap s'.heap := J.base
  refine I.call' (ch := fp) J.os (u.adopt (Heap.get?_none_of_le hD) (I.hok.fresh hD)) (J.hok.adopt nD ⟨hl, its, n, v, d⟩) J.bare fun b hb => ?_
  obtain ⟨_, f1, _, f3, f4, f5⟩ := hf b hb
  exact ⟨f3, f1, f4, f5⟩
/-- .. and the block's frame is let go -/
theorem comp_gone {pins : List (Addr × Obj)} {σ σ2 : St} {H H2 : Hp} {s s2 : Shared} {C : Addr} {h' : Heap} (I : Inv X pins σ H s) (I2 : Inv X pins σ2 H2 s2) (hC : s.heap.objs.size ≤ C) (nC : H2 C = none) (sb : Heap.SameBut C s2.heap h') : Inv X pins σ2 H2 { s2 with heap := h' } := by
  obtain ⟨_, f1, _, f3, f4, f5⟩ := I.fpOk (H' := H2) hC nC
  exact I2.turned (t' := s2.toks) (it := C) (fun b o hb e => (sb.2 b hb).trans e) nC f1 f3 f4 f5

theorem pe_comp (O : CompOk sc N N' src scope) (hsc : X.env.scope = sc) (hN : X.N = N) (hcalm : X.calm = true) (hi : PI X tg iter wi)
    (hg : ∀ C s H fp, PG (X.comp N' scope C s H fp) tg g) (hft : ∀ C s H fp, PFi (X.comp N' scope C s H fp) ifs tf) (he : ∀ C s H fp, PE (X.comp N' scope C s H fp) elt te)
    (hs : ∀ x, foldedSetIterable iter X.env x = pure x := by intro _; rfl) : PE X (.ListComp elt [⟨tg, iter, ifs, 0⟩] scope pos) (tComp src wi g tf te) := by
  intro pins s σ H Q I h
  rw [eval_ListComp]
  have hclos : closureFor scope X.env = pure (closOf X.env scope) := closureFor_is fun x hx hk => I.ok.has x.1 (by
    have := O.free x hx hk
    rw [← hsc] at this
    exact this)
  refine wpAny_comprehension_free (use := none) rfl hs hclos O.kind O.names (thn (hi pins s σ H _ I h) fun v s1 h1 => thn h1 fun itv s2 h2 => ?_)
  obtain ⟨it, fp, tn, J, H2, e, I2, T, st2, f2, W, ⟨m0, w0⟩, turn⟩ := h2
  subst e
  refine comp_block (RR := fun acc C => compPost (model X.prog X.w) X.A X.xe none (EP X pins σ Q) acc C) (Fin := fun ys H' => ∀ p, H' p = none → Q (.ref p) (upd H' p (.lst ys))) O hsc hN hcalm hg hft he I2 T st2 f2 W m0 w0 turn ?_
  intro D C s' σ' H' ys its n hD hC Jv d vv hl nD hDC fin
  have I3 := comp_back I2 f2 Jv hD d vv hl nD
  obtain ⟨m, hm, _⟩ := Jv.loc
  have nC : H' C = none := Jv.free
  refine ⟨m, hm, fun h' sb => ⟨.ref D, _, comp_gone I2 I3 hC (by rw [upd_ne (Ne.symm hDC)]; exact nC) sb, rfl, fin D nD⟩⟩

/-- name = [..]: the stores exchanged -/
theorem ps_setc {k : Nat} {y : Str} {py spos : Pos} (O : CompOk sc N N' src scope) (hsc : X.env.scope = sc) (hN : X.N = N) (hcalm : X.calm = true) (hi : PI X tg iter wi)
    (hg : ∀ C s H fp, PG (X.comp N' scope C s H fp) tg g) (hft : ∀ C s H fp, PFi (X.comp N' scope C s H fp) ifs tf) (he : ∀ C s H fp, PE (X.comp N' scope C s H fp) elt te)
    (nd : X.N.Nodup) (hk : X.N[k]? = some y) (hx : Loc X.env.scope y)
    (hsw : swapsWith (.ListComp elt [⟨tg, iter, ifs, 0⟩] scope pos) (some (.Name y py)) spos.line X.env = pure true := by rfl)
    (hf : X.fn y = true ∨ X.env.scope.names.lookup y = some .local := by first | exact .inl rfl | exact .inr rfl | assumption)
    (hs : ∀ x, foldedSetIterable iter X.env x = pure x := by intro _; rfl) : PS X (.Assign [.Name y py] (.ListComp elt [⟨tg, iter, ifs, 0⟩] scope pos) spos) (tAsg (tComp src wi g tf te) (gName k)) := by
  intro pins s σ H D₀ I h
  rw [exec_Assign_Name_used _ _ _ _ hsw]
  refine wpAny_bind (wpAny_standAt (wpAny_bind ?_))
  show wpAny _ X.A (do let _ ← comprehension (.ListComp elt [⟨tg, iter, ifs, 0⟩] scope pos) scope X.env _ (newList []) false (eval iter X.env) (some (assign (.Name y py) X.env))) _ _ s
  have hclos : closureFor scope X.env = pure (closOf X.env scope) := closureFor_is fun x hx hk => I.ok.has x.1 (by
    have := O.free x hx hk
    rw [← hsc] at this
    exact this)
  refine wpAny_bind (wpAny_mono (wpAny_comprehension_free (use := some (assign (.Name y py) X.env)) (Q := fun _ s' => SP X pins D₀ .next s') rfl hs hclos O.kind O.names (thn (hi pins s σ H _ I h) fun v s1 h1 => thn h1 fun itv s2 h2 => ?_))
    (fun _ s' hq => wpAny_pure (wpAny_pure hq)) fun _ _ e => e)
  obtain ⟨it, fp, tn, J, H2, e, I2, T, st2, f2, W, ⟨m0, w0⟩, turn⟩ := h2
  subst e
  refine comp_block (RR := fun acc C => compPost (model X.prog X.w) X.A X.xe (some (assign (.Name y py) X.env)) (fun _ s' => SP X pins D₀ .next s') acc C) (Fin := fun ys H' => ∀ p, H' p = none → gName k (.ref p) σ (upd H' p (.lst ys)) D₀.nx) O hsc hN hcalm hg hft he I2 T st2 f2 W m0 w0 turn ?_
  intro D C s' σ' H' ys its n hD hC Jv d vv hl nD hDC fin
  have I3 := comp_back I2 f2 Jv hD d vv hl nD
  obtain ⟨m, hm, _⟩ := Jv.loc
  have nC : H' C = none := Jv.free
  show wpAny _ X.A (assign (.Name y py) X.env (.ref D)) _ _ s'
  refine wpAny_assign_Name (store_ok2 I3 nd hk hx (v := .ref D) rfl (fun s4 I4 ⟨a, sa, ha⟩ => ?_) hf)
  have aC : C ≠ a := by
    rcases ha with e | e
    · rw [e]
      intro z
      exact Nat.lt_irrefl _ (Nat.lt_of_lt_of_le I2.lt (z ▸ hC))
    · intro z
      obtain ⟨v, o, ho, _⟩ := I2.cell y a e
      exact Nat.lt_irrefl _ (Nat.lt_of_lt_of_le (Heap.lt_size ho) (z ▸ hC))
  refine ⟨m, Heap.Ns.sameBut hm sa aC, fun h' sb => ⟨_, _, comp_gone I2 I4 hC (by rw [upd_ne (Ne.symm hDC)]; exact nC) sb, fin D nD⟩⟩
end

/-- two statements, with a word between them -/
def tCut (t u : TS) : TS := fun D σ H => ∃ R : St → Hp → Prop, t { D with nx := R } σ H ∧ ∀ σ' H', R σ' H' → u D σ' H'
theorem pss_cut {X : Cx} {st : Stmt} {rest : List Stmt} {t u : TS} (h1 : PS X st t) (h2 : PSs X rest u) : PSs X (st :: rest) (tCut t u) := by
  intro pins s σ H D I ⟨R, h, hu⟩
  refine wpAny_execs_cons (thn (h1 pins s σ H { D with nx := R } I h) fun f s1 q => ?_)
  cases f with
  | next =>
    obtain ⟨σ', H', I', q⟩ := q
    exact h2 pins s1 σ' H' D I' (hu σ' H' q)
  | ret v => exact q
  | brk => exact q
  | cont => exact q

/-! ### the forms one uses -/
section
variable {K : PySem.W.Frag} {src : List (Option Nat)} {g : TG} {tf : TT} {te : TE} {Q : VK} {a : Addr} {xs : List V} {σ : St} {H : Hp}
/-- over n turns -/
theorem comp_n {J : It} (n : Nat) (Pv : Nat → List V → St → Hp → Prop) (h0 : Pv 0 [] (srcSt src σ) H) (hz : n ≤ sizeLine) (hl : ∀ i ys σ H, i ≤ n → Pv i ys σ H → ys.length ≤ i)
    (hst : ∀ ys σ H, Pv n ys σ H → J.stop n H) (hgo : ∀ i ys σ H, i < n → Pv i ys σ H → J.go i H)
    (hs : ∀ i ys σ H, i < n → Pv i ys σ H → ∀ x H2, J.yld i H x H2 → g x σ H2 fun σ2 H3 => tf σ2 H3 fun b H4 => if b = true then te σ2 H4 fun y H5 => Pv (i + 1) (ys ++ [y]) σ2 H5 else Pv (i + 1) ys σ2 H4)
    (hd : ∀ ys σ H, Pv n ys σ H → ∀ p, H p = none → Q (.ref p) (upd H p (.lst ys))) : CompW src J g tf te Q σ H := by
  refine ⟨fun i m ys σ H => m = n - i ∧ i ≤ n ∧ Pv i ys σ H, ⟨n, by simp, Nat.zero_le _, h0⟩, ?_⟩
  rintro i m ys σ' H' ⟨rfl, hi, p⟩
  have hy := hl i ys σ' H' hi p
  refine ⟨by omega, ?_⟩
  by_cases hlt : i < n
  · exact .inr ⟨hgo i ys σ' H' hlt p, Pv (i + 1), fun ys2 σ2 H2 z => ⟨n - (i + 1), by omega, rfl, hlt, z⟩, fun x H2 y => hs i ys σ' H' hlt p x H2 y⟩
  · have e : i = n := by omega
    subst e
    exact .inl ⟨hst ys σ' H' p, hd ys σ' H' p⟩
/-- over a list that stays -/
theorem comp_list (Pv : Nat → List V → St → Hp → Prop) (h0 : Pv 0 [] (srcSt src σ) H) (hz : xs.length ≤ sizeLine) (hl : ∀ i ys σ H, i ≤ xs.length → Pv i ys σ H → SqL K H a xs ∧ ys.length ≤ i)
    (hs : ∀ i x ys σ H, xs[i]? = some x → Pv i ys σ H → g x σ H fun σ2 H3 => tf σ2 H3 fun b H4 => if b = true then te σ2 H4 fun y H5 => Pv (i + 1) (ys ++ [y]) σ2 H5 else Pv (i + 1) ys σ2 H4)
    (hd : ∀ ys σ H, Pv xs.length ys σ H → ∀ p, H p = none → Q (.ref p) (upd H p (.lst ys))) : CompW src (Itl K a) g tf te Q σ H :=
  comp_n xs.length Pv h0 hz (fun i ys σ H hi p => (hl i ys σ H hi p).2) (fun ys σ H p => ⟨xs, (hl _ ys σ H (Nat.le_refl _) p).1, Nat.le_refl _⟩) (fun i ys σ H hi p => ⟨xs, xs[i], (hl i ys σ H (Nat.le_of_lt hi) p).1, by simp [hi]⟩)
    (fun i ys σ H hi p x H2 y => by
      obtain ⟨e, y⟩ := y
      subst e
      exact hs i x ys σ _ (y xs (hl i ys σ _ (Nat.le_of_lt hi) p).1) p) hd
theorem comp_tup (Pv : Nat → List V → St → Hp → Prop) (h0 : Pv 0 [] (srcSt src σ) H) (hz : xs.length ≤ sizeLine) (hl : ∀ i ys σ H, i ≤ xs.length → Pv i ys σ H → SqT K H a xs ∧ ys.length ≤ i)
    (hs : ∀ i x ys σ H, xs[i]? = some x → Pv i ys σ H → g x σ H fun σ2 H3 => tf σ2 H3 fun b H4 => if b = true then te σ2 H4 fun y H5 => Pv (i + 1) (ys ++ [y]) σ2 H5 else Pv (i + 1) ys σ2 H4)
    (hd : ∀ ys σ H, Pv xs.length ys σ H → ∀ p, H p = none → Q (.ref p) (upd H p (.lst ys))) : CompW src (Itt K a) g tf te Q σ H :=
  comp_n xs.length Pv h0 hz (fun i ys σ H hi p => (hl i ys σ H hi p).2) (fun ys σ H p => ⟨xs, (hl _ ys σ H (Nat.le_refl _) p).1, Nat.le_refl _⟩) (fun i ys σ H hi p => ⟨xs, xs[i], (hl i ys σ H (Nat.le_of_lt hi) p).1, by simp [hi]⟩)
    (fun i ys σ H hi p x H2 y => by
      obtain ⟨e, y⟩ := y
      subst e
      exact hs i x ys σ _ (y xs (hl i ys σ _ (Nat.le_of_lt hi) p).1) p) hd
/-! without a test -/
theorem noTest {te : TE} {A : V → St → Hp → Prop} {B : St → Hp → Prop} : (fun σ2 H3 => tfNil σ2 H3 fun b H4 => if b = true then te σ2 H4 (fun y H5 => A y σ2 H5) else B σ2 H4) = fun (σ2 : St) (H3 : Hp) => te σ2 H3 fun y H5 => A y σ2 H5 := by
  funext σ2 H3
  show (if true = true then (te σ2 H3 fun y H5 => A y σ2 H5) else B σ2 H3) = _
  rw [if_pos rfl]
theorem comp_list0 (Pv : Nat → List V → St → Hp → Prop) (h0 : Pv 0 [] (srcSt src σ) H) (hz : xs.length ≤ sizeLine) (hl : ∀ i ys σ H, i ≤ xs.length → Pv i ys σ H → SqL K H a xs ∧ ys.length ≤ i)
    (hs : ∀ i x ys σ H, xs[i]? = some x → Pv i ys σ H → g x σ H fun σ2 H3 => te σ2 H3 fun y H5 => Pv (i + 1) (ys ++ [y]) σ2 H5)
    (hd : ∀ ys σ H, Pv xs.length ys σ H → ∀ p, H p = none → Q (.ref p) (upd H p (.lst ys))) : CompW src (Itl K a) g tfNil te Q σ H :=
  comp_list Pv h0 hz hl (fun i x ys σ H e p => by rw [noTest]; exact hs i x ys σ H e p) hd
theorem comp_tup0 (Pv : Nat → List V → St → Hp → Prop) (h0 : Pv 0 [] (srcSt src σ) H) (hz : xs.length ≤ sizeLine) (hl : ∀ i ys σ H, i ≤ xs.length → Pv i ys σ H → SqT K H a xs ∧ ys.length ≤ i)
    (hs : ∀ i x ys σ H, xs[i]? = some x → Pv i ys σ H → g x σ H fun σ2 H3 => te σ2 H3 fun y H5 => Pv (i + 1) (ys ++ [y]) σ2 H5)
    (hd : ∀ ys σ H, Pv xs.length ys σ H → ∀ p, H p = none → Q (.ref p) (upd H p (.lst ys))) : CompW src (Itt K a) g tfNil te Q σ H :=
  comp_tup Pv h0 hz hl (fun i x ys σ H e p => by rw [noTest]; exact hs i x ys σ H e p) hd
end
end L2

set_option Elab.async false
set_option linter.all false
set_option maxRecDepth 100000
set_option maxHeartbeats 4000000
/-! more rules over the hand layer: data of any depth and its ==, texts, walks along texts and enumerate, sorted, isinstance -/
namespace L2
open PySem PySem.Spec PyProof.Rows

/-! ### data of any depth -/
mutual
/-- the value reads as this datum -/
def Dt (K : PySem.W.Frag) (H : Hp) : PyData → V → Prop
  | .none, v => v = .non
  | .bool b, v => v = .bl b
  | .int i, v => v = .int i
  | .str x, v => v = .str x
  | .list ds, v => ∃ a xs, v = .ref a ∧ SqL K H a xs ∧ DtAll K H ds xs
  | .tuple ds, v => ∃ a xs, v = .ref a ∧ SqT K H a xs ∧ DtAll K H ds xs
  | .dict _, _ => False
def DtAll (K : PySem.W.Frag) (H : Hp) : List PyData → List V → Prop
  | [], xs => xs = []
  | d :: ds, xs => ∃ x r, xs = x :: r ∧ Dt K H d x ∧ DtAll K H ds r
end
theorem Same.tupS {K : PySem.W.Frag} {H H' : Hp} {a : Addr} {xs : List V} (e : Same H H') (h : SqT K H a xs) : SqT K H' a xs := by
  rcases h with (h | ⟨o, h⟩) | h
  · exact .inl (.inl (e _ _ h))
  · exact .inl (.inr ⟨o, e _ _ h⟩)
  · exact .inr h
mutual
theorem Dt.same {K : PySem.W.Frag} {H H' : Hp} (e : Same H H') : ∀ (d : PyData) (v : V), Dt K H d v → Dt K H' d v
  | .none, _, h => h
  | .bool _, _, h => h
  | .int _, _, h => h
  | .str _, _, h => h
  | .list ds, _, ⟨a, xs, h1, h2, h3⟩ => ⟨a, xs, h1, e.seq h2, DtAll.same e ds xs h3⟩
  | .tuple ds, _, ⟨a, xs, h1, h2, h3⟩ => ⟨a, xs, h1, e.tupS h2, DtAll.same e ds xs h3⟩
  | .dict _, _, h => h
theorem DtAll.same {K : PySem.W.Frag} {H H' : Hp} (e : Same H H') : ∀ (ds : List PyData) (xs : List V), DtAll K H ds xs → DtAll K H' ds xs
  | [], _, h => h
  | d :: ds, _, ⟨x, r, h1, h2, h3⟩ => ⟨x, r, h1, Dt.same e d x h2, DtAll.same e ds r h3⟩
end
theorem DtAll.length {K : PySem.W.Frag} {H : Hp} : ∀ {ds : List PyData} {xs : List V}, DtAll K H ds xs → xs.length = ds.length
  | [], _, h => by cases (show _ = [] from h); rfl
  | d :: ds, _, ⟨x, r, h1, h2, h3⟩ => by rw [h1, List.length_cons, List.length_cons, DtAll.length h3]
theorem DtAll.append {K : PySem.W.Frag} {H : Hp} : ∀ {ds es : List PyData} {xs ys : List V}, DtAll K H ds xs → DtAll K H es ys → DtAll K H (ds ++ es) (xs ++ ys)
  | [], _, _, _, h, h' => by cases (show _ = [] from h); exact h'
  | d :: ds, _, _, _, ⟨x, r, h1, h2, h3⟩, h' => ⟨x, r ++ _, by rw [h1]; rfl, h2, DtAll.append h3 h'⟩
theorem DtAll.get {K : PySem.W.Frag} {H : Hp} : ∀ {ds : List PyData} {xs : List V} {i : Nat} {x : V}, DtAll K H ds xs → xs[i]? = some x → ∃ d, ds[i]? = some d ∧ Dt K H d x
  | [], _, _, _, h, e => by cases (show _ = [] from h); simp at e
  | d :: ds, _, 0, _, ⟨x, r, h1, h2, h3⟩, e => by rw [h1] at e; simp at e; subst e; exact ⟨d, rfl, h2⟩
  | d :: ds, _, i + 1, _, ⟨x, r, h1, h2, h3⟩, e => by
    rw [h1] at e
    obtain ⟨d', e1, e2⟩ := DtAll.get (i := i) h3 (by simpa using e)
    exact ⟨d', by simpa using e1, e2⟩
theorem DtAll.strs {K : PySem.W.Frag} {H : Hp} : ∀ (ls : List Str), DtAll K H (ls.map PyData.str) (ls.map V.str)
  | [] => rfl
  | x :: ls => ⟨.str x, ls.map V.str, rfl, rfl, DtAll.strs ls⟩
theorem DtAll.strs_of {K : PySem.W.Frag} {H : Hp} : ∀ {ls : List Str} {xs : List V}, DtAll K H (ls.map PyData.str) xs → xs = ls.map V.str
  | [], _, h => h
  | x :: ls, _, ⟨v, r, h1, h2, h3⟩ => by
    have h2 : v = V.str x := h2
    rw [h1, h2, DtAll.strs_of h3]; rfl
section
variable {X : Cx} {pins : List (Addr × Obj)} {σ : St} {H : Hp} {s : Shared}
mutual
theorem Dt.reads (I : Inv X pins σ H s) : ∀ (d : PyData) (v : V) (u : Value), Dt X.K H d v → RelV v u → ∃ as, Reads s.heap u d as
  | .none, _, u, h, r => by
    cases (show _ = V.non from h); cases (show u = Value.none from r); exact ⟨_, .none⟩
  | .bool b, _, u, h, r => by
    cases (show _ = V.bl b from h); cases (show u = Value.bool b from r); exact ⟨_, .bool b⟩
  | .int i, _, u, h, r => by
    cases (show _ = V.int i from h); obtain ⟨t, e⟩ := (show ∃ t, u = Value.int i t from r); cases e; exact ⟨_, .int i t⟩
  | .str x, _, u, h, r => by
    cases (show _ = V.str x from h); obtain ⟨t, e⟩ := (show ∃ t, u = Value.str x t from r); cases e; exact ⟨_, .str x t⟩
  | .list ds, _, u, ⟨a, xs, h1, h2, h3⟩, r => by
    subst h1
    cases (show u = Value.ref a from r)
    obtain ⟨its, rv, ⟨o, n, e, c, _, d⟩, _⟩ := I.list h2
    obtain ⟨as, q⟩ := DtAll.reads I ds xs its h3 rv
    exact ⟨_, .list e c d (by simpa using q)⟩
  | .tuple ds, _, u, ⟨a, xs, h1, h2, h3⟩, r => by
    subst h1
    cases (show u = Value.ref a from r)
    obtain ⟨its, rv, ⟨o, e, c, n, d⟩, _⟩ := I.tuple h2
    obtain ⟨as, q⟩ := DtAll.reads I ds xs its h3 rv
    exact ⟨_, .tuple e c d (by simpa using q)⟩
  | .dict _, _, _, h, _ => False.elim h
theorem DtAll.reads (I : Inv X pins σ H s) : ∀ (ds : List PyData) (xs : List V) (us : List Value), DtAll X.K H ds xs → Vals xs us → ∃ as, ReadsAll s.heap us ds as
  | [], _, us, h, r => by
    cases (show _ = [] from h)
    cases r
    exact ⟨_, .nil⟩
  | d :: ds, _, us, ⟨x, rr, h1, h2, h3⟩, r => by
    subst h1
    cases r with
    | cons r1 r2 =>
      obtain ⟨as, q1⟩ := Dt.reads I d x _ h2 r1
      obtain ⟨bs, q2⟩ := DtAll.reads I ds rr _ h3 r2
      exact ⟨_, .cons q1 q2⟩
end
end
section
variable {X : Cx}
def rEqD (K : PySem.W.Frag) : R2 := fun x y H Q => ∃ d e, Dt K H d x ∧ Dt K H e y ∧ SeqAt.shaped d = true ∧ SeqAt.shaped e = true ∧ Q (.bl (PyData.eqv d e)) H
def rNeD (K : PySem.W.Frag) : R2 := fun x y H Q => ∃ d e, Dt K H d x ∧ Dt K H e y ∧ SeqAt.shaped d = true ∧ SeqAt.shaped e = true ∧ Q (.bl (!PyData.eqv d e)) H
theorem op_eqD (hu : X.A.units + 64 < cLine) : OpR X (compareOp .Eq) (rEqD X.K) := by
  intro pins s σ H x y v u Q I rx ry h
  obtain ⟨d, e, h1, h2, h3, h4, q⟩ := h
  obtain ⟨as, r1⟩ := Dt.reads I d x v h1 rx
  obtain ⟨bs, r2⟩ := Dt.reads I e y u h2 ry
  exact SeqAt.compareEq_shaped r1 r2 h3 h4 hu ⟨.bl _, H, I, rfl, q⟩
theorem op_neD (hu : X.A.units + 64 < cLine) : OpR X (compareOp .NotEq) (rNeD X.K) := by
  intro pins s σ H x y v u Q I rx ry h
  obtain ⟨d, e, h1, h2, h3, h4, q⟩ := h
  obtain ⟨as, r1⟩ := Dt.reads I d x v h1 rx
  obtain ⟨bs, r2⟩ := Dt.reads I e y u h2 ry
  exact SeqAt.compareNe_shaped r1 r2 h3 h4 hu ⟨.bl _, H, I, rfl, q⟩

/-! ### texts -/
theorem strsAre_of : ∀ {ys : List Str} {us : List Value}, Vals (ys.map V.str) us → StrsAre us ys
  | [], us, r => by rw [List.map_nil] at r; cases r; exact .nil
  | y :: ys, us, r => by
    rw [List.map_cons] at r
    cases r with
    | cons r1 r2 =>
      obtain ⟨t, e⟩ := r1
      subst e
      exact .cons y t (strsAre_of r2)
/-- sep.join(xs), xs a list or a tuple of texts -/
def rJoin (K : PySem.W.Frag) : V → List V → Hp → VK → Prop := fun x vs H Q => ∃ sep p ys, x = .str sep ∧ vs = [.ref p] ∧ (SqL K H p (ys.map V.str) ∨ SqT K H p (ys.map V.str)) ∧ (ys.map (·.length)).sum + ys.length * sep.length ≤ 16777216 ∧ Q (.str (Txt.join sep ys)) H
theorem mt_join : MtR X "str.join" (rJoin X.K) := by
  intro pins s σ H x xs v us Q I rx rs h
  obtain ⟨sep, p, ys, rfl, rfl, hq, hz, q⟩ := h
  obtain ⟨t, rfl⟩ := rx
  obtain ⟨u, rfl, ru⟩ := vals1 rs
  cases ru
  rcases hq with hq | hq
  · obtain ⟨its, r, pl, _⟩ := I.list hq
    exact join_list pl.isList (by simpa using strsAre_of r) hz fun t' k => ⟨.str _, H, I.tok _, ⟨_, rfl⟩, q⟩
  · obtain ⟨its, r, pl, _⟩ := I.tuple hq
    exact join_tuple pl (by simpa using strsAre_of r) hz fun t' k => ⟨.str _, H, I.tok _, ⟨_, rfl⟩, q⟩
theorem isPart_some {vl : Value} {lo : Option Int} (h : IsPart vl lo) : ∃ o : Option (Int × Tok), vl = partValue o ∧ lo = o.map (·.1) := by
  cases h with
  | none => exact ⟨none, rfl, rfl⟩
  | int i t => exact ⟨some (i, t), rfl, rfl⟩
/-- t[lo:hi] of a text -/
def rSlS : V → Option Int → Option Int → Hp → VK → Prop := fun x lo hi H Q => ∃ z, x = .str z ∧ z.length ≤ sizeLine ∧ Q (.str (Txt.slice z lo hi)) H
theorem sl_str : SlR X rSlS := by
  intro pins s σ H x v vl vu lo hi sl Q I rx hs pl pu h
  obtain ⟨z, rfl, hz, q⟩ := h
  obtain ⟨t, rfl⟩ := rx
  obtain ⟨ol, rfl, rfl⟩ := isPart_some pl
  obtain ⟨ou, rfl, rfl⟩ := isPart_some pu
  refine ⟨"str", _, F.slot_str_getitem.lookup, typeIs_str _ _ _, wpAny_getItem_str_slice (l := ol) (u := ou) (st := none) ?_ rfl (post_val_or_str ⟨Nat.le_trans (Txt.slice_le z _ _) hz, fun t' k => ⟨.str _, H, I.tok _, ⟨_, rfl⟩, q⟩⟩)⟩
  exact hs
end

/-! ### records that turn, objects that are taken up -/
section
variable {X : Cx} {pins : List (Addr × Obj)} {σ : St} {H : Hp} {s : Shared} {h' : Heap}
end

/-! ### for over a text -/
/-- the signs of a text, one by one -/
def Its (x : Str) : It := ⟨fun i _ => i < x.length, fun i H v H' => H' = H ∧ ∃ c, x.cps[i]? = some c ∧ v = .str ⟨#[c]⟩, fun i _ => i = x.length⟩
theorem turn_walks {P : Program} {w : World} {K : PySem.W.Frag} {tg : Expr} {it : Addr} {x : Str} {tn : Nat → Heap → Prop} (hW : ∀ A : Around, A.handled = none → Walks P w A it [it] [it] x.cps.size (SignAt x) tn)
    (ho : ∀ i h, tn i h → ∃ o, h.get? it = some o ∧ ∀ v, o.data ≠ .cell v) (hself : ∀ (A : Around) (i : Nat) (s : Shared) (Q : Value → Shared → Prop) (E : Value → Shared → Prop), tn i s.heap → Q (.ref it) s → wpAny (model P w) A (pyIter (.ref it)) Q E s) :
    Turn P w K tg (Its x) [it] it tn where
  mem := by simp
  obj := fun i h st b hb => by
    have e : b = it := by simpa using hb
    subst e
    exact ho i h st
  keep := fun i h h' st k => (hW {} rfl).frame i h h' st k
  item := by
    intro X hP hw hK hc i pins s σ H E I hf st hg
    subst hP hw hK
    obtain ⟨f0, f1, f2, f3, f4, f5⟩ := hf it (by simp)
    refine (hW X.A (I.ok.hd hc)).item i s _ _ hg st fun v h' tk hv st' kk => ?_
    obtain ⟨c, u, hcx, rfl⟩ := hv
    have I1 : Inv X pins σ H { s with heap := h', toks := tk } := I.turned (fun b o hb e => kk b o (by simpa using hb) e) f0 f1 f3 f4 f5
    refine ⟨_, rfl, ?_⟩
    have fin : ∃ x' H', Inv X pins σ H' { s with heap := h', toks := tk } ∧ RelV x' (.str ⟨#[c]⟩ u) ∧ (Its x).yld i H x' H' ∧ tn (i + 1) h' ∧ ∀ b ∈ [it], H' b = none :=
      ⟨.str ⟨#[c]⟩, H, I1, ⟨u, rfl⟩, ⟨rfl, c, hcx, rfl⟩, st', fun b hb => (hf b hb).1⟩
    unfold letOwnedTupleGo
    cases tg <;> exact wpAny_pure fin
  done := by
    intro X hP hw hK hc i pins s σ H E I hf st hg
    subst hP hw hK
    obtain ⟨f0, f1, f2, f3, f4, f5⟩ := hf it (by simp)
    exact (hW X.A (I.ok.hd hc)).done s _ _ (by have e : i = x.length := hg; subst e; exact st) fun h' tk kk => ⟨rfl, I.turned (fun b o hb e => kk b o (by simpa using hb) e) f0 f1 f3 f4 f5⟩
  self := hself
section
variable {X : Cx} {tg : Expr}
def iStr (te : TE) : TI := fun σ H R => te σ H fun x H1 => ∃ z, x = .str z ∧ R (Its z) H1
theorem pi_str {e : Expr} {te : TE} (he : PE X e te) : PI X tg e (iStr te) := by
  intro pins s σ H R I h
  refine thn (he pins s σ H _ I h) fun v s1 ⟨x, H1, I1, r1, q1⟩ => ?_
  obtain ⟨z, e, q⟩ := q1
  subst e
  obtain ⟨t, rfl⟩ := r1
  have fr : H1 s1.heap.objs.size = none := I1.hok.fresh (Nat.le_refl _)
  cases ha : z.cps.all (· < 128)
  · refine wpAny_pyIter_wide ha ?_
    refine ⟨s1.heap.objs.size, [s1.heap.objs.size], fun i h => h.IsStrIter s1.heap.objs.size "str_iterator" z t i, _, H1, rfl, I1.kept (t' := s1.toks) fun b o e => Heap.get?_push_of_some _ e,
      turn_walks (fun A hA => Walks.strWide hA _ z t) (fun i h ⟨o, ho, _, hd⟩ => ⟨o, ho, fun v z => by rw [hd] at z; cases z⟩) (fun _ _ _ _ _ st hQ => wpAny_pyIter_striter_wide st hQ), ⟨_, Heap.get?_push_size _ rfl, rfl, rfl⟩, fun b hb => ?_, q⟩
    have e : b = s1.heap.objs.size := by simpa using hb
    subst e
    exact I1.fpOk (Nat.le_refl _) fr
  · refine wpAny_pyIter_ascii ha ?_
    refine ⟨s1.heap.objs.size, [s1.heap.objs.size], fun i h => h.IsStrIter s1.heap.objs.size "str_ascii_iterator" z t i, _, H1, rfl, I1.kept (t' := s1.toks) fun b o e => Heap.get?_push_of_some _ e,
      turn_walks (fun A hA => Walks.strAscii hA _ z t) (fun i h ⟨o, ho, _, hd⟩ => ⟨o, ho, fun v z => by rw [hd] at z; cases z⟩) (fun _ _ _ _ _ st hQ => wpAny_pyIter_striter_ascii st hQ), ⟨_, Heap.get?_push_size _ rfl, rfl, rfl⟩, fun b hb => ?_, q⟩
    have e : b = s1.heap.objs.size := by simpa using hb
    subst e
    exact I1.fpOk (Nat.le_refl _) fr
end
/-- what a for-statement asks, by a word for n turns -/
abbrev ForW (J : It) (g : TG) (tb : TS) (D : Ends) (σ : St) (H : Hp) : Prop :=
  ∃ W : Nat → Nat → St → Hp → Prop, (∃ m, W 0 m σ H) ∧ ∀ i m σ H, W i m σ H →
    (J.stop i H ∧ D.nx σ H) ∨ (J.go i H ∧ ∃ N : St → Hp → Prop, (∀ σ' H', N σ' H' → ∃ m', m' < m ∧ W (i + 1) m' σ' H') ∧ ∀ x H', J.yld i H x H' → g x σ H' fun σ2 H2 => tb { D with nx := N, ct := N, bk := D.nx } σ2 H2)
theorem for_n {J : It} {g : TG} {tb : TS} {D : Ends} {σ : St} {H : Hp} (n : Nat) (Pv : Nat → St → Hp → Prop) (h0 : Pv 0 σ H) (hst : ∀ σ H, Pv n σ H → J.stop n H) (hgo : ∀ i σ H, i < n → Pv i σ H → J.go i H)
    (hs : ∀ i σ H, i < n → Pv i σ H → ∀ x H', J.yld i H x H' → g x σ H' fun σ2 H2 => tb { D with nx := Pv (i + 1), ct := Pv (i + 1), bk := D.nx } σ2 H2) (hd : ∀ σ H, Pv n σ H → D.nx σ H) : ForW J g tb D σ H := by
  refine ⟨fun i m σ H => m = n - i ∧ i ≤ n ∧ Pv i σ H, ⟨n, by simp, Nat.zero_le _, h0⟩, ?_⟩
  rintro i m σ H ⟨rfl, hi, p⟩
  by_cases hlt : i < n
  · exact .inr ⟨hgo i σ H hlt p, Pv (i + 1), fun σ' H' p' => ⟨n - (i + 1), by omega, rfl, hlt, p'⟩, fun x H' y => hs i σ H hlt p x H' y⟩
  · have e : i = n := by omega
    subst e
    exact .inl ⟨hst σ H p, hd σ H p⟩
theorem for_str {x : Str} {g : TG} {tb : TS} {D : Ends} {σ : St} {H : Hp} (Pv : Nat → St → Hp → Prop) (h0 : Pv 0 σ H)
    (hs : ∀ i c σ H, x.cps[i]? = some c → Pv i σ H → g (.str ⟨#[c]⟩) σ H fun σ2 H2 => tb { D with nx := Pv (i + 1), ct := Pv (i + 1), bk := D.nx } σ2 H2) (hd : ∀ σ H, Pv x.length σ H → D.nx σ H) : ForW (Its x) g tb D σ H :=
  for_n x.length Pv h0 (fun _ _ _ => rfl) (fun _ _ _ hi _ => hi) (fun i σ H hi p v H' y => by
    obtain ⟨e, c, hc, ev⟩ := y
    subst e ev
    exact hs i c σ _ hc p) hd

/-! ### for over enumerate(a list) -/
end L2

set_option Elab.async false
set_option linter.all false
set_option maxRecDepth 100000
set_option maxHeartbeats 4000000
namespace L2
open PySem PySem.Spec PyProof.Rows

/-! ### enumerate -/
section
variable {X : Cx} {elts : List Expr} {x1 : Nat} {tpos : Pos}

/-! ### sorted(a dict of texts) -/

/-! ### t[lo:hi] of a tuple, the whole too -/
def rSlT2 (K : PySem.W.Frag) : V → Option Int → Option Int → Hp → VK → Prop := fun x lo hi H Q => ∃ a xs, x = .ref a ∧ SqT K H a xs ∧ ∀ v H', (v = .ref a ∧ H' = H ∧ cutV xs lo hi = xs) ∨ (∃ p, H p = none ∧ v = .ref p ∧ H' = upd H p (.tup (cutV xs lo hi))) → Q v H'
end
namespace AxT
variable {prog : Program} {w : World} {A : Around} {E : Value → Shared → Prop} {s : Shared}
open HT
theorem getItem_tuple_whole {t sl : Addr} {items : Array Value} {vl vu : Value} {lo hi : Option Int} {Q : Value → Shared → Prop} (ht : IsTup s.heap t items) (hs : s.heap.IsSliceOf sl vl vu .none) (pl : IsPart vl lo) (pu : IsPart vu hi)
    (hw : sIx items.size 0 lo = 0 ∧ sIx items.size items.size hi = items.size) (h : Q (.ref t) s) : wpAny (model prog w) A (getItem (.ref t) (.ref sl)) Q E s := by
  obtain ⟨os, hos, hcs, hds⟩ := id hs
  have hTs : s.TypeIs (.ref sl) "slice" := ⟨os, hos, hcs⟩
  unfold getItem
  try with_reducible refine wpAny_holding ?_
  first | refine wpAny_bind (wpAny_pure ?_) | skip
  refine wpAny_bind (wpAny_sequenceKey ht.typeIs (by decide) ?_)
  refine wpAny_bind (wpAny_callSpecial?_slot (name := Str.ofString "__getitem__") ht.typeIs PyProof.Rows.slot_tuple_getitem
    (wpAny_call_entry PyProof.Rows.slot_tuple_getitem ht.typeIs entry_tuple_getitem ?_ (args_tuple_getitem _ _)))
  show wpAny _ _ (Builtin.Tuple.tupleItemsOf (.ref t) >>= _) _ _ s
  refine wpAny_bind (tupleItemsOf_ ht ?_)
  refine wpAny_bind (wpAny_typeOf hTs ?_)
  rw [if_pos (by decide)]
  refine wpAny_bind (sliceApplied_gen hs pl pu ?_)
  have hyes : (((sIx items.size 0 lo : Nat) : Int) == 0 && (1 : Int) == 1 && (sIx items.size items.size hi - sIx items.size 0 lo) == items.size) = true := by
    rw [hw.1, hw.2]
    simp
  show wpAny _ _ (if (((sIx items.size 0 lo : Nat) : Int) == 0 && (1 : Int) == 1 && (sIx items.size items.size hi - sIx items.size 0 lo) == items.size) = true then _ else _) _ _ s
  rw [if_pos hyes]
  obtain ⟨o, ho, hc, n, hd⟩ := id ht
  refine wpAny_bind (m := Builtin.Tuple.tupleIsExact _) ?_
  unfold Builtin.Tuple.tupleIsExact
  refine wpAny_bind (wpAny_typeOf ht.typeIs (wpAny_pure ?_))
  rw [if_pos (by decide)]
  exact wpAny_bind (wpAny_rule (wpAny_pure ⟨_, rfl, wpAny_pure h⟩))
end AxT
section
variable {X : Cx}
theorem sl_tup2 : SlR X (rSlT2 X.K) := by
  intro pins s σ H x v vl vu lo hi sl Q I rx hs pl pu h
  obtain ⟨a, xs, rfl, hx, q⟩ := h
  cases rx
  obtain ⟨its, r, ht, hz⟩ := I.tuple hx
  have hlen : its.toArray.size = xs.length := by rw [List.size_toArray]; exact r.length.symm
  refine ⟨"tuple", _, PyProof.Rows.slot_tuple_getitem.lookup, ht.typeIs, ?_⟩
  by_cases hw : HT.sIx its.toArray.size 0 lo = 0 ∧ HT.sIx its.toArray.size its.toArray.size hi = its.toArray.size
  · refine AxT.getItem_tuple_whole ht hs pl pu hw ⟨.ref a, H, I, rfl, q _ _ (.inl ⟨rfl, rfl, ?_⟩)⟩
    rw [hlen] at hw
    unfold cutV
    rw [hw.1, hw.2]
    simp
  · refine HT.getItem_tuple_cut ht hs pl pu hw ?_ (by rw [hlen]; exact hz)
    rw [hlen]
    refine ⟨.ref s.heap.objs.size, _, I.laid (t' := s.toks) (o := .tup (cutV xs lo hi)) (fun b ob q => Heap.get?_push_of_some _ q) (Nat.le_refl _) ?_, rfl, q _ _ (.inr ⟨_, I.hok.fresh (Nat.le_refl _), rfl, rfl⟩)⟩
    exact ⟨Nat.le_trans (cutV_length xs lo hi) hz, _, (r.drop (HT.sIx xs.length 0 lo)).take (HT.sIx xs.length xs.length hi - HT.sIx xs.length 0 lo), IsTup.new _ _⟩

/-! ### calls of the text's own defs, by one fact each -/
/-- a def of the text: its promise, and how it is called -/
structure Cal (P : Program) (w : World) (K : PySem.W.Frag) (mg : Str → Option Value) (base : Heap) (k : Nat) (x : Str) (ps : List Str) (sp : Sp) : Prop where
  ex : ∃ (f : Addr) (fd : FuncData), FnOk P w K mg base CX0 k f fd ps sp ∧ mg x = some (.ref f) ∧ PySem.W.keepIn K (.ref f) = true ∧ Binds K fd ps []
theorem pe_callC {k : Nat} {x : Str} {ps : List Str} {sp : Sp} {e : Expr} {es : List Expr} {t : TA} {p pos : Pos} (C : Cal X.prog X.w X.K X.mg X.base k x ps sp) (hr : Room k X.A) (ha : PA X (e :: es) t) (hg : Gl X x := by rfl)
    (hdb : (x == ("__debug__" : Str)) = false := by decide) (he : starEach (e :: es) X.env = (false, eval e X.env) :: starEach es X.env := by rfl) (hpl : (backTo pos (starEach es X.env)).any (·.1) = false := by rfl) :
    PE X (.Call (.Name x p) (e :: es) [] pos) (tCall sp [] E0 t) := by
  obtain ⟨f, fd, F, hm, hk, hb⟩ := C.ex
  exact pe_call F hr hg hm hk hb .nil pass0 ha hdb he hpl
theorem Cal.mk' {P : Program} {w : World} {K : PySem.W.Frag} {mg : Str → Option Value} {base : Heap} {k : Nat} {x qual : Str} {st : Stmt} {f : Addr} {fd : FuncData} {ps : List Str} {sp : Sp} (F : Fun K x qual st f fd) (G : FnOk P w K mg base CX0 k f fd ps sp) (hm : mg x = some (.ref f))
    (b : Binds K fd ps []) : Cal P w K mg base k x ps sp := ⟨f, fd, G, hm, F.kp, b⟩

/-! ### an item of a dict of the text's top -/
def KD (P : Program) (w : World) (K : PySem.W.Frag) (a : Addr) (kvs : List (Key × V)) : Prop := ∀ h : Heap, K.In h → ∃ vs, KV kvs vs ∧ h.DictOf (mixKind P w) a vs
def tKGet (P : Program) (w : World) (K : PySem.W.Frag) (td ty : TE) : TE := fun σ H Q => td σ H fun x H1 => ty σ H1 fun y H2 => ∃ a kvs k v, x = .ref a ∧ y = kV k ∧ KD P w K a kvs ∧ valV kvs k = some v ∧ Q v H2
theorem pe_kget {o i : Expr} {td ty : TE} {pos : Pos} (ho : PE X o td) (hi : PE X i ty) (hs : NoSl i) : PE X (.Subscript o i pos) (tKGet X.prog X.w X.K td ty) := by
  intro pins s σ H Q I h
  refine subD_of PySem.F.slot_dict_getitem.lookup hs (thn (ho pins s σ H _ I h) fun u s1 ⟨x, H1, I1, rx, q1⟩ => thn (hi pins s1 σ H1 _ I1 q1) fun iv s2 ⟨y, H2, I2, ry, a, kvs, k, v, ex, ey, kd, l, q2⟩ => ?_)
  subst ex ey
  obtain rfl : u = Value.ref a := rx
  obtain ⟨vs, rel, dd⟩ := kd _ I2.kIn
  obtain ⟨w', hw, rw'⟩ := RelO.some_of (v := v) (o := valueAt vs k) (by rw [← l]; exact rel.val k)
  exact ⟨dd.typeIs, wpAny_getItem_of (kV_is ry) dd.mapOf hw ⟨v, H2, I2.tok _, rw', q2⟩⟩

/-! ### isinstance(x, T), T a builtin type -/
theorem call_isinst : CallR X (.builtin "isinstance") (fun xs H Q => ∃ y T t b, xs = [y, .ty T] ∧ TyOf X.K H y t ∧ PySem.W.kitOne X.K t (.type T) = some b ∧ Q (.bl b) H) := by
  intro pins s σ H xs us Q I r h
  obtain ⟨y, T, t, b, rfl, ty, kt, q⟩ := h
  obtain ⟨u, w', rfl, ru, rw'⟩ := vals2 r
  cases (show w' = Value.type T from rw')
  exact isinst_ok I ru ty kt fun tk => ⟨.bl b, H, I.tok _, rfl, q⟩
end
end L2

set_option Elab.async false
set_option linter.all false
set_option maxRecDepth 100000
set_option maxHeartbeats 4000000
/-! exceptions over the hand layer: raise of an own class, a call that may raise, try with one clause -/
namespace L2
open PySem PySem.Spec PyProof.Rows



section
variable {X : Cx} {pins : List (Addr × Obj)} {σ : St} {H : Hp} {s : Shared}

end

/-! ### raise C(..) -/
/-- an own class of exceptions, straight or by way of others under B, without an __init__ of its own -/
theorem exc_of_in {K : PySem.W.Frag} {h : Heap} {C : Addr} {bmB : List Value} {newId : String} (X : K.In h) (q : PySem.W.excIn K C bmB newId = true) :
    ∃ bm N nm q bs hdct sn sub ab col dd k0 k1 k2 k3 k5 mN, h.get? C = some (excClassObj nm q C N bs bm hdct sn sub ab col dd k0 k1 k2 k3 k5 newId) ∧ h.Ns N mN ∧ mN "__init__" = none ∧ OwnTail h bmB bm := by
  unfold PySem.W.excIn at q
  split at q
  · rename_i dd cd sl ho
    split at q
    · rename_i C' bm k0 k1 k2 k3 n k5 hm hs
      simp only [Bool.and_eq_true, beq_iff_eq, Bool.not_eq_true'] at q
      obtain ⟨⟨⟨⟨⟨rfl, rfl⟩, hdel⟩, ht⟩, hok⟩, hni⟩ := q
      obtain ⟨nm, bs, mro, ns, qn, hd, sn, sub, ab, col, del⟩ := cd
      dsimp only at hm hdel hok hni
      subst hm hdel
      have hsl : sl = #[k0, k1, k2, k3, some (.builtin n), k5] := by
        obtain ⟨l⟩ := sl
        simp only at hs
        rw [hs]
      subst hsl
      exact ⟨bm, ns, nm, qn, bs, hd, sn, sub, ab, col, dd, k0, k1, k2, k3, k5, _, X _ _ ho, .of_isNs (PySem.W.isNs_of_in X hok), PySem.W.nsMap_none_of_in X hok hni, PySem.W.tail_of_in X ht⟩
    · cases q
  · cases q
abbrev mroVE : List Value := [.type "ValueError", .type "Exception", .type "BaseException", .type "object"]
/-- what is wanted where an exception is made here -/
def Throws (X : Cx) (R : St → Hp → Value → Prop) : Prop := ∀ (pins : List (Addr × Obj)) (σ : St) (H : Hp) (s : Shared) (e : Addr) (cls : Value) (args : List Value) (h' : Heap), Inv X pins σ H s → Heap.MadeExcOf s.heap h' e cls args → R σ H cls → X.xe (.ref e) { s with heap := h' }
def tRaise (C : Addr) (R : St → Hp → Value → Prop) (t : TA) : TS := fun _ σ H => t σ H fun vs H1 => vs.length ≤ sizeLine ∧ R σ H1 (.ref C)
section
variable {X : Cx}
theorem ps_raise {x : Str} {C : Addr} {e₀ : Expr} {rest : List Expr} {np cpos pos : Pos} {R : St → Hp → Value → Prop} {t : TA} (hc : X.calm = true) (ht : Throws X R) (hg : Gl X x) (hm : X.mg x = some (.ref C)) (hex : PySem.W.excIn X.K C mroVE "ValueError.__new__" = true) (ha : PA X (e₀ :: rest) t)
    (he : starEach (e₀ :: rest) X.env = (false, eval e₀ X.env) :: starEach rest X.env := by rfl) (hplain : (backTo cpos (starEach rest X.env)).any (·.1) = false := by rfl) (hd : (x == ("__debug__" : Str)) = false := by decide) :
    PS X (.Raise (some (.Call (.Name x np) (e₀ :: rest) [] cpos)) none pos) (tRaise C R t) := by
  intro pins s σ H D I h
  obtain ⟨tl, N, nm, q, bs, hdct, sn, sub, ab, col, dd, k0, k1, k2, k3, k5, mN, hC, hN, hni, T⟩ := exc_of_in I.ok.mod.kin hex
  refine wpAny_Raise_call_subU (C := C) (nm := nm) (q := q) (N := N) (bs := bs) (bm := tl) (hdct := hdct) (sn := sn) (sub := sub) (ab := ab) (col := col) (dd := dd) (k0 := k0) (k1 := k1) (k2 := k2) (k3 := k3) (k5 := k5)
    F.excBase_ValueError (by decide +kernel) F.excBase_ValueError (mN := mN) (T.hasType F.excBase_ValueError.hasBase) (I.ok.hd hc) (by rw [he]; show (false || (backTo cpos (starEach rest X.env)).any (·.1)) = false; rw [hplain]; rfl) hni (ld_glob I hg hm ⟨rfl, ?_⟩ hd)
  have ha' := ha cpos pins s σ H _ I h
  rw [he] at ha' ⊢
  exact Calls.evalArgs_plain (wpAny_mono ha' (fun us s₂ ⟨vs, H2, I2, r2, z2, q2⟩ => ⟨rfl, by rw [← r2.length]; exact z2, I2.bk _ _ hC, hN.keeps I2.bk, T.keeps I2.bk, fun h' e hm' => ht pins σ H2 s₂ e _ _ h' I2 hm' q2⟩) fun _ _ y => y)
end

/-! ### a call that may raise -/
section
variable {X : Cx} {k : Nat} {f : Addr} {fd : FuncData} {ps : List Str} {sp : Sp} {x : Str} {p pos : Pos} {e : Expr} {es : List Expr} {t : TA} {R : St → Hp → Value → Prop}
end
end L2

set_option Elab.async false
set_option linter.all false
set_option maxRecDepth 100000
set_option maxHeartbeats 4000000
namespace L2
open PySem PySem.Spec PyProof.Rows

section
variable {X : Cx} {pins pins' : List (Addr × Obj)} {σ : St} {H : Hp} {s : Shared} {h' : Heap} {R : St → Hp → Value → Prop}


end

section
variable {X : Cx}
/-! a clause without a name, the first of any number -/
end
end L2

set_option Elab.async false
set_option linter.all false
set_option maxRecDepth 100000
set_option maxHeartbeats 4000000
namespace L2
open PySem PySem.Spec PyProof.Rows
section
variable {P : Program} {w : World} {K : PySem.W.Frag} {mg : Str → Option Value} {base : Heap}
end
end L2

set_option Elab.async false
set_option linter.all false
set_option maxRecDepth 100000
set_option maxHeartbeats 4000000
namespace L2
open PySem PySem.Spec PyProof.Rows
/-! rules that name the fragment: for a comprehension's block -/
section
variable {X : Cx} {a : Expr} {ta : TE} {K : PySem.W.Frag}
def tTru (K : PySem.W.Frag) (ta : TE) : TT := fun σ H Q => ta σ H fun x H' => ∃ k, TruV K x H' k ∧ Q k H'
theorem pt_truthK (ha : PE X a ta) (he : ∀ whole, isTrue a X.env whole = (do let v ← whole; standAt a.pos; holding [v] (truthy v))) (hK : X.K = K := by rfl) : PT X a (tTru K ta) := by
  subst hK
  exact pt_truth ha he
def rIsi (K : PySem.W.Frag) : List V → Hp → VK → Prop := fun xs H Q => ∃ y T t b, xs = [y, .ty T] ∧ TyOf K H y t ∧ PySem.W.kitOne K t (.type T) = some b ∧ Q (.bl b) H
theorem call_isinstK (hK : X.K = K := by rfl) : CallR X (.builtin "isinstance") (rIsi K) := by
  subst hK
  exact call_isinst
end
end L2
/-! texts, lists of texts, heaps: what every law's text wants -/
namespace An
open PySem L2

abbrev cs (x : Str) : List Nat := x.cps.toList
theorem cs_inj {x y : Str} (h : cs x = cs y) : x = y := by
  obtain ⟨a⟩ := x
  obtain ⟨b⟩ := y
  have : a = b := by simpa using h
  rw [this]
theorem cs_append (x y : Str) : cs (x ++ y) = cs x ++ cs y := by
  show (x.cps ++ y.cps).toList = _
  simp
theorem length_cs (x : Str) : x.length = (cs x).length := by simp [Str.length]
theorem len_append (x y : Str) : (x ++ y).length = x.length + y.length := by rw [length_cs, length_cs, length_cs, cs_append, List.length_append]
theorem cs_joinNil : ∀ xs : List Str, cs (Str.join "" xs) = xs.flatMap cs
  | [] => rfl
  | [x] => by show cs x = _; simp
  | x :: y :: r => by
    show cs (x ++ "" ++ Str.join "" (y :: r)) = _
    have : cs ("" : Str) = [] := by decide +kernel
    rw [cs_append, cs_append, cs_joinNil (y :: r), this, List.append_nil]
    simp
theorem eqv_strs : ∀ (a b : List Str), PyData.eqvAll (a.map .str) (b.map .str) = decide (a = b)
  | [], [] => rfl
  | [], _ :: _ => rfl
  | _ :: _, [] => rfl
  | x :: a, y :: b => by
    show ((x == y) && PyData.eqvAll (a.map .str) (b.map .str)) = _
    rw [eqv_strs a b, Bool.eq_iff_iff]
    simp
/-! ### texts that are small and good -/
structure Ok (n : Nat) (x : Str) : Prop where
  len : x.length ≤ n
  ok : PyData.strOk x = true
theorem strOk_iff (x : Str) : PyData.strOk x = true ↔ ∀ c ∈ cs x, c < 1114112 := by
  unfold PyData.strOk
  rw [← Array.all_toList, List.all_eq_true]
  simp
theorem lay_strs : ∀ ls : List Str, (∀ p ∈ ls, PyData.strOk p = true) → PyData.canLayAll0 (ls.map .str) = true ∧ PyData.depthAll (ls.map .str) = 0
  | [], _ => ⟨rfl, rfl⟩
  | x :: ls, h => by
    obtain ⟨h1, h2⟩ := lay_strs ls fun p hp => h p (List.mem_cons_of_mem _ hp)
    refine ⟨?_, ?_⟩
    · show (PyData.strOk x && PyData.canLayAll0 (ls.map .str)) = true
      rw [h x List.mem_cons_self, h1]; rfl
    · show max 0 (PyData.depthAll (ls.map .str)) = 0
      rw [h2]; rfl
theorem shaped_strs {ls : List Str} (h : ∀ p ∈ ls, PyData.strOk p = true) : SeqAt.shaped (.list (ls.map .str)) = true ∧ SeqAt.shaped (.tuple (ls.map .str)) = true := by
  obtain ⟨h1, h2⟩ := lay_strs ls h
  refine ⟨?_, ?_⟩
  · show (PyData.canLayAll0 (ls.map .str) && decide (PyData.depthAll (ls.map .str) + 1 ≤ 64)) = true
    rw [h1, h2]; rfl
  · show (PyData.canLayAll0 (ls.map .str) && decide (PyData.depthAll (ls.map .str) + 1 ≤ 64)) = true
    rw [h1, h2]; rfl
theorem same_upd {H : Hp} {l : Addr} {o : HO} (h : H l = none) : Same H (upd H l o) := fun b u e => by rw [upd_ne (ne_of_none e h)]; exact e
theorem Same.updF {H H2 : Hp} {l : Addr} {o : HO} (e : Same H H2) (n : H l = none) : Same H (upd H2 l o) := fun b u q => by rw [upd_ne (ne_of_none q n)]; exact e b u q
theorem le_line {n : Nat} (h : n ≤ 16777216) : n ≤ sizeLine := by rw [sizeLine_eq]; exact h
theorem lt_line {n : Nat} (h : n < 16777216) : n < sizeLine := by rw [sizeLine_eq]; exact h
theorem atI_zero {α : Type} (x : α) (r : List α) : atI (x :: r) 0 = some x := atI_nat (j := 0) rfl
theorem lineN (n : Nat) (h : n ≤ 16777216 := by decide) : n ≤ sizeLine := le_line h
theorem sum_le {n : Nat} : ∀ (ys : List Str), (∀ y ∈ ys, y.length ≤ n) → (ys.map (·.length)).sum ≤ ys.length * n
  | [], _ => by simp
  | y :: ys, h => by
    have h1 := sum_le ys fun z hz => h z (List.mem_cons_of_mem _ hz)
    have h2 := h y List.mem_cons_self
    rw [List.map_cons, List.sum_cons, List.length_cons, Nat.succ_mul]
    omega
theorem mem_snoc {α : Type} {p : α → Prop} {l : List α} {x : α} (h : ∀ y ∈ l, p y) (hx : p x) : ∀ y ∈ l ++ [x], p y := fun y hy => by
  rcases List.mem_append.mp hy with z | z
  · exact h y z
  · rw [List.mem_singleton.mp z]; exact hx
/-! ### an item by a place that is an int -/
theorem at_map {α : Type} {f : α → V} {xs : List α} {i : Int} (h0 : 0 ≤ i) (h1 : i < xs.length) : ∃ x, xs[i.toNat]? = some x ∧ atI (xs.map f) i = some (f x) := by
  obtain ⟨j, rfl⟩ := Int.eq_ofNat_of_zero_le h0
  have hj : j < xs.length := by omega
  refine ⟨xs[j], by simp [hj], atI_nat ?_⟩
  rw [List.getElem?_map, List.getElem?_eq_getElem hj]; rfl
theorem cut_to {xs : List V} {i : Int} (h0 : 0 ≤ i) : cutV xs none (some i) = xs.take i.toNat := by
  obtain ⟨j, rfl⟩ := Int.eq_ofNat_of_zero_le h0
  unfold cutV
  rw [HT.sIx_none, HT.sIx_nat, List.drop_zero]
  show xs.take (min j xs.length - 0) = xs.take j
  by_cases h : j ≤ xs.length
  · rw [Nat.min_eq_left h]; rfl
  · rw [Nat.min_eq_right (by omega), Nat.sub_zero, List.take_length, List.take_of_length_le (by omega)]
theorem cut_from {xs : List V} {i : Int} (h0 : 0 ≤ i) : cutV xs (some i) none = xs.drop i.toNat := by
  obtain ⟨j, rfl⟩ := Int.eq_ofNat_of_zero_le h0
  unfold cutV
  rw [HT.sIx_none, HT.sIx_nat]
  show (xs.drop (min j xs.length)).take (xs.length - min j xs.length) = xs.drop j
  by_cases h : j ≤ xs.length
  · rw [Nat.min_eq_left h]
    exact List.take_of_length_le (by rw [List.length_drop]; omega)
  · rw [Nat.min_eq_right (by omega), List.drop_eq_nil_of_le (Nat.le_refl _), List.drop_eq_nil_of_le (by omega)]; simp
/-! ### heaps that keep all but lists -/
theorem kit_same (K : PySem.W.Frag) (T : String) : PySem.W.kitOne K (.type T) (.type T) = some true := by
  unfold PySem.W.kitOne
  rw [if_pos (by simp)]
/-! ### texts of drawn signs -/
end An

set_option Elab.async false
set_option linter.all false
set_option maxRecDepth 100000
set_option maxHeartbeats 4000000
/-! more rules: range(a, b, -1) -/
namespace L2
open PySem PySem.Spec PyProof.Rows

section
variable {X : Cx} {tg : Expr}
end
end L2

set_option Elab.async false
set_option linter.all false
set_option maxRecDepth 100000
set_option maxHeartbeats 4000000
/-! tuples: +, * -/
namespace AxT
open PySem PySem.Spec PyProof.Rows PySem.SeqAt
open AutoSeq1 (wpAny_loadPart')
end AxT
namespace L2
open PySem PySem.Spec PyProof.Rows
section
variable {X : Cx}
end
end L2

set_option Elab.async false
set_option linter.all false
set_option maxRecDepth 100000
set_option maxHeartbeats 4000000
/-! reversed(a tuple), walked -/
namespace AxR
open PySem PySem.Spec PyProof.Rows
open AutoSeq1 (wpAny_loadPart')
section
variable {prog : Program} {w : World} {A : Around} {E : Value → Shared → Prop} {s : Shared}
end
end AxR
namespace L2
open PySem PySem.Spec PyProof.Rows
section
variable {X : Cx} {tg : Expr}
end
end L2

set_option Elab.async false
set_option linter.all false
set_option maxRecDepth 100000
set_option maxHeartbeats 4000000
/-! more rules: <= of texts, all([..]) of truth values -/
namespace L2
open PySem PySem.Spec PyProof.Rows
section
variable {X : Cx} {K : PySem.W.Frag}
def rLeS : R2 := fun x y H Q => ∃ i j : Str, x = .str i ∧ y = .str j ∧ Q (.bl (!decide (j.cps.toList < i.cps.toList))) H
theorem op_leS : OpR X (compareOp .LtE) rLeS := by
  intro pins s σ H x y v u Q I rx ry h
  obtain ⟨i, j, rfl, rfl, q⟩ := h
  obtain ⟨t, rfl⟩ := rx
  obtain ⟨t', rfl⟩ := ry
  exact P.le_str ⟨.bl _, H, I, rfl, q⟩
theorem vals_bl : ∀ {bs : List Bool} {us : List Value}, Vals (bs.map V.bl) us → us = bs.map Value.bool
  | [], us, h => by cases h; rfl
  | b :: bs, us, h => by
    cases h with
    | cons r1 r2 => rw [vals_bl r2]; cases r1; rfl
def rAll (K : PySem.W.Frag) : List V → Hp → VK → Prop := fun xs H Q => ∃ (a : Addr) (bs : List Bool), xs = [.ref a] ∧ SqL K H a (bs.map V.bl) ∧ Q (.bl (bs.all id)) H
theorem call_all (hc : X.calm = true) (hK : X.K = K := by rfl) : CallR X (.builtin "all") (rAll K) := by
  subst hK
  intro pins s σ H xs us Q I r h
  obtain ⟨a, bs, rfl, ha, q⟩ := h
  obtain ⟨u, rfl, ru⟩ := vals1 r
  cases ru
  obtain ⟨its, rv, pl, hz⟩ := I.list ha
  have ei := vals_bl rv
  have hl := pl.isList
  have hlt : a < s.heap.objs.size := by obtain ⟨_, e, _⟩ := hl; exact Heap.lt_size e
  refine call_all_walk (wpAny_pyIter_list hl ?_)
  refine ⟨s.heap.objs.size, [s.heap.objs.size, a], [s.heap.objs.size], its.toArray.size, _, _, fun i => (bs[i]?).getD true, rfl, Walks.list (A := X.A.in1) (I.ok.hd hc) _ a (Nat.ne_of_lt hlt) its.toArray,
    ⟨⟨_, Heap.get?_push_size _ rfl, rfl, rfl⟩, hl.push _⟩, fun i v s' Q' E' hP hQ => ?_, fun h' tk hk => ?_⟩
  · have hP : its[i]? = some v := by simpa using hP
    rw [ei, List.getElem?_map] at hP
    cases e : bs[i]? with
    | none => rw [e] at hP; cases hP
    | some b =>
      rw [e] at hP
      have hP : Value.bool b = v := Option.some.inj hP
      subst hP
      simp only [e, Option.getD_some] at hQ
      exact wpAny_truthy_bool hQ
  · have hlen : its.length = bs.length := by rw [ei, List.length_map]
    have e : ((List.range its.toArray.size).all fun i => (bs[i]?).getD true) = bs.all id := by
      rw [List.size_toArray, hlen]; exact PyProof.Rows.LSm.range_all bs
    rw [e]
    exact ⟨.bl _, H, I.kept (PyProof.Rows.LSm.kept_iter hk), rfl, q⟩
end
/-! ### any datum, also with dicts in it that are not read -/
mutual
def Dw (K : PySem.W.Frag) (H : Hp) : PyData → V → Prop
  | .none, v => v = .non
  | .bool b, v => v = .bl b
  | .int i, v => v = .int i
  | .str x, v => v = .str x
  | .list ds, v => ∃ a xs, v = .ref a ∧ SqL K H a xs ∧ DwAll K H ds xs
  | .tuple ds, v => ∃ a xs, v = .ref a ∧ SqT K H a xs ∧ DwAll K H ds xs
  | .dict _, v => ∃ a kvs, v = .ref a ∧ H a = some (.dK kvs)
def DwAll (K : PySem.W.Frag) (H : Hp) : List PyData → List V → Prop
  | [], xs => xs = []
  | d :: ds, xs => ∃ x r, xs = x :: r ∧ Dw K H d x ∧ DwAll K H ds r
end
mutual
theorem Dw.same {K : PySem.W.Frag} {H H' : Hp} (e : Same H H') : ∀ (d : PyData) (v : V), Dw K H d v → Dw K H' d v
  | .none, _, h => h
  | .bool _, _, h => h
  | .int _, _, h => h
  | .str _, _, h => h
  | .list ds, _, ⟨a, xs, h1, h2, h3⟩ => ⟨a, xs, h1, e.seq h2, DwAll.same e ds xs h3⟩
  | .tuple ds, _, ⟨a, xs, h1, h2, h3⟩ => ⟨a, xs, h1, e.tupS h2, DwAll.same e ds xs h3⟩
  | .dict _, _, ⟨a, kvs, h1, h2⟩ => ⟨a, kvs, h1, e _ _ h2⟩
theorem DwAll.same {K : PySem.W.Frag} {H H' : Hp} (e : Same H H') : ∀ (ds : List PyData) (xs : List V), DwAll K H ds xs → DwAll K H' ds xs
  | [], _, h => h
  | d :: ds, _, ⟨x, r, h1, h2, h3⟩ => ⟨x, r, h1, Dw.same e d x h2, DwAll.same e ds r h3⟩
end
mutual
theorem Dt.dw {K : PySem.W.Frag} {H : Hp} : ∀ {d : PyData} {v : V}, Dt K H d v → Dw K H d v
  | .none, _, h => h
  | .bool _, _, h => h
  | .int _, _, h => h
  | .str _, _, h => h
  | .list ds, _, ⟨a, xs, h1, h2, h3⟩ => ⟨a, xs, h1, h2, DtAll.dw h3⟩
  | .tuple ds, _, ⟨a, xs, h1, h2, h3⟩ => ⟨a, xs, h1, h2, DtAll.dw h3⟩
  | .dict _, _, h => h.elim
theorem DtAll.dw {K : PySem.W.Frag} {H : Hp} : ∀ {ds : List PyData} {xs : List V}, DtAll K H ds xs → DwAll K H ds xs
  | [], _, h => h
  | d :: ds, _, ⟨x, r, h1, h2, h3⟩ => ⟨x, r, h1, Dt.dw h2, DtAll.dw h3⟩
end
theorem DwAll.length {K : PySem.W.Frag} {H : Hp} : ∀ {ds : List PyData} {xs : List V}, DwAll K H ds xs → xs.length = ds.length
  | [], _, h => by rw [show _ = [] from h]; rfl
  | d :: ds, _, ⟨x, r, h1, h2, h3⟩ => by rw [h1, List.length_cons, List.length_cons, DwAll.length h3]
theorem DwAll.get {K : PySem.W.Frag} {H : Hp} : ∀ {ds : List PyData} {xs : List V} {i : Nat} {x : V}, DwAll K H ds xs → xs[i]? = some x → ∃ d, ds[i]? = some d ∧ Dw K H d x
  | [], _, i, x, h, e => by rw [show _ = [] from h] at e; cases e
  | d :: ds, _, 0, x, ⟨x', r, h1, h2, h3⟩, e => by
    rw [h1] at e
    cases e
    exact ⟨d, rfl, h2⟩
  | d :: ds, _, i + 1, x, ⟨x', r, h1, h2, h3⟩, e => by
    rw [h1] at e
    obtain ⟨d', e1, e2⟩ := DwAll.get (i := i) h3 (by simpa using e)
    exact ⟨d', by simpa using e1, e2⟩
def nameD : PyData → String
  | .none => "NoneType"
  | .bool _ => "bool"
  | .int _ => "int"
  | .str _ => "str"
  | .list _ => "list"
  | .tuple _ => "tuple"
  | .dict _ => "dict"
section
variable {X : Cx} {pins : List (Addr × Obj)} {σ : St} {H : Hp} {s : Shared} {A : Around} {E : Value → Shared → Prop} {Q : Value → Shared → Prop} {c : Value} {b : Bool} {K : PySem.W.Frag}
theorem isinst_dw {x : V} {u : Value} {d : PyData} (I : Inv X pins σ H s) (rx : RelV x u) (hd : Dw X.K H d x) (e : PySem.W.kitOne X.K (.type (nameD d)) c = some b) (h : ∀ tk, Q (.bool b) { s with toks := tk }) :
    wpAny (model X.prog X.w) A (call (.builtin "isinstance") [u, c]) Q E s := by
  cases d with
  | none => cases (show x = _ from hd); exact isinst_ok I rx .non e h
  | bool y => cases (show x = _ from hd); exact isinst_ok I rx (.bl y) e h
  | int i => cases (show x = _ from hd); exact isinst_ok I rx (.int i) e h
  | str y => cases (show x = _ from hd); exact isinst_ok I rx (.str y) e h
  | dict kvs => obtain ⟨a, ks, rfl, ea⟩ := hd; exact isinst_ok I rx (.dK ea) e h
  | list ds =>
    obtain ⟨a, xs, rfl, hs, _⟩ := hd
    cases (show u = Value.ref a from rx)
    obtain ⟨its, _, ⟨o, n, h1, h2, _⟩, _⟩ := I.list hs
    exact PySem.W.kia_one PySem.W.kitx_list I.kIn ⟨o, h1, h2⟩ e (fun z => nomatch z) h
  | tuple ds =>
    obtain ⟨a, xs, rfl, hs, _⟩ := hd
    cases (show u = Value.ref a from rx)
    obtain ⟨its, _, p, _⟩ := I.tuple hs
    obtain ⟨o, h1, h2, _⟩ := p
    exact PySem.W.kia_one PySem.W.kitx_tuple I.kIn ⟨o, h1, h2⟩ e (fun z => nomatch z) h
def rIsiD (K : PySem.W.Frag) : List V → Hp → VK → Prop := fun xs H Q => ∃ y T d b, xs = [y, .ty T] ∧ Dw K H d y ∧ PySem.W.kitOne K (.type (nameD d)) (.type T) = some b ∧ Q (.bl b) H
theorem call_isinstD (hK : X.K = K := by rfl) : CallR X (.builtin "isinstance") (rIsiD K) := by
  subst hK
  intro pins s σ H xs us Q I r h
  obtain ⟨y, T, d, b, rfl, hd, kt, q⟩ := h
  obtain ⟨u, w', rfl, ru, rw'⟩ := vals2 r
  cases (show w' = Value.type T from rw')
  exact isinst_dw I ru hd kt fun tk => ⟨.bl b, H, I.tok _, rfl, q⟩
end
section
variable {src : List (Option Nat)} {g : TG} {te : TE} {Q : VK} {σ : St} {H : Hp}
theorem comp_str0 {x : Str} (Pv : Nat → List V → St → Hp → Prop) (h0 : Pv 0 [] (srcSt src σ) H) (hz : x.length ≤ sizeLine) (hl : ∀ i ys σ H, i ≤ x.length → Pv i ys σ H → ys.length ≤ i)
    (hs : ∀ i c ys σ H, x.cps[i]? = some c → Pv i ys σ H → g (.str ⟨#[c]⟩) σ H fun σ2 H3 => te σ2 H3 fun y H5 => Pv (i + 1) (ys ++ [y]) σ2 H5)
    (hd : ∀ ys σ H, Pv x.length ys σ H → ∀ p, H p = none → Q (.ref p) (upd H p (.lst ys))) : CompW src (Its x) g tfNil te Q σ H :=
  comp_n x.length Pv h0 hz hl (fun _ _ _ _ => rfl) (fun _ _ _ _ hi _ => hi)
    (fun i ys σ H hi p x' H2 y => by
      obtain ⟨e, c, hc, rfl⟩ := y
      subst e
      rw [noTest]
      exact hs i c ys σ _ hc p) hd
end
end L2

set_option Elab.async false
set_option linter.all false
set_option maxRecDepth 100000
set_option maxHeartbeats 4000000
/-! more rules: a < b < c < d, text * number, in a list or tuple of data, sum of a list of numbers, reversed(a list) -/
namespace L2
open PySem PySem.Spec PyProof.Rows
section
variable {X : Cx} {K : PySem.W.Frag} {a b c d : Expr} {ta tb tc td : TE} {pos : Pos}
def rMulS : R2 := fun x y H Q => ∃ (i : Str) (n : Int), x = .str i ∧ y = .int n ∧ MulOk i n ∧ Q (.str (Txt.mul i n)) H
theorem op_mulS : OpR X (binaryOp .Mult) rMulS := by
  intro pins s σ H x y v u Q I rx ry h
  obtain ⟨i, n, rfl, rfl, ok, q⟩ := h
  obtain ⟨t, rfl⟩ := rx
  obtain ⟨t', rfl⟩ := ry
  exact SB.mul ok fun t' k => ⟨.str _, H, I.tok _, ⟨_, rfl⟩, q⟩
def rInD (K : PySem.W.Frag) (tup neg : Bool) : R2 := fun x y H Q => ∃ (d : PyData) (xs : List PyData), Dt K H d x ∧ Dt K H (if tup then .tuple xs else .list xs) y ∧ PyData.canLayAll0 xs = true ∧ d.canLay0 = true ∧ d.depth ≤ 60 ∧ Q (.bl (neg != xs.any fun y => PyData.eqv y d)) H
theorem op_inD (hu : X.A.units + 64 < cLine) (hK : X.K = K := by rfl) : OpR X (compareOp .In) (rInD K false false) := by
  subst hK
  intro pins s σ H x y v u Q I rx ry h
  obtain ⟨d, xs, h1, h2, h3, h4, h5, q⟩ := h
  obtain ⟨as, r1⟩ := Dt.reads I d x v h1 rx
  obtain ⟨bs, r2⟩ := Dt.reads I _ y u h2 ry
  have hm : min (PyData.depthAll xs) d.depth ≤ d.depth := Nat.min_le_right _ _
  exact SeqAt.in_list_reads r2 r1 h3 h4 (by omega) ⟨.bl _, H, I, rfl, by simpa using q⟩
end
section
variable {X : Cx} {tg : Expr}
end
end L2

set_option Elab.async false
set_option linter.all false
set_option maxRecDepth 100000
set_option maxHeartbeats 4000000
/-! an exception of a call that goes on through the def; a list with a tuple's items put behind it -/
namespace L2
open PySem PySem.Spec PyProof.Rows
section
variable {X : Cx} {pins : List (Addr × Obj)} {σ : St} {H : Hp} {s : Shared}
end
section
variable {X : Cx}
end
end L2

set_option Elab.async false
set_option linter.all false
set_option maxRecDepth 100000
set_option maxHeartbeats 4000000
/-! tuples of texts and of such tuples as keys of a dict -/
namespace L2
open PySem PySem.Spec PyProof.Rows
instance : DecidableEq PyData := fun a b => decidable_of_iff _ (same_iff (a := a) (b := b))
mutual
def txtT : PyData → Bool
  | .str x => PyData.strOk x
  | .tuple ds => txtAll ds
  | _ => false
def txtAll : List PyData → Bool
  | [] => true
  | d :: ds => txtT d && txtAll ds
end
mutual
def depT : PyData → Nat
  | .tuple ds => depAll ds + 1
  | _ => 0
def depAll : List PyData → Nat
  | [] => 0
  | d :: ds => max (depT d) (depAll ds)
end
mutual
/-- the value reads as this -/
def RdT (h : Heap) : PyData → Value → Prop
  | .str x, v => ∃ t, v = .str x t
  | .tuple ds, v => ∃ a o vs n, v = .ref a ∧ h.get? a = some o ∧ o.cls = .type "tuple" ∧ o.data = .seq vs n ∧ RdAll h ds vs.toList
  | _, _ => False
def RdAll (h : Heap) : List PyData → List Value → Prop
  | [], vs => vs = []
  | d :: ds, vs => ∃ v r, vs = v :: r ∧ RdT h d v ∧ RdAll h ds r
end
mutual
def hashT (w : World) : PyData → Int
  | .str x => hashStr w x
  | .tuple ds => reduceHash (Builtin.Tuple.tupleHashOf (hashAll w ds))
  | _ => 0
def hashAll (w : World) : List PyData → List Int
  | [] => []
  | d :: ds => hashT w d :: hashAll w ds
end
mutual
def drawT : PyData → Nat
  | .tuple ds => drawAll ds + 1
  | _ => 1
def drawAll : List PyData → Nat
  | [] => 0
  | d :: ds => drawT d + drawAll ds
end
theorem hashAll_eq (w : World) : ∀ ds, hashAll w ds = ds.map (hashT w)
  | [] => rfl
  | d :: ds => by rw [hashAll, hashAll_eq w ds]; rfl
theorem drawAll_app : ∀ (a b : List PyData), drawAll (a ++ b) = drawAll a + drawAll b
  | [], b => by simp [drawAll]
  | d :: a, b => by
    show drawT d + drawAll (a ++ b) = (drawT d + drawAll a) + drawAll b
    rw [drawAll_app a b]; omega
mutual
theorem RdT.reads {h : Heap} : ∀ (d : PyData) (v : Value), RdT h d v → ∃ as, Reads h v d as
  | .str x, _, ⟨t, e⟩ => by subst e; exact ⟨_, .str x t⟩
  | .tuple ds, _, ⟨a, o, vs, n, e, h1, h2, h3, h4⟩ => by
    subst e
    obtain ⟨as, q⟩ := RdAll.reads ds vs.toList h4
    exact ⟨_, .tuple h1 h2 h3 q⟩
  | .none, _, q => q.elim
  | .bool _, _, q => q.elim
  | .int _, _, q => q.elim
  | .list _, _, q => q.elim
  | .dict _, _, q => q.elim
theorem RdAll.reads {h : Heap} : ∀ (ds : List PyData) (vs : List Value), RdAll h ds vs → ∃ as, ReadsAll h vs ds as
  | [], vs, e => by cases (show vs = [] from e); exact ⟨_, .nil⟩
  | d :: ds, _, ⟨v, r, e, h1, h2⟩ => by
    subst e
    obtain ⟨as, q⟩ := RdT.reads d v h1
    obtain ⟨bs, q2⟩ := RdAll.reads ds r h2
    exact ⟨_, .cons q q2⟩
end
mutual
theorem RdT.inj {h : Heap} : ∀ (d e : PyData) (v : Value), RdT h d v → RdT h e v → d = e
  | .str x, e, v, ⟨t, h1⟩, h2 => by
    subst h1
    cases e with
    | str y => obtain ⟨t', q⟩ := h2; cases q; rfl
    | tuple ds => obtain ⟨a, o, vs, n, q, _⟩ := h2; cases q
    | none => exact h2.elim
    | bool _ => exact h2.elim
    | int _ => exact h2.elim
    | list _ => exact h2.elim
    | dict _ => exact h2.elim
  | .tuple ds, e, v, ⟨a, o, vs, n, h1, h3, h4, h5, h6⟩, h2 => by
    subst h1
    cases e with
    | str y => obtain ⟨t', q⟩ := h2; cases q
    | tuple es =>
      obtain ⟨a', o', vs', n', q, q3, q4, q5, q6⟩ := h2
      cases q
      rw [h3] at q3; cases q3
      rw [h5] at q5; cases q5
      rw [RdAll.inj ds es vs.toList h6 q6]
    | none => exact h2.elim
    | bool _ => exact h2.elim
    | int _ => exact h2.elim
    | list _ => exact h2.elim
    | dict _ => exact h2.elim
  | .none, _, _, q, _ => q.elim
  | .bool _, _, _, q, _ => q.elim
  | .int _, _, _, q, _ => q.elim
  | .list _, _, _, q, _ => q.elim
  | .dict _, _, _, q, _ => q.elim
theorem RdAll.inj {h : Heap} : ∀ (ds es : List PyData) (vs : List Value), RdAll h ds vs → RdAll h es vs → ds = es
  | [], [], _, _, _ => rfl
  | [], e :: es, vs, h1, ⟨v, r, q, _⟩ => by rw [show vs = [] from h1] at q; cases q
  | d :: ds, [], vs, ⟨v, r, q, _⟩, h2 => by rw [show vs = [] from h2] at q; cases q
  | d :: ds, e :: es, _, ⟨v, r, h1, h3, h4⟩, ⟨v', r', q1, q3, q4⟩ => by
    subst h1
    injection q1 with z1 z2
    subst z1 z2
    rw [RdT.inj d e v h3 q3, RdAll.inj ds es r h4 q4]
end
mutual
theorem RdT.keeps {h h' : Heap} {dd : Addr} {od : Obj} {es : Array DictEntry} {ep : Nat} (ho : h.get? dd = some od) (hd : od.data = .dict es ep) (hs : Heap.SameBut dd h h') : ∀ (d : PyData) (v : Value), RdT h d v → RdT h' d v
  | .str x, _, q => q
  | .tuple ds, _, ⟨a, o, vs, n, e, h1, h2, h3, h4⟩ => by
    have ne : a ≠ dd := fun z => by
      subst z
      rw [h1] at ho; cases ho
      rw [h3] at hd; cases hd
    exact ⟨a, o, vs, n, e, (hs.2 a ne).trans h1, h2, h3, RdAll.keeps ho hd hs ds vs.toList h4⟩
  | .none, _, q => q.elim
  | .bool _, _, q => q.elim
  | .int _, _, q => q.elim
  | .list _, _, q => q.elim
  | .dict _, _, q => q.elim
theorem RdAll.keeps {h h' : Heap} {dd : Addr} {od : Obj} {es : Array DictEntry} {ep : Nat} (ho : h.get? dd = some od) (hd : od.data = .dict es ep) (hs : Heap.SameBut dd h h') : ∀ (ds : List PyData) (vs : List Value), RdAll h ds vs → RdAll h' ds vs
  | [], _, q => q
  | d :: ds, _, ⟨v, r, e, h1, h2⟩ => ⟨v, r, e, RdT.keeps ho hd hs d v h1, RdAll.keeps ho hd hs ds r h2⟩
end
/-! ### the hash -/
section
variable {prog : Program} {w : World}
def HashOk (prog : Program) (w : World) (d : PyData) : Prop := ∀ (A : Around) (E : Value → Shared → Prop) (s : Shared) (v : Value) (Q : Int → Shared → Prop), A.units + depT d < cLine → RdT s.heap d v → Q (hashT w d) { s with toks := s.toks + drawT d } → wpAny (model prog w) A (pyHash v) Q E s
theorem dep_mem : ∀ {ds : List PyData} {d : PyData}, d ∈ ds → depT d ≤ depAll ds
  | [], _, h => nomatch h
  | e :: ds, d, h => by
    show depT d ≤ max (depT e) (depAll ds)
    rcases List.mem_cons.mp h with rfl | h
    · omega
    · have := dep_mem h; omega
theorem hash_tuple {ds : List PyData} (ih : ∀ d ∈ ds, HashOk prog w d) : HashOk prog w (.tuple ds) := by
  intro A E s v Q hu hr h
  obtain ⟨a, o, items, n, rfl, ho, hc, hd, hi⟩ := hr
  have hu0 : A.units < cLine := by omega
  have hT : s.TypeIs (.ref a) "tuple" := ⟨o, ho, hc⟩
  have hu1 : A.units + (depAll ds + 1) < cLine := hu
  unfold pyHash
  first | unfold pyHashByItsType | skip
  first | refine wpAny_bind (wpAny_cRoomFor_or (.inr hu0) ?_) | skip
  refine wpAny_bind (wpAny_specialOf hT F.slot_tuple_hash.lookup ?_)
  show wpAny _ _ (if (some (Value.builtin "tuple.__hash__") == some Value.none) = true then _ else _) Q E s
  rw [if_neg (by rw [beq_builtin_none]; exact Bool.false_ne_true)]
  refine wpAny_bind (wpAny_specialOf hT F.slot_tuple_hash.lookup ?_)
  show wpAny _ _ (callSpecialIfBoundUnlessNone? (.ref a) "__hash__" _ >>= _) Q E s
  refine wpAny_bind (wpAny_callSpecialIfBoundUnlessNone?_slot hT F.slot_tuple_hash (wpAny_call_entry F.slot_tuple_hash hT F.entry_tuple_hash ?_ (F.args_tuple_hash_1 _)))
  show wpAny _ _ (Builtin.Tuple.tupleItemsOf (.ref a) >>= _) _ _ s
  refine wpAny_bind (wpAny_tupleItemsOf ho hd ?_)
  refine wpAny_bind ?_
  rw [← Array.forIn_toList]
  refine wpAny_forIn_list _
    (fun rest (b : Array Int) s' => ∃ done left, ds = done ++ left ∧ RdAll s.heap left rest ∧ b.toList = done.map (hashT w) ∧ s' = { s with toks := s.toks + drawAll done })
    _ ?_ ?_ _ _ ⟨[], ds, rfl, hi, rfl, by simp [drawAll]⟩
  · rintro x rest b s' ⟨done, left, e, hl, hb, rfl⟩
    cases left with
    | nil => cases (show x :: rest = [] from hl)
    | cons d left =>
      obtain ⟨v, r, ev, h1, h2⟩ := hl
      injection ev with e1 e2
      subst e1 e2
      have hm : d ∈ ds := by rw [e]; simp
      have hdp := dep_mem hm
      have hq : ∃ done' left', ds = done' ++ left' ∧ RdAll s.heap left' rest ∧ (b.push (hashT w d)).toList = done'.map (hashT w) ∧ ({ s with toks := s.toks + drawAll done + drawT d } : Shared) = { s with toks := s.toks + drawAll done' } :=
        ⟨done ++ [d], left, by simp [e], h2, by simp [hb], by rw [drawAll_app]; simp [drawAll, Nat.add_assoc]⟩
      refine wpAny_bind (ih d hm A.in1 _ _ _ _ (by show A.units + 1 + depT d < cLine; omega) h1 ?_)
      first
        | exact wpAny_pure hq
        | exact wpAny_bind (wpAny_pure (wpAny_pure hq))
  · rintro b s' ⟨done, left, e, hl, hb, rfl⟩
    cases left with
    | cons d left => obtain ⟨v, r, ev, _⟩ := hl; cases ev
    | nil =>
      rw [List.append_nil] at e
      subst e
      show wpAny _ _ (retInt (Builtin.Tuple.tupleHashOf b.toList)) _ _ _
      rw [hb]
      have h : Q (reduceHash (Builtin.Tuple.tupleHashOf (hashAll w ds))) { s with toks := s.toks + (drawAll ds + 1) } := h
      rw [hashAll_eq] at h
      refine wpAny_ret_mkInt ?_
      show wpAny _ _ (if (decide (-(2 : Int) ^ 63 ≤ Builtin.Tuple.tupleHashOf (ds.map (hashT w))) && decide (Builtin.Tuple.tupleHashOf (ds.map (hashT w)) < 2 ^ 63)) = true then _ else _) Q E _
      unfold reduceHash at h
      by_cases hr : (decide (-(2 : Int) ^ 63 ≤ Builtin.Tuple.tupleHashOf (ds.map (hashT w))) && decide (Builtin.Tuple.tupleHashOf (ds.map (hashT w)) < 2 ^ 63)) = true
      · rw [if_pos hr]
        rw [if_pos hr] at h
        exact wpAny_pure (by simpa [Nat.add_assoc] using h)
      · rw [if_neg hr]
        rw [if_neg hr] at h
        exact wpAny_bind (wpAny_rule (wpAny_pure (by simpa [Nat.add_assoc] using h)))
mutual
theorem hash_ok : ∀ d : PyData, HashOk prog w d
  | .str x => fun A E s v Q _ hr h => by
    obtain ⟨t, rfl⟩ := hr
    exact (strKind prog w).pyHash (k := x) (by show Value.isStrOf x (.str x t) = true; simp [Value.isStrOf]) h
  | .tuple ds => hash_tuple (hash_all ds)
  | .none => fun _ _ _ _ _ _ hr _ => hr.elim
  | .bool _ => fun _ _ _ _ _ _ hr _ => hr.elim
  | .int _ => fun _ _ _ _ _ _ hr _ => hr.elim
  | .list _ => fun _ _ _ _ _ _ hr _ => hr.elim
  | .dict _ => fun _ _ _ _ _ _ hr _ => hr.elim
theorem hash_all : ∀ ds : List PyData, ∀ d ∈ ds, HashOk prog w d
  | [], _, h => nomatch h
  | e :: ds, d, h => (List.mem_cons.mp h).elim (fun z => z ▸ hash_ok e) (hash_all ds d)
end
/-! ### == -/
mutual
theorem eqv_dec : ∀ (d e : PyData), txtT d = true → txtT e = true → PyData.eqv d e = decide (d = e)
  | .str x, .str y, _, _ => by
    show (x == y) = _
    rw [Bool.eq_iff_iff]
    simp
  | .str _, .tuple _, _, _ => by rw [decide_eq_false (by simp)]; rfl
  | .tuple _, .str _, _, _ => by rw [decide_eq_false (by simp)]; rfl
  | .tuple ds, .tuple es, h1, h2 => by
    show PyData.eqvAll ds es = _
    rw [eqvs_dec ds es h1 h2]
    exact decide_eq_decide.mpr (by simp)
  | .none, _, h, _ => by cases h
  | .bool _, _, h, _ => by cases h
  | .int _, _, h, _ => by cases h
  | .list _, _, h, _ => by cases h
  | .dict _, _, h, _ => by cases h
  | .str _, .none, _, h => by cases h
  | .str _, .bool _, _, h => by cases h
  | .str _, .int _, _, h => by cases h
  | .str _, .list _, _, h => by cases h
  | .str _, .dict _, _, h => by cases h
  | .tuple _, .none, _, h => by cases h
  | .tuple _, .bool _, _, h => by cases h
  | .tuple _, .int _, _, h => by cases h
  | .tuple _, .list _, _, h => by cases h
  | .tuple _, .dict _, _, h => by cases h
theorem eqvs_dec : ∀ (ds es : List PyData), txtAll ds = true → txtAll es = true → PyData.eqvAll ds es = decide (ds = es)
  | [], [], _, _ => rfl
  | [], _ :: _, _, _ => rfl
  | _ :: _, [], _, _ => rfl
  | d :: ds, e :: es, h1, h2 => by
    have h1 : (txtT d && txtAll ds) = true := h1
    have h2 : (txtT e && txtAll es) = true := h2
    rw [Bool.and_eq_true] at h1 h2
    show (PyData.eqv d e && PyData.eqvAll ds es) = _
    rw [eqv_dec d e h1.1 h2.1, eqvs_dec ds es h1.2 h2.2, ← Bool.decide_and]
    exact decide_eq_decide.mpr (by simp)
end
mutual
theorem txt_lay : ∀ d : PyData, txtT d = true → d.canLay0 = true ∧ d.depth ≤ depT d
  | .str x, h => ⟨h, Nat.le_refl _⟩
  | .tuple ds, h => by
    obtain ⟨h1, h2⟩ := txts_lay ds h
    refine ⟨h1, ?_⟩
    show PyData.depthAll ds + 1 ≤ depAll ds + 1
    omega
  | .none, h => by cases h
  | .bool _, h => by cases h
  | .int _, h => by cases h
  | .list _, h => by cases h
  | .dict _, h => by cases h
theorem txts_lay : ∀ ds : List PyData, txtAll ds = true → PyData.canLayAll0 ds = true ∧ PyData.depthAll ds ≤ depAll ds
  | [], _ => ⟨rfl, Nat.le_refl _⟩
  | d :: ds, h => by
    have h : (txtT d && txtAll ds) = true := h
    rw [Bool.and_eq_true] at h
    obtain ⟨h1, h2⟩ := txt_lay d h.1
    obtain ⟨h3, h4⟩ := txts_lay ds h.2
    refine ⟨?_, ?_⟩
    · show (d.canLay0 && PyData.canLayAll0 ds) = true
      rw [h1, h3]; rfl
    · show max d.depth (PyData.depthAll ds) ≤ max (depT d) (depAll ds)
      omega
end
/-! ### its == calls nothing of the text's own -/
def QuietOk (prog : Program) (w : World) (d : PyData) : Prop := ∀ (A : Around) (E : Value → Shared → Prop) (s : Shared) (v : Value) (n : Nat) (Q : Bool → Shared → Prop), depT d ≤ n → RdT s.heap d v → Q true s → wpAny (model prog w) A (eqIsQuiet n v) Q E s
theorem quiet_tuple {ds : List PyData} (ih : ∀ d ∈ ds, QuietOk prog w d) : QuietOk prog w (.tuple ds) := by
  intro A E s v n Q hn hr h
  obtain ⟨a, o, items, m, rfl, ho, hc, hd, hi⟩ := hr
  have hT : s.TypeIs (.ref a) "tuple" := ⟨o, ho, hc⟩
  have hn : depAll ds + 1 ≤ n := hn
  obtain ⟨n, rfl⟩ : ∃ k, n = k + 1 := ⟨n - 1, by omega⟩
  unfold eqIsQuiet
  refine wpAny_bind (wpAny_specialOf hT F.slot_tuple_eq.lookup ?_)
  show wpAny _ _ (isInstance (.ref a) (.type "tuple") >>= _) _ _ s
  refine wpAny_bind (wpAny_isInstance hT isSubtype_tuple_tuple ?_)
  simp only [Bool.not_true, Bool.false_eq_true, if_false]
  refine wpAny_bind (wpAny_seqItems ho hd ?_)
  refine wpAny_bind ?_
  show wpAny _ _ (forIn items _ _) _ _ s
  rw [← Array.forIn_toList]
  refine wpAny_forIn_list _ (fun rest r s' => r.1 = none ∧ s' = s ∧ ∃ left, (∀ d ∈ left, d ∈ ds) ∧ RdAll s.heap left rest) _ ?_ ?_ _ _ ⟨rfl, rfl, ds, fun _ z => z, hi⟩
  · rintro v rest r s' ⟨hr, rfl, left, hm, hl⟩
    cases left with
    | nil => cases (show v :: rest = [] from hl)
    | cons d left =>
      obtain ⟨v', r', ev, h1, h2⟩ := hl
      injection ev with e1 e2
      subst e1 e2
      have hd' := hm d List.mem_cons_self
      have := dep_mem hd'
      refine wpAny_bind (ih d hd' A _ s' _ n _ (by omega) h1 ?_)
      simp only [Bool.not_true, Bool.false_eq_true, if_false]
      exact wpAny_pure ⟨rfl, rfl, left, fun e he => hm e (List.mem_cons_of_mem _ he), h2⟩
  · rintro ⟨r1, r2⟩ s' ⟨hr, rfl, _⟩
    simp only at hr
    subst hr
    exact wpAny_pure h
mutual
theorem quiet_ok : ∀ d : PyData, QuietOk prog w d
  | .str x => fun A E s v n Q _ hr h => by
    obtain ⟨t, rfl⟩ := hr
    rw [eqIsQuiet_byValue _ (by rfl)]
    exact wpAny_pure h
  | .tuple ds => quiet_tuple (quiet_all ds)
  | .none => fun _ _ _ _ _ _ _ hr _ => hr.elim
  | .bool _ => fun _ _ _ _ _ _ _ hr _ => hr.elim
  | .int _ => fun _ _ _ _ _ _ _ hr _ => hr.elim
  | .list _ => fun _ _ _ _ _ _ _ hr _ => hr.elim
  | .dict _ => fun _ _ _ _ _ _ _ hr _ => hr.elim
theorem quiet_all : ∀ ds : List PyData, ∀ d ∈ ds, QuietOk prog w d
  | [], _, h => nomatch h
  | e :: ds, d, h => (List.mem_cons.mp h).elim (fun z => z ▸ quiet_ok e) (quiet_all ds d)
end
/-- things as keys -/
def thingKind (prog : Program) (w : World) : HeapKind prog w PyData where
  is := fun h d a => RdT h d (.ref a) ∧ txtT d = true ∧ depT d ≤ 6
  hash := hashT w
  draws := drawT
  room := fun A => A.units + 8 < cLine
  inj := fun hx hy => RdT.inj _ _ _ hx.1 hy.1
  keeps := fun x ho hd hs => ⟨RdT.keeps ho hd hs _ _ x.1, x.2⟩
  pyHash := fun hu hk h => hash_ok _ _ _ _ _ _ (by have := hk.2.2; omega) hk.1 h
  eqBool := fun {A E s x y a b Q} hu hx hy h => by
    obtain ⟨as, ra⟩ := RdT.reads _ _ hx.1
    obtain ⟨bs, rb⟩ := RdT.reads _ _ hy.1
    obtain ⟨l1, d1⟩ := txt_lay _ hx.2.1
    obtain ⟨l2, d2⟩ := txt_lay _ hy.2.1
    have e := SeqAt.eqAt_reads x y A s _ _ as bs ra rb l1 l2 (by have := hx.2.2; omega)
    rw [eqv_dec _ _ hx.2.1 hy.2.1] at e
    exact e prog w E Q h
  quiet := fun hk h => quiet_ok _ _ _ _ _ _ _ (by have := hk.2.2; omega) hk.1 h
end
end L2

set_option Elab.async false
set_option linter.all false
set_option maxRecDepth 100000
set_option maxHeartbeats 4000000
/-! a dict whose keys are things -/
namespace L2
open PySem PySem.Spec PyProof.Rows
def RawD (d : Addr) (es : List DictEntry) : HO := .ext fun h => ∃ o ep, h.get? d = some o ∧ o.ExactDict ∧ o.data = .dict es.toArray ep ∧ (d == sysModules) = false
theorem rawD_ok {P : Program} {w : World} {H : Hp} {h : Heap} {d : Addr} {es : List DictEntry} {o : Obj} {ep : Nat} (h1 : h.get? d = some o) (h2 : o.ExactDict) (h3 : o.data = .dict es.toArray ep) (h4 : (d == sysModules) = false) : ObjOk P w H h d (RawD d es) :=
  ⟨⟨o, ep, h1, h2, h3, h4⟩, ⟨o, h1⟩, fun _ _ ⟨o', ep', q1, q2⟩ k => ⟨o', ep', k o' q1, q2⟩⟩
mutual
theorem Dt.other {K : PySem.W.Frag} {H : Hp} {d : Addr} {o : HO} (n : ∀ xs, ¬ Rd H d (.tup xs)) : ∀ (k : PyData) (v : V), txtT k = true → Dt K H k v → Dt K (upd H d o) k v
  | .str x, _, _, h => h
  | .tuple ds, _, t, ⟨a, xs, h1, h2, h3⟩ => by
    refine ⟨a, xs, h1, ?_, DtAll.other n ds xs t h3⟩
    rcases h2 with h2 | h2
    · have ne : a ≠ d := fun z => n xs (z ▸ h2)
      left
      unfold Rd
      rw [upd_ne ne]
      exact h2
    · exact .inr h2
  | .none, _, t, _ => by cases t
  | .bool _, _, t, _ => by cases t
  | .int _, _, t, _ => by cases t
  | .list _, _, t, _ => by cases t
  | .dict _, _, t, _ => by cases t
theorem DtAll.other {K : PySem.W.Frag} {H : Hp} {d : Addr} {o : HO} (n : ∀ xs, ¬ Rd H d (.tup xs)) : ∀ (ks : List PyData) (vs : List V), txtAll ks = true → DtAll K H ks vs → DtAll K (upd H d o) ks vs
  | [], _, _, h => h
  | k :: ks, _, t, ⟨x, r, h1, h2, h3⟩ => by
    have t : (txtT k && txtAll ks) = true := t
    rw [Bool.and_eq_true] at t
    exact ⟨x, r, h1, Dt.other n k x t.1 h2, DtAll.other n ks r t.2 h3⟩
end
section
variable {X : Cx} {pins : List (Addr × Obj)} {σ : St} {H : Hp} {s : Shared}
mutual
theorem Dt.rdT (I : Inv X pins σ H s) : ∀ (d : PyData) (v : V) (u : Value), txtT d = true → Dt X.K H d v → RelV v u → RdT s.heap d u
  | .str x, _, u, _, h, r => by
    cases (show _ = V.str x from h); exact r
  | .tuple ds, _, u, t, ⟨a, xs, h1, h2, h3⟩, r => by
    subst h1
    cases (show u = Value.ref a from r)
    obtain ⟨its, rv, ⟨o, e, c, n, d⟩, _⟩ := I.tuple h2
    exact ⟨a, o, its.toArray, n, rfl, e, c, d, by simpa using DtAll.rdT I ds xs its t h3 rv⟩
  | .none, _, _, t, _, _ => by cases t
  | .bool _, _, _, t, _, _ => by cases t
  | .int _, _, _, t, _, _ => by cases t
  | .list _, _, _, t, _, _ => by cases t
  | .dict _, _, _, t, _, _ => by cases t
theorem DtAll.rdT (I : Inv X pins σ H s) : ∀ (ds : List PyData) (xs : List V) (us : List Value), txtAll ds = true → DtAll X.K H ds xs → Vals xs us → RdAll s.heap ds us
  | [], _, us, _, h, r => by
    cases (show _ = [] from h)
    cases r
    exact rfl
  | d :: ds, _, us, t, ⟨x, r, h1, h2, h3⟩, rv => by
    have t : (txtT d && txtAll ds) = true := t
    rw [Bool.and_eq_true] at t
    subst h1
    cases rv with
    | cons r1 r2 => exact ⟨_, _, rfl, Dt.rdT I d x _ t.1 h2 r1, DtAll.rdT I ds r _ t.2 h3 r2⟩
end
/-- things that may be keys -/
def KeyT (k : PyData) : Prop := txtT k = true ∧ depT k ≤ 6
def TRel (K : PySem.W.Frag) (H : Hp) (p : PyData × V) (q : PyData × Addr × Value) : Prop := p.1 = q.1 ∧ Dt K H p.1 (.ref q.2.1) ∧ RelV p.2 q.2.2
/-- the dict at d holds these pairs -/
def ThD (P : Program) (w : World) (K : PySem.W.Frag) (H : Hp) (d : Addr) (ps : List (PyData × V)) : Prop :=
  ps.length ≤ 10000 ∧ (∀ p ∈ ps, KeyT p.1) ∧ (ps.map (·.1)).Nodup ∧ ∃ xs : List (PyData × Addr × Value), H d = some (RawD d (xs.map (entryOfKey (thingKind P w)))) ∧ Paired (TRel K H) ps xs
theorem TRel.keys {K : PySem.W.Frag} : ∀ {ps : List (PyData × V)} {xs : List (PyData × Addr × Value)}, Paired (TRel K H) ps xs → xs.map (·.1) = ps.map (·.1)
  | _, _, .nil => rfl
  | _, _, .cons r t => by rw [List.map_cons, List.map_cons, TRel.keys t, r.1]
theorem TRel.at {K : PySem.W.Frag} {k : PyData} : ∀ {ps : List (PyData × V)} {xs : List (PyData × Addr × Value)}, Paired (TRel K H) ps xs → (atKey xs k = none ∧ valV ps k = none) ∨ ∃ p v, atKey xs k = some p ∧ valV ps k = some v ∧ RelV v p.2
  | _, _, .nil => .inl ⟨rfl, rfl⟩
  | p :: ps, q :: xs, .cons r t => by
    unfold atKey valV
    rw [List.find?_cons, List.find?_cons]
    have e : p.1 = q.1 := r.1
    by_cases h : q.1 = k
    · rw [decide_eq_true h, decide_eq_true (show p.1 = k by rw [e]; exact h)]
      exact .inr ⟨q.2, p.2, rfl, rfl, r.2.2⟩
    · rw [decide_eq_false h, decide_eq_false (show ¬ p.1 = k by rw [e]; exact h)]
      exact TRel.at t
theorem TRel.is (I : Inv X pins σ H s) : ∀ {ps : List (PyData × V)} {xs : List (PyData × Addr × Value)}, (∀ p ∈ ps, KeyT p.1) → Paired (TRel X.K H) ps xs → ∀ x ∈ xs, (thingKind X.prog X.w).is s.heap x.1 x.2.1
  | _, _, _, .nil, x, h => nomatch h
  | p :: ps, q :: xs, hk, .cons r t, x, h => by
    rcases List.mem_cons.mp h with rfl | h
    · obtain ⟨k1, k2⟩ := hk p List.mem_cons_self
      rw [← r.1]
      exact ⟨Dt.rdT I _ _ _ k1 r.2.1 rfl, k1, k2⟩
    · exact TRel.is I (fun p hp => hk p (List.mem_cons_of_mem _ hp)) t x h
theorem ThD.heap {d : Addr} {ps : List (PyData × V)} (I : Inv X pins σ H s) (T : ThD X.prog X.w X.K H d ps) : ∃ xs, H d = some (RawD d (xs.map (entryOfKey (thingKind X.prog X.w)))) ∧ Paired (TRel X.K H) ps xs ∧ s.heap.DictOfH (thingKind X.prog X.w) d xs ∧ (d == sysModules) = false := by
  obtain ⟨hl, hk, nd, xs, e, r⟩ := T
  obtain ⟨⟨o, ep, h1, h2, h3, h4⟩, _⟩ : (∃ o ep, s.heap.get? d = some o ∧ o.ExactDict ∧ o.data = .dict (xs.map (entryOfKey (thingKind X.prog X.w))).toArray ep ∧ (d == sysModules) = false) ∧ _ := I.hok d _ e
  exact ⟨xs, e, r, ⟨o, _, ep, h1, h2, h3, by simp, TRel.is I hk r, by rw [TRel.keys r]; exact nd⟩, h4⟩
theorem room8 {A : Around} (hu : A.units + 64 < cLine) (prog : Program) (w : World) : (thingKind prog w).room A.in1 := by
  show A.units + 1 + 8 < cLine
  omega
theorem key_is (I : Inv X pins σ H s) {k : PyData} {a : Addr} (hk : KeyT k) (h : Dt X.K H k (.ref a)) : (thingKind X.prog X.w).is s.heap k a := ⟨Dt.rdT I _ _ _ hk.1 h rfl, hk⟩
end
section
variable {X : Cx} {K : PySem.W.Frag}
def rInT (P : Program) (w : World) (K : PySem.W.Frag) : R2 := fun y x H Q => ∃ a d ps k, y = .ref a ∧ x = .ref d ∧ ThD P w K H d ps ∧ KeyT k ∧ Dt K H k (.ref a) ∧ Q (.bl (valV ps k).isSome) H
theorem op_inT (hu : X.A.units + 64 < cLine) : OpR X (compareOp .In) (rInT X.prog X.w X.K) := by
  intro pins s σ H y x v u Q I ry rx h
  obtain ⟨a, d, ps, k, rfl, rfl, T, hk, ha, q⟩ := h
  cases ry
  cases rx
  obtain ⟨xs, _, r, dd, hd⟩ := T.heap I
  refine wpAny_in_heap (room8 hu _ _) (key_is I hk ha) hd dd ⟨.bl _, H, I.tok _, ?_, q⟩
  rcases TRel.at (k := k) r with ⟨e1, e2⟩ | ⟨p, v, e1, e2, _⟩
  · rw [e1, e2]; rfl
  · rw [e1, e2]; rfl
/-- d[k] -/
def tTGet (P : Program) (w : World) (K : PySem.W.Frag) (td ty : TE) : TE := fun σ H Q => td σ H fun x H1 => ty σ H1 fun y H2 => ∃ a d ps k v, x = .ref d ∧ y = .ref a ∧ ThD P w K H2 d ps ∧ KeyT k ∧ Dt K H2 k (.ref a) ∧ valV ps k = some v ∧ Q v H2
theorem pe_tget {o i : Expr} {td ty : TE} {pos : Pos} (hu : X.A.units + 64 < cLine) (ho : PE X o td) (hi : PE X i ty) (hs : NoSl i) : PE X (.Subscript o i pos) (tTGet X.prog X.w X.K td ty) := by
  intro pins s σ H Q I h
  refine subD_of PySem.F.slot_dict_getitem.lookup hs (thn (ho pins s σ H _ I h) fun u s1 ⟨x, H1, I1, rx, q1⟩ => thn (hi pins s1 σ H1 _ I1 q1) fun iv s2 ⟨y, H2, I2, ry, a, d, ps, k, v, ex, ey, T, hk, ha, hv, q2⟩ => ?_)
  subst ex ey
  obtain rfl : u = Value.ref d := rx
  obtain rfl : iv = Value.ref a := ry
  obtain ⟨xs, _, r, dd, hd⟩ := T.heap I2
  refine ⟨dd.typeIs, ?_⟩
  rcases TRel.at (k := k) r with ⟨e1, e2⟩ | ⟨p, v', e1, e2, rv⟩
  · rw [hv] at e2; cases e2
  · rw [hv] at e2
    cases e2
    exact wpAny_getItem_heap (room8 hu _ _) (key_is I2 hk ha) dd e1 ⟨v, H2, I2.tok _, rv, q2⟩
/-- d[k] = v -/
def sTPut (P : Program) (w : World) (K : PySem.W.Frag) (td ty tv : TE) : TS := fun D σ H => tv σ H fun v H1 => td σ H1 fun x H2 => ty σ H2 fun y H3 => ∃ a d ps k, x = .ref d ∧ y = .ref a ∧ ThD P w K H3 d ps ∧ ps.length < 10000 ∧ KeyT k ∧ Dt K H3 k (.ref a) ∧
  ∀ o, ThD P w K (upd H3 d o) d (putK ps k v) → (∃ es, o = RawD d es) → D.nx σ (upd H3 d o)
theorem paired_append {α β : Type} {F : α → β → Prop} : ∀ {l l' : List α} {m m' : List β}, Paired F l m → Paired F l' m' → Paired F (l ++ l') (m ++ m')
  | _, _, _, _, .nil, h => h
  | _, _, _, _, .cons r t, h => .cons r (paired_append t h)
theorem TRel.repl {K : PySem.W.Frag} {H : Hp} {k : PyData} {v : V} {u : Value} (rv : RelV v u) : ∀ {ps : List (PyData × V)} {xs : List (PyData × Addr × Value)}, Paired (TRel K H) ps xs → Paired (TRel K H) (ps.map fun p => if p.1 = k then (p.1, v) else p) (xs.map (putAt k u))
  | _, _, .nil => .nil
  | p :: ps, q :: xs, .cons r t => by
    rw [List.map_cons, List.map_cons]
    refine .cons ?_ (TRel.repl rv t)
    have e : p.1 = q.1 := r.1
    unfold putAt
    by_cases h : q.1 = k
    · rw [if_pos h, if_pos (show p.1 = k by rw [e]; exact h)]
      exact ⟨r.1, r.2.1, rv⟩
    · rw [if_neg h, if_neg (show ¬ p.1 = k by rw [e]; exact h)]
      exact r
theorem TRel.put {K : PySem.W.Frag} {H : Hp} {k : PyData} {a : Addr} {v : V} {u : Value} {ps : List (PyData × V)} {xs : List (PyData × Addr × Value)} (r : Paired (TRel K H) ps xs) (ha : Dt K H k (.ref a)) (rv : RelV v u) : Paired (TRel K H) (putK ps k v) (storedH xs k a u) := by
  have e : (ps.any fun kv => decide (kv.1 = k)) = (atKey xs k).isSome := by
    rcases TRel.at (k := k) r with ⟨e1, e2⟩ | ⟨p, v', e1, e2, _⟩
    · rw [e1]
      refine Bool.eq_false_iff.mpr fun z => ?_
      obtain ⟨kv, hm, hk⟩ := List.any_eq_true.mp z
      exact valV_not e2 (List.mem_map.mpr ⟨kv, hm, of_decide_eq_true hk⟩)
    · obtain ⟨kv, hm, hk⟩ := List.mem_map.mp (valV_in e2)
      rw [e1, List.any_eq_true.mpr ⟨kv, hm, decide_eq_true hk⟩]; rfl
  unfold putK storedH
  rw [e]
  split
  · exact TRel.repl rv r
  · exact paired_append r (.cons ⟨rfl, ha, rv⟩ .nil)
theorem put_keyT {ps : List (PyData × V)} {k : PyData} {v : V} (h : ∀ p ∈ ps, KeyT p.1) (hk : KeyT k) : ∀ p ∈ putK ps k v, KeyT p.1 := by
  unfold putK
  split
  · intro p hp
    obtain ⟨q, hq, rfl⟩ := List.mem_map.mp hp
    split
    · exact h q hq
    · exact h q hq
  · intro p hp
    rcases List.mem_append.mp hp with hp | hp
    · exact h p hp
    · rw [List.mem_singleton.mp hp]; exact hk
theorem put_ndT {ps : List (PyData × V)} {k : PyData} {v : V} (h : (ps.map (·.1)).Nodup) : ((putK ps k v).map (·.1)).Nodup := by
  unfold putK
  split
  · have e : (ps.map fun kv => if kv.1 = k then (kv.1, v) else kv).map (·.1) = ps.map (·.1) := by
      rw [List.map_map]
      refine List.map_congr_left fun p _ => ?_
      show (if p.1 = k then (p.1, v) else p).1 = p.1
      split <;> rfl
    rw [e]; exact h
  · rename_i hn
    rw [List.map_append]
    refine nd_snoc h fun z => hn ?_
    obtain ⟨p, hp, e⟩ := List.mem_map.mp z
    exact List.any_eq_true.mpr ⟨p, hp, decide_eq_true e⟩
theorem ps_tput {o i value : Expr} {td ty tv : TE} {pos pos' : Pos} (hu : X.A.units + 64 < cLine) (ho : PE X o td) (hi : PE X i ty) (hv : PE X value tv) (hs : swapsWith value (some (.Subscript o i pos')) pos.line X.env = pure false) :
    PS X (.Assign [.Subscript o i pos'] value pos) (sTPut X.prog X.w X.K td ty tv) := by
  intro pins s σ H D I h
  refine wpAny_Assign_Subscript (thn (hv pins s σ H _ I h) fun r s1 ⟨v, H1, I1, rv, q1⟩ => thn (ho pins s1 σ H1 _ I1 q1) fun u s2 ⟨x, H2, I2, rx, q2⟩ => thn (hi pins s2 σ H2 _ I2 q2) fun iv s3 ⟨y, H3, I3, ry, a, d, ps, k, ex, ey, T, hl, hk, ha, q3⟩ => ?_) hs
  subst ex ey
  obtain rfl : u = Value.ref d := rx
  obtain rfl : iv = Value.ref a := ry
  obtain ⟨xs, e, rel, dd, hd⟩ := T.heap I3
  have hz : xs.length ≤ sizeLine := by rw [← Paired.length rel]; exact An.le_line (by omega)
  refine wpAny_setItem_heap (hsz := hz) (room8 hu _ _) (key_is I3 hk ha) dd fun h' dd' hs' => ?_
  obtain ⟨ob, es, ep, g1, g2, g3, g4, _, _⟩ := dd'
  have g3' : ob.data = .dict ((storedH xs k a r).map (entryOfKey (thingKind X.prog X.w))).toArray ep := by rw [g3, ← g4]
  have mu : Mut (H3 d) := by rw [e]; exact True.intro
  have I4 := d_write (t' := s3.toks + (thingKind X.prog X.w).draws k) I3 mu hs' ⟨ob, g1⟩ (rawD_ok (H := upd H3 d (RawD d ((storedH xs k a r).map (entryOfKey (thingKind X.prog X.w))))) g1 g2 g3' hd)
  have nt : ∀ xs, ¬ Rd H3 d (.tup xs) := fun ys z => by
    rcases z with z | ⟨o', z⟩
    · rw [e] at z; cases z
    · rw [e] at z; cases z
  refine ⟨σ, _, I4, q3 _ ⟨?_, put_keyT T.2.1 hk, put_ndT T.2.2.1, storedH xs k a r, upd_same, ?_⟩ ⟨_, rfl⟩⟩
  · have := length_putK ps k v
    omega
  · have r2 : Paired (TRel X.K (upd H3 d (RawD d ((storedH xs k a r).map (entryOfKey (thingKind X.prog X.w)))))) ps xs := by
      have key : ∀ {ps : List (PyData × V)} {xs : List (PyData × Addr × Value)}, (∀ p ∈ ps, KeyT p.1) → Paired (TRel X.K H3) ps xs → ∀ o, Paired (TRel X.K (upd H3 d o)) ps xs := by
        intro ps xs hkk r
        induction r with
        | nil => intro _; exact .nil
        | cons r1 _ ih => intro o; exact .cons ⟨r1.1, Dt.other nt _ _ (hkk _ List.mem_cons_self).1 r1.2.1, r1.2.2⟩ (ih (fun p hp => hkk p (List.mem_cons_of_mem _ hp)) o)
      exact key T.2.1 rel _
    exact TRel.put r2 (Dt.other nt _ _ hk.1 ha) rv
/-- {}, to hold things -/
theorem pe_dnewX {pos : Pos} : PE X (.Dict [] [] pos) (fun _ H Q => ∀ p o, H p = none → ThD X.prog X.w X.K (upd H p o) p [] → (∃ es, o = RawD p es) → Q (.ref p) (upd H p o)) := by
  intro pins s σ H Q I h
  have hn : H s.heap.objs.size = none := I.hok.fresh (Nat.le_refl _)
  have hS : (s.heap.objs.size == sysModules) = false := beq_eq_false_iff_ne.mpr (Ne.symm (Nat.ne_of_lt I.big))
  exact wpAny_Dict_empty ⟨.ref s.heap.objs.size, _, I.laid (a := s.heap.objs.size) (o := RawD s.heap.objs.size []) (t' := s.toks) (fun _ _ q => Heap.get?_push_of_some _ q) (Nat.le_refl _) (rawD_ok (ep := 0) (Heap.get?_push_size _ rfl) ⟨rfl, rfl, rfl⟩ rfl hS), rfl,
    h _ _ hn ⟨Nat.zero_le _, fun _ z => (nomatch z), List.nodup_nil, [], upd_same, .nil⟩ ⟨_, rfl⟩⟩
end
end L2

set_option Elab.async false
set_option linter.all false
set_option maxRecDepth 100000
set_option maxHeartbeats 4000000
/-! methods of the text's classes, by one fact each; partition, int of a text, f-strings; list of a dict -/
namespace L2
open PySem PySem.Spec PyProof.Rows
/-! ### methods -/
structure Met (P : Program) (w : World) (K : PySem.W.Frag) (mg : Str → Option Value) (base : Heap) (C : Addr) (k : Nat) (m : Str) (ps : List Str) (sp : Sp) : Prop where
  ex : ∃ (f : Addr) (fd : FuncData), FnOk P w K mg base CX0 k f fd ps sp ∧ Meth K C m f ∧ Binds K fd ps []
section
variable {X : Cx} {C : Addr} {k : Nat} {m : Str} {ps : List Str} {sp : Sp} {o e : Expr} {es : List Expr} {ta : TE} {t : TA} {apos pos : Pos} {R : St → Hp → Value → Prop}
theorem pe_metC {pl : Sem Bool} (he : PE X o ta) (c : Cls X.K C) (M : Met X.prog X.w X.K X.mg X.base C k m ps sp) (hr : Room k X.A) (ha : PA X (e :: es) t)
    (hst : starEach (e :: es) X.env = (false, eval e X.env) :: starEach es X.env := by rfl) (hpl : (backTo pos (starEach es X.env)).any (·.1) = false := by rfl)
    (ht : eval (.Call (.Attribute o m apos) (e :: es) [] pos) X.env = (do
      let ov ← eval o X.env
      standAt apos.atName
      let (f, first) ← holding [ov] (getMethod ov m pl)
      callWith pos f first (backTo pos (starEach (e :: es) X.env)) (backToKw pos (keywordEach [] X.env))) := by rfl) :
    PE X (.Call (.Attribute o m apos) (e :: es) [] pos) (tMeth C m sp [] E0 ta t) := by
  obtain ⟨f, fd, F, hm, hb⟩ := M.ex
  exact pe_meth (pl := pl) he c hm F hr hb .nil pass0 ha hst hpl ht
theorem pe_metC0 {pl : Sem Bool} (he : PE X o ta) (c : Cls X.K C) (M : Met X.prog X.w X.K X.mg X.base C k m ps sp) (hr : Room k X.A)
    (ht : eval (.Call (.Attribute o m apos) [] [] pos) X.env = (do
      let ov ← eval o X.env
      standAt apos.atName
      let (f, first) ← holding [ov] (getMethod ov m pl)
      callWith pos f first (backTo pos (starEach [] X.env)) (backToKw pos (keywordEach [] X.env))) := by rfl) :
    PE X (.Call (.Attribute o m apos) [] [] pos) (tMeth C m sp [] E0 ta tNil) := by
  obtain ⟨f, fd, F, hm, hb⟩ := M.ex
  exact pe_meth0 (pl := pl) he c hm F hr hb .nil pass0 ht
end
structure Mak (P : Program) (w : World) (K : PySem.W.Frag) (mg : Str → Option Value) (base : Heap) (C : Addr) (k : Nat) (x : Str) (ps : List Str) (sp : Sp) : Prop where
  ex : ∃ (f : Addr) (fd : FuncData), FnOk P w K mg base CX0 k f fd ps sp ∧ Mk K C f ∧ Binds K fd ps [] ∧ mg x = some (.ref C)
theorem pe_makC {X : Cx} {C : Addr} {k : Nat} {x : Str} {ps : List Str} {sp : Sp} {e : Expr} {es : List Expr} {t : TA} {p pos : Pos} (M : Mak X.prog X.w X.K X.mg X.base C k x ps sp) (hr : Room (k + 1) X.A) (ha : PA X (e :: es) t) (hg : Gl X x := by rfl)
    (hdb : (x == ("__debug__" : Str)) = false := by decide) (he : starEach (e :: es) X.env = (false, eval e X.env) :: starEach es X.env := by rfl) (hpl : (backTo pos (starEach es X.env)).any (·.1) = false := by rfl) :
    PE X (.Call (.Name x p) (e :: es) [] pos) (tMake C sp [] E0 t) := by
  obtain ⟨f, fd, F, hm, hb, hx⟩ := M.ex
  exact pe_make hm F hr hg hx hb .nil pass0 ha hdb he hpl
theorem throws_none {X : Cx} : Throws X (fun _ _ _ => False) := by
  intro pins σ H s e cls args h' I hx q
  exact q.elim
/-! ### partition -/
theorem cs_sub (x : Str) (i j : Nat) : An.cs (Builtin.Str.strSub x i j) = ((An.cs x).take j).drop i := by
  show (x.cps.extract i j).toList = _
  rw [Array.toList_extract, List.extract_eq_drop_take, List.drop_take]
theorem meets_partition (x : Str) (c i : Nat) (t u : Tok) (r : List Nat) (ho : Builtin.Str.occurrences x ⟨#[c]⟩ 0 x.length 1 = i :: r) (hz : x.length ≤ 100000) : Meets (Builtin.«str.partition» ⟨[.str x t, .str ⟨#[c]⟩ u], []⟩)
    (fun _ R s => R (.ok (.ret (.ref s.heap.objs.size))) { s with heap := s.heap.push { cls := .type "tuple", data := .seq #[.str (Builtin.Str.strSub x 0 i) s.toks, .str ⟨#[c]⟩ u, .str (Builtin.Str.strSub x (i + 1) x.length) (s.toks + 1)] }, toks := s.toks + 1 + 1 }) :=
  .of_wp fun prog w A R s h => by
    obtain ⟨raising, e⟩ := partition_tree x ⟨#[c]⟩ t u
    rw [e, if_neg (show ¬ ((⟨#[c]⟩ : Str).length == 0) = true from (by show ¬ (1 == 0) = true; decide)), ho]
    have z1 : (Builtin.Str.strSub x 0 i).length ≤ sizeLine := by
      rw [An.length_cs, cs_sub, List.length_drop, List.length_take]
      refine An.le_line ?_
      rw [← An.length_cs]; omega
    have z2 : (Builtin.Str.strSub x (i + (⟨#[c]⟩ : Str).length) x.length).length ≤ sizeLine := by
      rw [An.length_cs, cs_sub, List.length_drop, List.length_take]
      refine An.le_line ?_
      rw [← An.length_cs]; omega
    refine wpAny_bind (wpAny_mkStr ?_ z1)
    refine wpAny_bind (wpAny_mkStr ?_ z2)
    refine wpAny_bind (wpAny_newTuple ?_ (by show 3 ≤ sizeLine; decide))
    exact wpAny_pure ⟨_, rfl, h⟩
section
variable {X : Cx}
def rPart : V → List V → Hp → VK → Prop := fun x vs H Q => ∃ (u v : Str) (c : Nat), x = .str (u ++ ⟨#[c]⟩ ++ v) ∧ vs = [.str ⟨#[c]⟩] ∧ c ∉ An.cs u ∧ (u ++ ⟨#[c]⟩ ++ v).length ≤ 100000 ∧ ∀ p, H p = none → Q (.ref p) (upd H p (.tup [.str u, .str ⟨#[c]⟩, .str v]))
theorem mt_partition : MtR X "str.partition" rPart := by
  intro pins s σ H x xs v us Q I rx rs h
  obtain ⟨a, b, c, rfl, rfl, hc, hz, q⟩ := h
  obtain ⟨t, rfl⟩ := rx
  obtain ⟨w, rfl, t', rfl⟩ := vals1 rs
  have ecs : An.cs (a ++ ⟨#[c]⟩ ++ b) = An.cs a ++ c :: An.cs b := by
    rw [An.cs_append, An.cs_append]
    show An.cs a ++ [c] ++ An.cs b = _
    simp
  have hat : (An.cs (a ++ ⟨#[c]⟩ ++ b))[(An.cs a).length]? = some c := by rw [ecs]; simp
  have hi : ∃ r, Builtin.Str.occurrences (a ++ ⟨#[c]⟩ ++ b) ⟨#[c]⟩ 0 (a ++ ⟨#[c]⟩ ++ b).length 1 = (An.cs a).length :: r := by
    rcases StrLaws.occ_head_from (a ++ ⟨#[c]⟩ ++ b) ⟨#[c]⟩ 0 1 (Nat.le_refl 1) with ⟨h0, hn⟩ | ⟨k, r, h0, hlo, hk, hn⟩
    · exact absurd ((StrLaws.subAt_one _ c _).mpr hat) (hn _ (Nat.zero_le _))
    · have hm := (StrLaws.subAt_one _ c k).mp hk
      have hm : (An.cs (a ++ ⟨#[c]⟩ ++ b))[k]? = some c := hm
      rcases Nat.lt_trichotomy k (An.cs a).length with z | z | z
      · rw [ecs, List.getElem?_append_left z] at hm
        exact absurd (List.mem_of_getElem? hm) hc
      · exact ⟨r, by rw [h0, z]⟩
      · exact absurd ((StrLaws.subAt_one _ c _).mpr hat) (hn _ (Nat.zero_le _) z)
  obtain ⟨r, hi⟩ := hi
  refine call_meets F.slot_str_partition (typeIs_str s _ t) F.entry_str_partition (F.args_str_partition_2 _ _) (meets_partition _ c _ t t' r hi hz) ?_
  have e1 : Builtin.Str.strSub (a ++ ⟨#[c]⟩ ++ b) 0 (An.cs a).length = a := An.cs_inj (by rw [cs_sub, ecs, List.drop_zero, List.take_left])
  have e2 : Builtin.Str.strSub (a ++ ⟨#[c]⟩ ++ b) ((An.cs a).length + 1) (a ++ ⟨#[c]⟩ ++ b).length = b := An.cs_inj (by
    rw [cs_sub, An.length_cs, List.take_length, ecs]
    rw [show An.cs a ++ c :: An.cs b = (An.cs a ++ [c]) ++ An.cs b by simp]
    rw [show (An.cs a).length + 1 = (An.cs a ++ [c]).length by simp]
    exact List.drop_left)
  rw [e1, e2]
  have hn : H s.heap.objs.size = none := I.hok.fresh (Nat.le_refl _)
  refine ⟨.ref s.heap.objs.size, _, I.laid (t' := s.toks + 1 + 1) (a := s.heap.objs.size) (o := .tup [.str a, .str ⟨#[c]⟩, .str b]) (fun _ _ q => Heap.get?_push_of_some _ q) (Nat.le_refl _) ?_, rfl, q _ hn⟩
  exact ⟨by show 3 ≤ sizeLine; decide, _, .cons ⟨_, rfl⟩ (.cons ⟨_, rfl⟩ (.cons ⟨_, rfl⟩ .nil)), ⟨_, Heap.get?_push_size _ rfl, rfl, _, rfl⟩⟩
/-! ### int of a text -/
def numT (n : Nat) : Str := Str.ofString (toString ((n : Nat) : Int))
theorem call_intT : CallR X (.type "int") (fun xs H Q => ∃ n : Nat, xs = [.str (numT n)] ∧ n < 10000000000 ∧ Q (.int n) H) := by
  intro pins s σ H xs us Q I r h
  obtain ⟨n, rfl, hn, q⟩ := h
  obtain ⟨u, rfl, t, rfl⟩ := vals1 r
  exact PySem.W.KIN.call_num (by omega) (by omega) ⟨.int n, H, I.tok _, ⟨_, rfl⟩, q⟩
/-! ### f'{text}text{int}' -/
def tF3 (t1 : TE) (y : Str) (t2 : TE) : TE := fun σ H Q => t1 σ H fun v H1 => ∃ x : Str, v = .str x ∧ x.length ≤ 100000 ∧ y.length ≤ 1000 ∧ t2 σ H1 fun u H2 => ∃ n : Nat, u = .int n ∧ n < 1000000 ∧ Q (.str (x ++ y ++ numT n)) H2
theorem pe_f3 {e1 e2 : Expr} {y : Str} {k : Nat} {p1 p2 p3 pos : Pos} {t1 t2 : TE} (h1 : PE X e1 t1) (h2 : PE X e2 t2) : PE X (.JoinedStr [.FormattedValue e1 (-1) none p1, .Constant (.str y) k p2, .FormattedValue e2 (-1) none p3] pos) (tF3 t1 y t2) := by
  intro pins s σ H Q I h
  refine JoinedStr_many (joinParts_cons (FormattedValue_plain (thn (h1 pins s σ H _ I h) fun v s1 ⟨x1, H1, I1, r1, x, ex, xl, yl, q1⟩ => ?_)))
  subst ex
  obtain ⟨t, rfl⟩ := r1
  refine formatField_str (fun t' tk => ⟨?_, ?_⟩) (An.le_line (by omega))
  · show (Str.empty ++ x).length ≤ sizeLine
    rw [An.len_append]
    exact An.le_line (by show 0 + x.length ≤ _; omega)
  refine joinParts_cons (thn ((pe_str : PE X (.Constant (.str y) k p2) _) pins _ σ H1 (fun v H' => v = .str y ∧ H' = H1) (I1.tok tk) ⟨rfl, rfl⟩) fun v2 s2 ⟨x2, H2, I2, r2, e2, eH⟩ => ?_)
  subst e2 eH
  obtain ⟨t2', rfl⟩ := r2
  refine ⟨?_, ?_⟩
  · show (Str.empty ++ x ++ y).length ≤ sizeLine
    rw [An.len_append, An.len_append]
    exact An.le_line (by show 0 + x.length + y.length ≤ _; omega)
  refine joinParts_cons (FormattedValue_plain (thn (h2 pins s2 σ H2 _ I2 q1) fun v3 s3 ⟨x3, H3, I3, r3, n, en, nl, q3⟩ => ?_))
  subst en
  obtain ⟨t3, rfl⟩ := r3
  have hlog : ((n : Int)).natAbs.log2 < 1920 := by
    rw [Int.natAbs_natCast]
    rcases Nat.eq_zero_or_pos n with z | z
    · subst z; decide
    · have : n.log2 < 20 := (Nat.log2_lt (by omega)).mpr (by omega)
      omega
  have hz : (Str.empty ++ x ++ y ++ numT n).length ≤ sizeLine := by
    rw [An.len_append, An.len_append, An.len_append]
    have := PyProof.Rows.int_text_len_1921 hlog
    exact An.le_line (by show 0 + x.length + y.length + (numT n).length ≤ _; have e : (numT n).length ≤ 1921 := this; omega)
  refine formatField_int_small hlog ⟨hz, joinParts_nil ⟨.str _, H3, I3.tok _, ⟨_, rfl⟩, ?_⟩ hz⟩
  have e : Str.empty ++ x ++ y ++ (Str.ofString (toString (n : Int))) = x ++ y ++ numT n := An.cs_inj (by
    rw [An.cs_append, An.cs_append, An.cs_append, An.cs_append, An.cs_append]
    rfl)
  rw [e]
  exact q3
end
/-! ### list of a dict that is not held -/
section
variable {X : Cx}
theorem vals_keysD {P : Program} {w : World} : ∀ {kvs : List (Key × V)} {vs : List (Key × Value)} {us : List Value}, KV kvs vs → us.length = vs.length → (∀ (j : Nat) (v : Value), us[j]? = some v → ∃ k x, vs[j]? = some (k, x) ∧ (mixKind P w).is k v = true) → Vals (kvs.map fun kv => kV kv.1) us
  | [], _, [], .nil, _, _ => .nil
  | [], _, _ :: _, .nil, hl, _ => by cases hl
  | _ :: _, _, [], .cons _ _, hl, _ => by cases hl
  | p :: _, q :: _, u :: us, .cons r1 r2, hl, hm => by
    obtain ⟨k, x, e, hk⟩ := hm 0 u rfl
    have e : q = (k, x) := by simpa using e
    have e1 : p.1 = k := by rw [show p.1 = q.1 from r1.1, e]
    refine .cons (by
      show RelV (kV p.1) u
      rw [e1]
      cases k with
      | inl i =>
        have hk : Value.isInt i u = true := hk
        cases u <;> simp [Value.isInt] at hk
        subst hk
        exact ⟨_, rfl⟩
      | inr z =>
        obtain ⟨t, rfl⟩ := Value.isStrOf_shape (show Value.isStrOf z u = true from hk)
        exact ⟨t, rfl⟩) (vals_keysD (P := P) (w := w) r2 (by simpa using hl) fun j v hj => ?_)
    obtain ⟨k2, x2, q1, q2⟩ := hm (j + 1) v (by simpa using hj)
    exact ⟨k2, x2, by simpa using q1, q2⟩
theorem call_listD (hc : X.calm = true) : CallR X (.type "list") (fun xs H Q => ∃ a kvs, xs = [.ref a] ∧ H a = some (.dK kvs) ∧ ∀ l, H l = none → Q (.ref l) (upd H l (.lst (kvs.map fun kv => kV kv.1)))) := by
  intro pins s σ H xs us Q I r h
  obtain ⟨a, kvs, rfl, ha, q⟩ := h
  obtain ⟨u, rfl, ru⟩ := vals1 r
  cases ru
  obtain ⟨hz, hS, vs, rel, o, es, ep, ho, hx, hd, hk, hp, hnd⟩ : kvs.length ≤ sizeLine ∧ (a == sysModules) = false ∧ ∃ vs, KV kvs vs ∧ s.heap.DictOf (mixKind X.prog X.w) a vs := I.hok a _ ha
  have da : s.heap.DictAt (mixKind X.prog X.w) a vs ep := ⟨o, es, ho, hx, hd, hk, hp, hnd⟩
  have hlen : kvs.length = vs.length := Paired.length rel
  refine PySem.W.kdl_call (PySem.W.kdl_dict (knd := mixKind X.prog X.w) (kvs := vs) (ep := ep) hS) (I.ok.hd hc) da (by omega) fun h' tk acc c hkp hl hacc => ?_
  have rv : Vals (kvs.map fun kv => kV kv.1) acc.toList := vals_keysD rel (by rw [Array.length_toList]; exact hacc.1) fun j v e => hacc.2 j v (by rw [← Array.getElem?_toList]; exact e)
  exact ⟨.ref s.heap.objs.size, _, I.laid (t' := tk) hkp (Nat.le_refl _) (show ObjOk X.prog X.w _ h' _ (.lst (kvs.map fun kv => kV kv.1)) from ⟨by rw [List.length_map]; exact hz, acc.toList, c, rv, hl⟩), rfl, q _ (I.hok.fresh (Nat.le_refl _))⟩
end
end L2

set_option Elab.async false
set_option linter.all false
set_option maxRecDepth 100000
set_option maxHeartbeats 4000000
/-! lines, labels, rows of trees: what DOC.md asks of them, over any datum -/
namespace An
open PySem L2
/-! ### what is asked -/
def signB (c : Nat) : Bool := decide (32 ≤ c) && decide (c ≤ 126) && decide (c ≠ 37)
def lineB (x : Str) : Bool := decide (x.length ≤ 20) && (cs x).all signB
def lineD : PyData → Bool
  | .str x => lineB x
  | _ => false
def linesD : PyData → Bool
  | .tuple ds => ds.all lineD
  | _ => false
mutual
/-- no text and no row of it is great -/
def small : PyData → Bool
  | .str x => decide (x.length ≤ 1000)
  | .list ds => decide (ds.length ≤ 1000) && smallAll ds
  | .tuple ds => decide (ds.length ≤ 1000) && smallAll ds
  | _ => true
def smallAll : List PyData → Bool
  | [] => true
  | d :: ds => small d && smallAll ds
end
theorem smallAll_get : ∀ {ds : List PyData} {i : Nat} {d : PyData}, smallAll ds = true → ds[i]? = some d → small d = true
  | [], _, _, _, h => by cases h
  | e :: ds, 0, d, h, q => by
    have h : (small e && smallAll ds) = true := h
    have q : e = d := Option.some.inj q
    rw [Bool.and_eq_true] at h
    rw [← q]; exact h.1
  | e :: ds, i + 1, d, h, q => by
    have h : (small e && smallAll ds) = true := h
    rw [Bool.and_eq_true] at h
    exact smallAll_get h.2 (by simpa using q)
theorem small_tuple {ds : List PyData} (h : small (.tuple ds) = true) : ds.length ≤ 1000 ∧ smallAll ds = true := by
  have h : (decide (ds.length ≤ 1000) && smallAll ds) = true := h
  rw [Bool.and_eq_true] at h
  exact ⟨of_decide_eq_true h.1, h.2⟩
theorem lt_one (a c : Nat) : [a] < [c] ↔ a < c := by
  rw [List.cons_lt_cons_iff]
  constructor
  · rintro (h | ⟨_, h⟩)
    · exact h
    · exact absurd h (by simp)
  · exact .inl
theorem not_dec {p q : Prop} [Decidable p] [Decidable q] (h : ¬ p ↔ q) : (!decide p) = decide q := by
  by_cases hp : p
  · rw [decide_eq_true hp, decide_eq_false (fun z => h.mpr z hp)]; rfl
  · rw [decide_eq_false hp, decide_eq_true (h.mp hp)]; rfl
theorem le_one (c a : Nat) (x : Str) (hx : x.cps.toList = [a]) : (!decide ((⟨#[c]⟩ : Str).cps.toList < x.cps.toList)) = decide (a ≤ c) := by
  rw [hx]
  exact not_dec (by show ¬ [c] < [a] ↔ _; rw [lt_one]; omega)
theorem one_le (c a : Nat) (x : Str) (hx : x.cps.toList = [a]) : (!decide (x.cps.toList < (⟨#[c]⟩ : Str).cps.toList)) = decide (c ≤ a) := by
  rw [hx]
  exact not_dec (by show ¬ [a] < [c] ↔ _; rw [lt_one]; omega)
/-! ### promises -/
def spSign : Sp := fun vs H Q _ => ∃ c : Nat, vs = [.str ⟨#[c]⟩] ∧ Q (.bl (signB c)) H
def spLine (K : PySem.W.Frag) : Sp := fun vs H Q _ => ∃ (d : PyData) (v : V), vs = [v] ∧ Dw K H d v ∧ small d = true ∧ ∀ H', Same H H' → Q (.bl (lineD d)) H'
def spLines (K : PySem.W.Frag) : Sp := fun vs H Q _ => ∃ (d : PyData) (v : V), vs = [v] ∧ Dw K H d v ∧ small d = true ∧ ∀ H', Same H H' → Q (.bl (linesD d)) H'

theorem all_take_succ {α : Type} {l : List α} {f : α → Bool} {i : Nat} {c : α} (h : l[i]? = some c) : (l.take (i + 1)).map f = (l.take i).map f ++ [f c] := by
  rw [List.take_add_one, h, List.map_append]
  rfl
theorem cs_get {x : Str} {i c : Nat} (h : x.cps[i]? = some c) : (cs x)[i]? = some c := by rw [← h]; simp
theorem all_map (l : List α) (f : α → Bool) : (l.map f).all id = l.all f := by
  rw [List.all_map]; rfl
end An

set_option Elab.async false
set_option linter.all false
set_option maxRecDepth 100000
set_option maxHeartbeats 4000000
/-! displays read as data -/
namespace L2
open PySem PySem.Spec PyProof.Rows
section
variable {X : Cx} {pos : Pos} {e a b : Expr} {es : List Expr} {n m : Need} {f f' : DEnv → PyData} {g g' : DEnv → List PyData}
end
end L2

set_option Elab.async false
set_option linter.all false
set_option maxRecDepth 100000
set_option maxHeartbeats 4000000
/-! data of tuples and texts: what stays, what compares -/
namespace An
open PySem L2
theorem atI_of {xs : List V} {n : Nat} {i : Int} {v : V} (e : i = (n : Int)) (h : xs[n]? = some v) : atI xs i = some v := by
  subst e
  exact atI_nat h
end An

set_option Elab.async false
set_option linter.all false
set_option maxRecDepth 100000
set_option maxHeartbeats 4000000
/-! a shelf on the heap -/
namespace An
open PySem L2
/-- an entry: head, number, thing -/
structure En where
  h : Str
  n : Nat
  d : PyData
def dot : Str := ⟨#[46]⟩
theorem dot_is : ("." : Str) = dot := by decide +kernel
def En.nm (e : En) : Str := e.h ++ dot ++ numT e.n
/-- the next number of a head -/
def nextOf (S : List En) (h : Str) : Option Nat := S.foldl (fun acc e => if e.h = h then some (max (acc.getD 0) (e.n + 1)) else acc) none
theorem nextOf_snoc (S : List En) (e : En) (h : Str) : nextOf (S ++ [e]) h = if e.h = h then some (max ((nextOf S h).getD 0) (e.n + 1)) else nextOf S h := by
  unfold nextOf
  rw [List.foldl_append]; rfl
structure GoodE (e : En) : Prop where
  key : KeyT e.d
  free : 46 ∉ cs e.h
  num : e.n < 1000000
  hl : e.h.length ≤ 100
structure GoodS (S : List En) : Prop where
  ent : ∀ e ∈ S, GoodE e
  nd : (S.map (·.d)).Nodup
  nn : (S.map En.nm).Nodup
  len : S.length ≤ 1000
theorem GoodS.nil : GoodS [] := ⟨fun _ h => (nomatch h), List.nodup_nil, List.nodup_nil, Nat.zero_le _⟩
theorem GoodS.snoc {S : List En} {e : En} (g : GoodS S) (h : GoodE e) (h1 : e.d ∉ S.map (·.d)) (h2 : e.nm ∉ S.map En.nm) (h3 : S.length < 1000) : GoodS (S ++ [e]) :=
  ⟨mem_snoc g.ent h, by rw [List.map_append]; exact nd_snoc g.nd h1, by rw [List.map_append]; exact nd_snoc g.nn h2, by rw [List.length_append, List.length_singleton]; omega⟩
/-- all but these is as it was -/
def Off (fp : List Addr) (H H' : Hp) : Prop := ∀ b o, b ∉ fp → H b = some o → H' b = some o
theorem Off.refl (fp : List Addr) (H : Hp) : Off fp H H := fun _ _ _ h => h
theorem Off.trans {fp : List Addr} {H H1 H2 : Hp} (a : Off fp H H1) (b : Off fp H1 H2) : Off fp H H2 := fun c o n h => b c o n (a c o n h)
theorem Off.of {fp : List Addr} {H H' : Hp} (s : Same H H') : Off fp H H' := fun b o _ h => s b o h
theorem Off.mono {fp fp' : List Addr} {H H' : Hp} (h : Off fp H H') (s : ∀ b ∈ fp, b ∈ fp') : Off fp' H H' := fun b o n e => h b o (fun z => n (s b z)) e
theorem Off.upd {fp : List Addr} {H H' : Hp} {a : Addr} {o : HO} (h : Off fp H H') (m : a ∈ fp) : Off fp H (L2.upd H' a o) := fun b u n e => by
  have ne : b ≠ a := fun z => n (by rw [z]; exact m)
  rw [upd_ne ne]
  exact h b u n e
theorem Off.new {fp : List Addr} {H H' : Hp} {a : Addr} {o : HO} (h : Off fp H H') (m : H' a = none) : Off fp H (L2.upd H' a o) := h.trans (Off.of (same_upd m))
/-- the attributes of a shelf -/
def flds (d1 d2 d3 : Addr) : List (Str × V) := [("thing_by_name", .ref d1), ("name_by_thing", .ref d2), ("next_numbers", .ref d3)]
/-- no tuple and no list stands at these -/
def NoSeq (H : Hp) (fp : List Addr) : Prop := ∀ b ∈ fp, ∃ o, H b = some o ∧ (∀ xs, o ≠ .tup xs) ∧ (∀ xs, o ≠ .lst xs) ∧ ∀ u v, o ≠ .frz u v
structure ShAt (P : Program) (w : World) (K : PySem.W.Frag) (C : Addr) (H : Hp) (a : Addr) (fp : List Addr) (S : List En) : Prop where
  good : GoodS S
  at_ : ∃ (dx d1 d2 d3 : Addr) (ts : List Addr) (nx : List (Key × V)), fp = [a, dx, d1, d2, d3] ∧ (fp).Nodup ∧ H a = some (.ins C dx (flds d1 d2 d3)) ∧ H dx = some (.own a) ∧ ts.length = S.length ∧
    H d1 = some (.dK ((S.zip ts).map fun e => ((Sum.inr e.1.nm : Key), V.ref e.2))) ∧ ThD P w K H d2 (S.map fun e => (e.d, V.str e.nm)) ∧
    H d3 = some (.dK nx) ∧ nx.length ≤ S.length ∧ (∀ h, valV nx (Sum.inr h : Key) = (nextOf S h).map fun n : Nat => V.int (n : Int)) ∧
    ∀ (i : Nat) (e : En) (t : Addr), S[i]? = some e → ts[i]? = some t → Dt K H e.d (.ref t)
theorem rd_noseq {H : Hp} {b : Addr} {o : HO} (h : H b = some o) (h1 : ∀ xs, o ≠ .tup xs) (h2 : ∀ u v, o ≠ .frz u v) : ∀ xs, ¬ Rd H b (.tup xs) := fun xs z => by
  rcases z with z | ⟨u, z⟩
  · rw [h] at z; exact h1 xs (Option.some.inj z)
  · rw [h] at z; exact h2 u _ (Option.some.inj z)
mutual
theorem Dt.off {K : PySem.W.Frag} {H H' : Hp} {fp : List Addr} (n : ∀ b ∈ fp, ∀ xs, ¬ Rd H b (.tup xs)) (o : Off fp H H') : ∀ (k : PyData) (v : V), txtT k = true → Dt K H k v → Dt K H' k v
  | .str x, _, _, h => h
  | .tuple ds, _, t, ⟨a, xs, h1, h2, h3⟩ => by
    refine ⟨a, xs, h1, ?_, DtAll.off n o ds xs t h3⟩
    rcases h2 with h2 | h2
    · have ne : a ∉ fp := fun z => n a z xs h2
      rcases h2 with h2 | ⟨u, h2⟩
      · exact .inl (.inl (o a _ ne h2))
      · exact .inl (.inr ⟨u, o a _ ne h2⟩)
    · exact .inr h2
  | .none, _, t, _ => by cases t
  | .bool _, _, t, _ => by cases t
  | .int _, _, t, _ => by cases t
  | .list _, _, t, _ => by cases t
  | .dict _, _, t, _ => by cases t
theorem DtAll.off {K : PySem.W.Frag} {H H' : Hp} {fp : List Addr} (n : ∀ b ∈ fp, ∀ xs, ¬ Rd H b (.tup xs)) (o : Off fp H H') : ∀ (ks : List PyData) (vs : List V), txtAll ks = true → DtAll K H ks vs → DtAll K H' ks vs
  | [], _, _, h => h
  | k :: ks, _, t, ⟨x, r, h1, h2, h3⟩ => by
    have t : (txtT k && txtAll ks) = true := t
    rw [Bool.and_eq_true] at t
    exact ⟨x, r, h1, Dt.off n o k x t.1 h2, DtAll.off n o ks r t.2 h3⟩
end
theorem ThD.off {P : Program} {w : World} {K : PySem.W.Frag} {H H' : Hp} {fp : List Addr} {d : Addr} {ps : List (PyData × V)} (n : ∀ b ∈ fp, ∀ xs, ¬ Rd H b (.tup xs)) (o : Off fp H H') (e : H' d = H d) (T : ThD P w K H d ps) : ThD P w K H' d ps := by
  obtain ⟨hl, hk, nd, xs, e1, r⟩ := T
  refine ⟨hl, hk, nd, xs, by rw [e]; exact e1, ?_⟩
  have key : ∀ {ps : List (PyData × V)} {xs : List (PyData × Addr × Value)}, (∀ p ∈ ps, KeyT p.1) → Paired (TRel K H) ps xs → Paired (TRel K H') ps xs := by
    intro ps xs hkk r
    induction r with
    | nil => exact .nil
    | cons r1 _ ih => exact .cons ⟨r1.1, Dt.off n o _ _ (hkk _ List.mem_cons_self).1 r1.2.1, r1.2.2⟩ (ih fun p hp => hkk p (List.mem_cons_of_mem _ hp))
  exact key hk r
/-- a shelf that is not touched -/
theorem ShAt.off {P : Program} {w : World} {K : PySem.W.Frag} {C : Addr} {H H' : Hp} {a : Addr} {fp gp : List Addr} {S : List En} (n : ∀ b ∈ gp, ∀ xs, ¬ Rd H b (.tup xs)) (o : Off gp H H') (dj : ∀ b ∈ fp, b ∉ gp) (h : ShAt P w K C H a fp S) : ShAt P w K C H' a fp S := by
  obtain ⟨g, dx, d1, d2, d3, ts, nx, rfl, nd, h1, h2, h3, h4, h5, h6, h7, h8, h9⟩ := h
  have k : ∀ b u, b ∈ [a, dx, d1, d2, d3] → H b = some u → H' b = some u := fun b u m e => o b u (dj b m) e
  obtain ⟨xs, e5, _⟩ := h5.2.2.2
  refine ⟨g, dx, d1, d2, d3, ts, nx, rfl, nd, k _ _ (by simp) h1, k _ _ (by simp) h2, h3, k _ _ (by simp) h4, ThD.off n o ?_ h5, k _ _ (by simp) h6, h7, h8, fun i e t q1 q2 => Dt.off n o _ _ (g.ent e (List.mem_of_getElem? q1)).key.1 (h9 i e t q1 q2)⟩
  rw [e5]; exact k _ _ (by simp) e5
theorem ShAt.same {P : Program} {w : World} {K : PySem.W.Frag} {C : Addr} {H H' : Hp} {a : Addr} {fp : List Addr} {S : List En} (s : Same H H') (h : ShAt P w K C H a fp S) : ShAt P w K C H' a fp S :=
  h.off (gp := []) (fun b m => (nomatch m)) (Off.of s) (fun b _ => by simp)
/-- what stands at a shelf's places -/
theorem ShAt.noseq {P : Program} {w : World} {K : PySem.W.Frag} {C : Addr} {H : Hp} {a : Addr} {fp : List Addr} {S : List En} (h : ShAt P w K C H a fp S) : NoSeq H fp := by
  obtain ⟨g, dx, d1, d2, d3, ts, nx, rfl, nd, h1, h2, h3, h4, h5, h6, h7, h8, h9⟩ := h
  obtain ⟨xs, e5, _⟩ := h5.2.2.2
  intro b m
  simp only [List.mem_cons, List.not_mem_nil, or_false] at m
  rcases m with rfl | rfl | rfl | rfl | rfl
  · exact ⟨_, h1, fun _ z => (nomatch z), fun _ z => (nomatch z), fun _ _ z => (nomatch z)⟩
  · exact ⟨_, h2, fun _ z => (nomatch z), fun _ z => (nomatch z), fun _ _ z => (nomatch z)⟩
  · exact ⟨_, h4, fun _ z => (nomatch z), fun _ z => (nomatch z), fun _ _ z => (nomatch z)⟩
  · exact ⟨_, e5, fun _ z => (nomatch z), fun _ z => (nomatch z), fun _ _ z => (nomatch z)⟩
  · exact ⟨_, h6, fun _ z => (nomatch z), fun _ z => (nomatch z), fun _ _ z => (nomatch z)⟩
theorem NoSeq.tup {H : Hp} {fp : List Addr} (h : NoSeq H fp) : ∀ b ∈ fp, ∀ xs, ¬ Rd H b (.tup xs) := fun b m xs => by
  obtain ⟨o, e, n1, _, n2⟩ := h b m
  exact rd_noseq e n1 n2 xs
/-! ### what is put anew -/
theorem put_new {κ : Type} [DecidableEq κ] {kvs : List (κ × V)} {k : κ} {v : V} (h : k ∉ kvs.map (·.1)) : putK kvs k v = kvs ++ [(k, v)] := by
  unfold putK
  rw [if_neg]
  intro z
  obtain ⟨kv, hm, e⟩ := List.any_eq_true.mp z
  exact h (List.mem_map.mpr ⟨kv, hm, of_decide_eq_true e⟩)
theorem val_mem {κ : Type} [DecidableEq κ] : ∀ {kvs : List (κ × V)} {k : κ} {v : V}, (kvs.map (·.1)).Nodup → (k, v) ∈ kvs → valV kvs k = some v
  | [], _, _, _, h => (nomatch h)
  | p :: r, k, v, nd, h => by
    rw [List.map_cons, List.nodup_cons] at nd
    unfold valV
    rw [List.find?_cons]
    rcases List.mem_cons.mp h with e | h
    · subst e
      rw [decide_eq_true (show ((k, v) : κ × V).1 = k from rfl)]; rfl
    · rw [decide_eq_false (show ¬ p.1 = k from fun z => nd.1 (List.mem_map.mpr ⟨(k, v), h, z.symm⟩))]
      exact val_mem nd.2 h
theorem nm_cs (e : En) : cs e.nm = cs e.h ++ 46 :: cs (numT e.n) := by
  unfold En.nm
  rw [cs_append, cs_append]
  show cs e.h ++ [46] ++ cs (numT e.n) = _
  simp
theorem numT_inj {m n : Nat} (h : numT m = numT n) : m = n := by
  have h0 : cs (numT m) = cs (numT n) := by rw [h]
  have h1 := PySem.W.KIN.signs_num m
  have h2 := PySem.W.KIN.signs_num n
  have h3 := PySem.W.KIN.val_back m
  have h4 := PySem.W.KIN.val_back n
  rw [← h1] at h3
  rw [← h2] at h4
  have h0 : (Str.ofString (toString ((m : Nat) : Int))).cps.toList = (Str.ofString (toString ((n : Nat) : Int))).cps.toList := h0
  rw [h0] at h3
  exact h3.symm.trans h4
theorem split46 : ∀ {a b r s : List Nat}, ¬ (46 ∈ a) → ¬ (46 ∈ b) → a ++ 46 :: r = b ++ 46 :: s → a = b ∧ r = s
  | [], [], r, s, _, _, h => ⟨rfl, by injection h⟩
  | [], y :: b, r, s, _, hb, h => by
    injection h with h1 h2
    exact absurd (by rw [← h1]; exact List.mem_cons_self) hb
  | x :: a, [], r, s, ha, _, h => by
    injection h with h1 h2
    exact absurd (by rw [h1]; exact List.mem_cons_self) ha
  | x :: a, y :: b, r, s, ha, hb, h => by
    injection h with h1 h2
    obtain ⟨e1, e2⟩ := split46 (fun z => ha (List.mem_cons_of_mem _ z)) (fun z => hb (List.mem_cons_of_mem _ z)) h2
    exact ⟨by rw [h1, e1], e2⟩
theorem nm_inj {e f : En} (he : 46 ∉ cs e.h) (hf : 46 ∉ cs f.h) (h : e.nm = f.nm) : e.h = f.h ∧ e.n = f.n := by
  have := congrArg cs h
  rw [nm_cs, nm_cs] at this
  obtain ⟨h1, h2⟩ := split46 he hf this
  exact ⟨cs_inj h1, numT_inj (cs_inj h2)⟩
theorem next_gt : ∀ {S : List En} {e : En}, e ∈ S → e.n < (nextOf S e.h).getD 0 := by
  have key : ∀ (S : List En) (acc : Option Nat) (h : Str), acc.getD 0 ≤ (S.foldl (fun acc e => if e.h = h then some (max (acc.getD 0) (e.n + 1)) else acc) acc).getD 0 ∧ ∀ e ∈ S, e.h = h → e.n < (S.foldl (fun acc e => if e.h = h then some (max (acc.getD 0) (e.n + 1)) else acc) acc).getD 0 := by
    intro S
    induction S with
    | nil => intro acc h; exact ⟨Nat.le_refl _, fun e he => (nomatch he)⟩
    | cons f S ih =>
      intro acc h
      rw [List.foldl_cons]
      obtain ⟨i1, i2⟩ := ih (if f.h = h then some (max (acc.getD 0) (f.n + 1)) else acc) h
      have mono : acc.getD 0 ≤ (if f.h = h then some (max (acc.getD 0) (f.n + 1)) else acc).getD 0 := by
        split
        · exact Nat.le_max_left _ _
        · exact Nat.le_refl _
      refine ⟨Nat.le_trans mono i1, fun e he eh => ?_⟩
      rcases List.mem_cons.mp he with rfl | he
      · rw [if_pos eh] at i1 ⊢
        have : e.n + 1 ≤ (some (max (acc.getD 0) (e.n + 1))).getD 0 := Nat.le_max_right _ _
        omega
      · exact i2 e he eh
  intro S e he
  exact (key S none e.h).2 e he rfl
/-- a new name is one that is not there -/
theorem new_nm {S : List En} (g : GoodS S) {h : Str} {d : PyData} (hf : 46 ∉ cs h) : (En.mk h ((nextOf S h).getD 0) d).nm ∉ S.map En.nm := fun z => by
  obtain ⟨e, he, q⟩ := List.mem_map.mp z
  obtain ⟨h1, h2⟩ := nm_inj (g.ent e he).free hf q
  have := next_gt he
  have h1 : e.h = h := h1
  have h2 : e.n = (nextOf S h).getD 0 := h2
  rw [h1] at this
  omega
end An

set_option Elab.async false
set_option linter.all false
set_option maxRecDepth 100000
set_option maxHeartbeats 4000000
/-! things, their spelling and digest, as plain functions -/
namespace An
open PySem L2

def dig (n : Nat) : Str := Str.ofString (toString ((n : Nat) : Int))
def enc (p : Str) : List Nat := cs (dig p.length) ++ 58 :: cs p

inductive Th where
  | leaf (ls : List Str)
  | tree (rows : List (Str × Str))
  | note (t : Str) (ps : List Str) (w : Str)
def rowsFlat : List (Str × Str) → List Str
  | [] => []
  | r :: rs => r.1 :: r.2 :: rowsFlat rs
theorem rowsFlat_append : ∀ (a b : List (Str × Str)), rowsFlat (a ++ b) = rowsFlat a ++ rowsFlat b
  | [], _ => rfl
  | (x, y) :: a, b => by
    show x :: y :: rowsFlat (a ++ b) = x :: y :: (rowsFlat a ++ rowsFlat b)
    rw [rowsFlat_append a b]
def Th.word : Th → Str
  | .leaf _ => "leaf" | .tree _ => "tree" | .note _ _ _ => "note"
def Th.letter : Th → Str
  | .leaf _ => "L" | .tree _ => "T" | .note _ _ _ => "N"
def Th.parts : Th → List Str
  | .leaf ls => ls
  | .tree rows => rowsFlat rows
  | .note t ps w => [t, dig ps.length] ++ ps ++ [w]
def counted (p : Str) : Str := dig p.length ++ ":" ++ p
/-- one part more, as the law has it -/
def more (x p : Str) : Str := x ++ dig p.length ++ ":" ++ p
def Th.sp (t : Th) : Str := t.parts.foldl more t.letter
theorem cs_colon : cs (":" : Str) = [58] := by decide +kernel
theorem cs_counted (p : Str) : cs (counted p) = enc p := by
  unfold counted enc
  rw [cs_append, cs_append, cs_colon]
  simp
theorem cs_more (x p : Str) : cs (more x p) = cs x ++ enc p := by
  unfold more enc
  rw [cs_append, cs_append, cs_append, cs_colon]
  simp
theorem cs_foldl : ∀ (ps : List Str) (x : Str), cs (ps.foldl more x) = cs x ++ ps.flatMap enc
  | [], x => by simp
  | p :: ps, x => by
    rw [List.foldl_cons, cs_foldl ps, cs_more, List.flatMap_cons, List.append_assoc]
theorem cs_sp (t : Th) : cs t.sp = cs t.letter ++ t.parts.flatMap enc := cs_foldl _ _
/-- as the program has it -/
theorem sp_eq (t : Th) : t.letter ++ Txt.join "" (t.parts.map counted) = t.sp := by
  apply cs_inj
  rw [cs_append, cs_sp]
  have e : cs (Txt.join "" (t.parts.map counted)) = t.parts.flatMap enc := by
    show cs (Builtin.Str.glued "" (t.parts.map counted)) = _
    rw [StrLaws.glued_eq_join]
    rw [cs_joinNil, List.flatMap_map]
    congr 1
    funext p
    exact cs_counted p
  rw [e]
theorem letter_cs (t : Th) : cs t.letter = [match t with | .leaf _ => 76 | .tree _ => 84 | .note _ _ _ => 78] := by
  cases t
  · show cs ("L" : Str) = [76]
    decide +kernel
  · show cs ("T" : Str) = [84]
    decide +kernel
  · show cs ("N" : Str) = [78]
    decide +kernel
/-- the digest of a text -/
def dgs (n : Int) (c : Nat) : Int := (31 * n + c) % 97
def dg (x : Str) : Int := (cs x).foldl dgs 0

/-! ### a thing as data -/
def rowDat (r : Str × Str) : PyData := .tuple [.str r.1, .str r.2]
def Th.dat : Th → PyData
  | .leaf ls => .tuple [.str "leaf", .tuple (ls.map .str)]
  | .tree rows => .tuple [.str "tree", .tuple (rows.map rowDat)]
  | .note t ps w => .tuple [.str "note", .str t, .tuple (ps.map .str), .str w]
/-! ### texts that are small and good -/
/-- what a thing's texts are like -/
def Th.Good (t : Th) : Prop := t.parts.length ≤ 1000 ∧ ∀ p ∈ t.parts, Ok 1000 p
theorem lay_rows : ∀ rs : List (Str × Str), (∀ p ∈ rowsFlat rs, PyData.strOk p = true) → PyData.canLayAll0 (rs.map rowDat) = true ∧ PyData.depthAll (rs.map rowDat) ≤ 1
  | [], _ => ⟨rfl, Nat.zero_le _⟩
  | (x, y) :: rs, h => by
    obtain ⟨h1, h2⟩ := lay_rows rs fun p hp => h p (List.mem_cons_of_mem _ (List.mem_cons_of_mem _ hp))
    refine ⟨?_, ?_⟩
    · show ((PyData.strOk x && (PyData.strOk y && true)) && PyData.canLayAll0 (rs.map rowDat)) = true
      rw [h x List.mem_cons_self, h y (List.mem_cons_of_mem _ List.mem_cons_self), h1]; rfl
    · show max (max 0 (max 0 0) + 1) (PyData.depthAll (rs.map rowDat)) ≤ 1
      omega
theorem shaped_dat {t : Th} (g : t.Good) : SeqAt.shaped t.dat = true := by
  have hs : ∀ p ∈ t.parts, PyData.strOk p = true := fun p hp => (g.2 p hp).ok
  cases t with
  | leaf ls =>
    obtain ⟨h1, h2⟩ := lay_strs ls hs
    show ((PyData.strOk "leaf" && (PyData.canLayAll0 (ls.map .str) && true)) && decide (max 0 (max (PyData.depthAll (ls.map .str) + 1) 0) + 1 ≤ 64)) = true
    rw [h1, h2, show PyData.strOk "leaf" = true by decide +kernel]; rfl
  | tree rs =>
    obtain ⟨h1, h2⟩ := lay_rows rs hs
    show ((PyData.strOk "tree" && (PyData.canLayAll0 (rs.map rowDat) && true)) && decide (max 0 (max (PyData.depthAll (rs.map rowDat) + 1) 0) + 1 ≤ 64)) = true
    rw [h1, show PyData.strOk "tree" = true by decide +kernel, decide_eq_true (show max 0 (max (PyData.depthAll (rs.map rowDat) + 1) 0) + 1 ≤ 64 by omega)]; rfl
  | note x ps w =>
    have p1 : ∀ p ∈ ps, PyData.strOk p = true := fun p hp => hs p (by show p ∈ [x, dig ps.length] ++ ps ++ [w]; simp [hp])
    have p2 : PyData.strOk x = true := hs x (by show x ∈ [x, dig ps.length] ++ ps ++ [w]; simp)
    have p3 : PyData.strOk w = true := hs w (by show w ∈ [x, dig ps.length] ++ ps ++ [w]; simp)
    obtain ⟨h1, h2⟩ := lay_strs ps p1
    show ((PyData.strOk "note" && (PyData.strOk x && (PyData.canLayAll0 (ps.map .str) && (PyData.strOk w && true)))) && decide (max 0 (max 0 (max (PyData.depthAll (ps.map .str) + 1) (max 0 0))) + 1 ≤ 64)) = true
    rw [h1, h2, p2, p3, show PyData.strOk "note" = true by decide +kernel]; rfl
end An

set_option Elab.async false
set_option linter.all false
set_option maxRecDepth 100000
set_option maxHeartbeats 4000000
/-! dicts that are held from some place on: walks over keys and pairs, in, list, isinstance -/
namespace L2
open PySem PySem.Spec PyProof.Rows
section
variable {X : Cx} {pins : List (Addr × Obj)} {σ : St} {H : Hp} {s : Shared} {d : Addr} {kvs : List (Key × V)}
end
section
variable {X : Cx} {tg : Expr}
/-! ### over all keys, all pairs -/
section
variable {d : Addr} {kvs : List (Key × V)} {ob : Obj} {g : TG} {tb : TS} {D : Ends} {σ : St} {H : Hp}
end
/-! ### in, isinstance, list -/
def rInZ : R2 := fun y x H Q => ∃ a o, x = .ref a ∧ DGet H a y o ∧ Q (.bl o.isSome) H
theorem op_inZ (hu : X.A.units + 64 < cLine) : OpR X (compareOp .In) rInZ := by
  intro pins s σ H y x v u Q I ry rx h
  obtain ⟨a, o, rfl, g, q⟩ := h
  cases rx
  exact d_in (by omega) I g ry fun s' I' => ⟨.bl _, H, I', rfl, q⟩
/-! ### == and != of dicts that are held -/
inductive Hits (K : PySem.W.Frag) (H : Hp) (kb : List (Key × V)) : List (Key × V) → Bool → Prop
  | nil : Hits K H kb [] true
  | miss {k : Key} {v : V} {r : List (Key × V)} : valV kb k = none → Hits K H kb ((k, v) :: r) false
  | hit {k : Key} {v y : V} {d e : PyData} {r : List (Key × V)} {b : Bool} : valV kb k = some y → Dt K H d v → Dt K H e y → SeqAt.shaped d = true → SeqAt.shaped e = true → Hits K H kb r b → Hits K H kb ((k, v) :: r) (PyData.eqv d e && b)
end
end L2

set_option Elab.async false
set_option linter.all false
set_option maxRecDepth 100000
set_option maxHeartbeats 4000000
namespace An03
open PySem L2 An
seal L2.PS L2.PSs L2.PE L2.PT L2.PW L2.PA L2.PG L2.PGs L2.PI L2.PFi L2.PC
def top (i : Nat) : Stmt := PySem.Challenge.pw_annals_k03_names_on_a_shelf.main.body.getD i (.Pass ⟨0, 0, 0, 0⟩)
def kinds : List String := ["NoneType", "bool", "int", "str", "list", "tuple", "dict"]
/-- the letters, as the text's top has them -/
def lettersKvs : List (Key × V) := [(Sum.inr "leaf", .str "L"), (Sum.inr "tree", .str "T"), (Sum.inr "note", .str "N")]
theorem letters_at (t : Th) : valV lettersKvs (Sum.inr t.word : Key) = some (.str t.letter) := by
  cases t
  · show valV lettersKvs (Sum.inr "leaf" : Key) = some (.str "L")
    decide +kernel
  · show valV lettersKvs (Sum.inr "tree" : Key) = some (.str "T")
    decide +kernel
  · show valV lettersKvs (Sum.inr "note" : Key) = some (.str "N")
    decide +kernel
/-! ### how things lie -/
section
variable {K : PySem.W.Frag} {H : Hp}
theorem leaf_at {ls : List Str} {v : V} (h : Dt K H (Th.leaf ls).dat v) : ∃ a b, v = .ref a ∧ SqT K H a [.str "leaf", .ref b] ∧ SqT K H b (ls.map V.str) := by
  obtain ⟨a, xs, rfl, hs, x0, r0, rfl, e0, x1, r1, rfl, ⟨b, ys, rfl, hb, hy⟩, e2⟩ := h
  have e0 : x0 = .str "leaf" := e0
  have e2 : r1 = [] := e2
  subst e0 e2
  rw [DtAll.strs_of hy] at hb
  exact ⟨a, b, rfl, hs, hb⟩
theorem tree_at {rs : List (Str × Str)} {v : V} (h : Dt K H (Th.tree rs).dat v) : ∃ a b, v = .ref a ∧ SqT K H a [.str "tree", .ref b] ∧ Dt K H (.tuple (rs.map rowDat)) (.ref b) := by
  obtain ⟨a, xs, rfl, hs, x0, r0, rfl, e0, x1, r1, rfl, ⟨b, ys, rfl, hb, hy⟩, e2⟩ := h
  have e0 : x0 = .str "tree" := e0
  have e2 : r1 = [] := e2
  subst e0 e2
  exact ⟨a, b, rfl, hs, b, ys, rfl, hb, hy⟩
theorem note_at {t : Str} {ps : List Str} {w : Str} {v : V} (h : Dt K H (Th.note t ps w).dat v) : ∃ a b, v = .ref a ∧ SqT K H a [.str "note", .str t, .ref b, .str w] ∧ SqT K H b (ps.map V.str) := by
  obtain ⟨a, xs, rfl, hs, x0, r0, rfl, e0, x1, r1, rfl, e1, x2, r2, rfl, ⟨b, ys, rfl, hb, hy⟩, x3, r3, rfl, e3, e4⟩ := h
  have e0 : x0 = .str "note" := e0
  have e1 : x1 = .str t := e1
  have e3 : x3 = .str w := e3
  have e4 : r3 = [] := e4
  subst e0 e1 e3 e4
  rw [DtAll.strs_of hy] at hb
  exact ⟨a, b, rfl, hs, hb⟩
theorem thing_at {t : Th} {v : V} (h : Dt K H t.dat v) : ∃ a r, v = .ref a ∧ SqT K H a (.str t.word :: r) := by
  cases t with
  | leaf ls => obtain ⟨a, b, e, h1, _⟩ := leaf_at h; exact ⟨a, _, e, h1⟩
  | tree rs => obtain ⟨a, b, e, h1, _⟩ := tree_at h; exact ⟨a, _, e, h1⟩
  | note t ps w => obtain ⟨a, b, e, h1, _⟩ := note_at h; exact ⟨a, _, e, h1⟩
theorem row_at {r : Str × Str} {v : V} (h : Dt K H (rowDat r) v) : ∃ a, v = .ref a ∧ SqT K H a [.str r.1, .str r.2] := by
  obtain ⟨a, xs, rfl, hs, x0, r0, rfl, e0, x1, r1, rfl, e1, e2⟩ := h
  have e0 : x0 = .str r.1 := e0
  have e1 : x1 = .str r.2 := e1
  have e2 : r1 = [] := e2
  subst e0 e1 e2
  exact ⟨a, rfl, hs⟩
theorem rows_get {rs : List (Str × Str)} {xs : List V} {i : Nat} {x : V} (h : DtAll K H (rs.map rowDat) xs) (e : xs[i]? = some x) : ∃ r a, rs[i]? = some r ∧ x = .ref a ∧ SqT K H a [.str r.1, .str r.2] := by
  obtain ⟨d, e1, e2⟩ := h.get e
  rw [List.getElem?_map] at e1
  cases q : rs[i]? with
  | none => rw [q] at e1; cases e1
  | some r =>
    rw [q] at e1
    have e1 : rowDat r = d := Option.some.inj e1
    subst e1
    obtain ⟨a, e3, e4⟩ := row_at e2
    exact ⟨r, a, rfl, e3, e4⟩
end
/-! ### promises -/
def spLetter (K : PySem.W.Frag) : Sp := fun vs H Q _ => ∃ v t, vs = [v] ∧ Dt K H (Th.dat t) v ∧ Q (.str t.letter) H
def spTreeParts (K : PySem.W.Frag) : Sp := fun vs H Q _ => ∃ v rs, vs = [v] ∧ Dt K H (.tuple (rs.map rowDat)) v ∧ rs.length ≤ 1000 ∧ ∀ l, H l = none → Q (.ref l) (upd H l (.lst ((rowsFlat rs).map V.str)))
def spParts (K : PySem.W.Frag) : Sp := fun vs H Q _ => ∃ v t, vs = [v] ∧ Dt K H (Th.dat t) v ∧ t.Good ∧ ∀ l H', Same H H' → H l = none → H' l = some (.lst (t.parts.map V.str)) → Q (.ref l) H'
def spCounted : Sp := fun vs H Q _ => ∃ x, vs = [.str x] ∧ x.length ≤ 1000 ∧ Q (.str (counted x)) H
def spSpelled (K : PySem.W.Frag) : Sp := fun vs H Q _ => ∃ v t, vs = [v] ∧ Dt K H (Th.dat t) v ∧ t.Good ∧ ∀ H', Same H H' → Q (.str t.sp) H'
def spDigest (K : PySem.W.Frag) : Sp := fun vs H Q _ => ∃ v t, vs = [v] ∧ Dt K H (Th.dat t) v ∧ t.Good ∧ ∀ H', Same H H' → Q (.int (dg t.sp)) H'

/-- what the walk asks of the text's top -/
structure Txt (P : Program) (w : World) (K : PySem.W.Frag) (mg : Str → Option Value) (t1 t2 t3 t4 : Tok) (aL aC aN aT : Addr) : Prop where
  len : mg "len" = none
  all : mg "all" = none
  ord : mg "ord" = none
  isinstance : mg "isinstance" = none
  str : mg "str" = none
  tuple : mg "tuple" = none
  list : mg "list" = none
  max : mg "max" = none
  int : mg "int" = none
  bool : mg "bool" = none
  range : mg "range" = none
  LONGEST_LINE : mg "LONGEST_LINE" = some (.int 20 t1)
  PERCENT : mg "PERCENT" = some (.int 37 t2)
  DIGEST_FACTOR : mg "DIGEST_FACTOR" = some (.int 31 t3)
  DIGEST_BOUND : mg "DIGEST_BOUND" = some (.int 97 t4)
  LETTERS : mg "LETTERS" = some (.ref aL)
  NoName : mg "NoName" = some (.ref aN)
  NoThing : mg "NoThing" = some (.ref aT)
  Shelf : mg "Shelf" = some (.ref aC)
  xNoName : PySem.W.excIn K aN mroVE "ValueError.__new__" = true
  xNoThing : PySem.W.excIn K aT mroVE "ValueError.__new__" = true
  kd : KD P w K aL lettersKvs
  cls : Cls K aC
  n1 : NoAttr K aC "thing_by_name"
  n2 : NoAttr K aC "name_by_thing"
  n3 : NoAttr K aC "next_numbers"
  kit : ∀ a ∈ kinds, ∀ b ∈ kinds, PySem.W.kitOne K (.type a) (.type b) = some (a == b || (a == "bool" && b == "int"))
theorem nameD_in (d : PyData) : nameD d ∈ kinds := by cases d <;> simp [nameD, kinds]
/-! ### promises -/
def goodLeaf (ls : List Str) : Prop := (∀ l ∈ ls, lineB l = true) ∧ ls.length ≤ 60
/-- what this law's shelves are asked -/
def spIsLeaf (K : PySem.W.Frag) : Sp := fun vs H Q _ => ∃ (p b : Addr) (ls : List Str), vs = [.str "leaf", .ref p] ∧ SqT K H p [.ref b] ∧ SqT K H b (ls.map V.str) ∧ goodLeaf ls ∧ ∀ H', Same H H' → Q (.bl true) H'
def spIsThing (K : PySem.W.Frag) : Sp := fun vs H Q _ => ∃ (v : V) (ls : List Str), vs = [v] ∧ Dt K H (Th.leaf ls).dat v ∧ goodLeaf ls ∧ ∀ H', Same H H' → Q (.bl true) H'
def spNeedT (K : PySem.W.Frag) : Sp := fun vs H Q _ => ∃ (v : V) (ls : List Str), vs = [v] ∧ Dt K H (Th.leaf ls).dat v ∧ goodLeaf ls ∧ ∀ H', Same H H' → Q v H'
def spTake (P : Program) (w : World) (K : PySem.W.Frag) (C : Addr) : Sp := fun vs H Q _ => ∃ (a : Addr) (fp : List Addr) (S : List En) (e : En) (t : Addr), vs = [.ref a, .str e.nm, .ref t] ∧ ShAt P w K C H a fp S ∧ GoodE e ∧ Dt K H e.d (.ref t) ∧ e.d ∉ S.map (·.d) ∧ e.nm ∉ S.map En.nm ∧ S.length < 1000 ∧
  ∀ H', Off fp H H' → ShAt P w K C H' a fp (S ++ [e]) → Q .non H'
def spKey : Sp := fun vs H Q _ => ∃ (d1 : Addr) (kvs : List (Key × V)) (x : Str), vs = [.ref d1, .str x] ∧ H d1 = some (.dK kvs) ∧ Q (.bl (valV kvs (Sum.inr x : Key)).isSome) H
def spNeedName (P : Program) (w : World) (K : PySem.W.Frag) (C : Addr) : Sp := fun vs H Q _ => ∃ (a : Addr) (fp : List Addr) (S : List En) (x : Str), vs = [.ref a, .str x] ∧ ShAt P w K C H a fp S ∧ x ∈ S.map En.nm ∧ Q .non H
def spHas (P : Program) (w : World) (K : PySem.W.Frag) (C : Addr) : Sp := fun vs H Q _ => ∃ (a : Addr) (fp : List Addr) (S : List En) (x : Str), vs = [.ref a, .str x] ∧ ShAt P w K C H a fp S ∧ Q (.bl (decide (x ∈ S.map En.nm))) H
def spThing (P : Program) (w : World) (K : PySem.W.Frag) (C : Addr) : Sp := fun vs H Q _ => ∃ (a : Addr) (fp : List Addr) (S : List En) (e : En), vs = [.ref a, .str e.nm] ∧ ShAt P w K C H a fp S ∧ e ∈ S ∧ ∀ t, Dt K H e.d (.ref t) → Q (.ref t) H
def spNames (P : Program) (w : World) (K : PySem.W.Frag) (C : Addr) : Sp := fun vs H Q _ => ∃ (a : Addr) (fp : List Addr) (S : List En), vs = [.ref a] ∧ ShAt P w K C H a fp S ∧ ∀ l, H l = none → Q (.ref l) (upd H l (.lst (S.map fun e => V.str e.nm)))
def spNeedN (K : PySem.W.Frag) : Sp := fun vs H Q _ => ∃ (a v : V) (ls : List Str), vs = [a, v] ∧ Dt K H (Th.leaf ls).dat v ∧ Q .non H
def headL (ls : List Str) : Str := "L" ++ numT (dg (Th.leaf ls).sp).toNat
def entL (S : List En) (ls : List Str) : En := ⟨headL ls, (nextOf S (headL ls)).getD 0, (Th.leaf ls).dat⟩
def spPut (P : Program) (w : World) (K : PySem.W.Frag) (C : Addr) : Sp := fun vs H Q _ => ∃ (a : Addr) (fp : List Addr) (S : List En) (v : V) (ls : List Str), vs = [.ref a, v] ∧ ShAt P w K C H a fp S ∧ Dt K H (Th.leaf ls).dat v ∧ goodLeaf ls ∧ S.length < 1000 ∧ (nextOf S (headL ls)).getD 0 < 1000000 ∧
  (∀ e ∈ S, e.d = (Th.leaf ls).dat → ∀ H', Same H H' → Q (.str e.nm) H') ∧
  ((Th.leaf ls).dat ∉ S.map (·.d) → ∀ H', Off fp H H' → ShAt P w K C H' a fp (S ++ [entL S ls]) → Q (.str (entL S ls).nm) H')
section
variable {P : Program} {w : World} {K : PySem.W.Frag} {mg : Str → Option Value} {base : Heap} {t1 t2 t3 t4 : Tok} {aL aC aN aT : Addr}
theorem Txt.is {d : PyData} {T : String} (t : Txt P w K mg t1 t2 t3 t4 aL aC aN aT) (hT : T ∈ kinds) : PySem.W.kitOne K (.type (nameD d)) (.type T) = some (nameD d == T || (nameD d == "bool" && T == "int")) := t.kit _ (nameD_in d) _ hT
namespace f_is_sign
abbrev st : Stmt := top 15
theorem sc : FnScope ["sign"] ["sign"] (defScope st) := ⟨rfl, rfl, rfl, by decide +kernel, rfl, by decide +kernel, by decide +kernel⟩
theorem ok {f : Addr} {fd : FuncData} (F : Fun K "is_sign" "is_sign" st f fd) (T : Txt P w K mg t1 t2 t3 t4 aL aC aN aT) : FnOk P w K mg base CX0 1 f fd ["sign"] spSign := by
  refine F.ok sc (fun vs H Q E h => ?_) (fun cdv A outer s H vs Q E hr h => ?_)
  · obtain ⟨c, rfl, _⟩ := h
    rfl
  · obtain ⟨c, rfl, k⟩ := h
    refine ⟨_, (pss_one (ps_ret (pe_and (pe_chain op_leS op_leS pe_str (pv 0) pe_str) (pe_one (pe_cmpR op_ne (pe_callB call_ord (by rfl) T.ord PyProof.Rows.boot_ord (pa_cons (pv 0) pa_nil)) (pe_glob (v := .int 37) rfl T.PERCENT ⟨_, rfl⟩) (nomark _)))))), ?_⟩
    refine ⟨_, rfl, _, _, rfl, rfl, _, rfl, ?_⟩
    rw [le_one c 32 " " (by decide +kernel)]
    refine ite2 (fun h1 => ?_) (fun h1 => ?_)
    · refine ⟨_, _, rfl, rfl, _, rfl, ?_⟩
      rw [one_le c 126 "~" (by decide +kernel)]
      refine ite2 (fun h2 => ?_) (fun h2 => ?_)
      · refine ⟨_, rfl, _, rfl, rfl, rfl, ?_⟩
        have e : signB c = !decide (V.int (((⟨#[c]⟩ : Str).cps.getD 0 0 : Nat) : Int) = V.int 37) := by
          unfold signB
          rw [h1, h2]
          show decide (c ≠ 37) = !decide (V.int (c : Int) = V.int 37)
          rw [eq_comm]
          exact not_dec ⟨fun h z => h (by rw [z]; rfl), fun h z => h (by injection z with z; omega)⟩
        rw [e] at k
        exact k
      · have e : signB c = false := by
          unfold signB
          rw [h1, Bool.eq_false_iff.mpr h2]; rfl
        rw [e] at k
        exact k
    · have e : signB c = false := by
        unfold signB
        rw [Bool.eq_false_iff.mpr h1]; rfl
      rw [e] at k
      exact ⟨_, rfl, k⟩
end f_is_sign
namespace f_is_line
abbrev st : Stmt := top 16
theorem sc : FnScope ["thing"] ["thing"] (defScope st) := ⟨rfl, rfl, rfl, by decide +kernel, rfl, by decide +kernel, by decide +kernel⟩
theorem ok {f : Addr} {fd : FuncData} (F : Fun K "is_line" "is_line" st f fd) (T : Txt P w K mg t1 t2 t3 t4 aL aC aN aT) (C_is_sign : Cal P w K mg base 1 "is_sign" ["sign"] spSign) : FnOk P w K mg base CX0 2 f fd ["thing"] (spLine K) := by
  refine F.ok sc (fun vs H Q E h => ?_) (fun cdv A outer s H vs Q E hr h => ?_)
  · obtain ⟨d, v, rfl, _⟩ := h
    rfl
  · obtain ⟨d, v, rfl, hd, sm, k⟩ := h
    refine ⟨_, (pss_one (ps_ret (pe_and (pe_callB (call_isinstD (K := K)) (by rfl) T.isinstance PyProof.Rows.boot_isinstance (pa_cons (pv 0) (pa_cons (pe_bltn (v := .ty "str") rfl T.str PyProof.Rows.boot_str rfl) pa_nil))) (pe_and (pe_cmpR op_le (pe_callB call_len_str (by rfl) T.len PySem.boot_len (pa_cons (pv 0) pa_nil)) (pe_glob (v := .int 20) rfl T.LONGEST_LINE ⟨_, rfl⟩) (nomark _)) (pe_one (pe_callB (call_all rfl) (by rfl) T.all PyProof.Rows.boot_all (pa_cons (pe_comp (sc := defScope st) (N := ["thing"]) (N' := ["sign"]) (src := [none]) ⟨by decide +kernel, rfl, rfl, by decide +kernel, by decide +kernel, by decide +kernel, by decide +kernel⟩ rfl rfl rfl (pi_str (pv 0)) (fun _ _ _ _ => (pg_name (i := 0) (show (["sign"] : List Str).Nodup by decide +kernel) rfl (Or.inl rfl))) (fun _ _ _ _ => pf_nil) (fun _ _ _ _ => (pe_callC C_is_sign (hr.mono (by decide)) (pa_cons (pv 0) pa_nil)))) pa_nil))))))), ?_⟩
    refine ⟨_, rfl, _, _, d, _, rfl, hd, T.is (by simp [kinds]), _, rfl, ?_⟩
    cases d with
    | str x =>
      cases (show v = _ from hd)
      have xl : x.length ≤ 1000 := of_decide_eq_true sm
      refine iteT ⟨_, rfl, x, rfl, le_line (by omega), _, _, rfl, rfl, _, rfl, ite2 (fun h1 => ?_) (fun h1 => ?_)⟩
      · have h1 : x.length ≤ 20 := by have := of_decide_eq_true h1; omega
        refine ⟨_, rfl, _, rfl, comp_str0 (fun i ys σ H2 => ∃ o, σ = [o] ∧ H2 = H ∧ ys = (((cs x).take i).map signB).map V.bl) ⟨none, rfl, rfl, rfl⟩ (le_line (by omega)) ?_ ?_ ?_⟩
        · rintro i ys σ H2 hi ⟨o, rfl, rfl, rfl⟩
          rw [List.length_map, List.length_map, List.length_take]; omega
        · rintro i c ys σ H2 hc ⟨o, rfl, rfl, rfl⟩
          refine ⟨_, rfl, c, rfl, _, rfl, rfl, ?_⟩
          rw [all_take_succ (cs_get hc), List.map_append]; rfl
        · rintro ys σ H2 ⟨o, rfl, rfl, rfl⟩ p np
          refine ⟨p, _, rfl, SqL.of upd_same, ?_⟩
          rw [length_cs, List.take_length, all_map]
          have e : lineD (.str x) = (cs x).all signB := by
            show (decide (x.length ≤ 20) && (cs x).all signB) = _
            rw [decide_eq_true h1]; rfl
          rw [e] at k
          exact k _ (same_upd np)
      · have e : lineD (.str x) = false := by
          show (decide (x.length ≤ 20) && (cs x).all signB) = _
          rw [decide_eq_false (fun z => h1 (decide_eq_true (by omega)))]; rfl
        rw [e] at k
        exact k _ (Same.refl _)
    | none => exact iteF (k _ (Same.refl _))
    | bool b => exact iteF (k _ (Same.refl _))
    | int i => exact iteF (k _ (Same.refl _))
    | list ds => exact iteF (k _ (Same.refl _))
    | tuple ds => exact iteF (k _ (Same.refl _))
    | dict kvs => exact iteF (k _ (Same.refl _))
end f_is_line
namespace f_is_lines
abbrev st : Stmt := top 17
theorem sc : FnScope ["thing"] ["thing"] (defScope st) := ⟨rfl, rfl, rfl, by decide +kernel, rfl, by decide +kernel, by decide +kernel⟩
theorem ok {f : Addr} {fd : FuncData} (F : Fun K "is_lines" "is_lines" st f fd) (T : Txt P w K mg t1 t2 t3 t4 aL aC aN aT) (C_is_line : Cal P w K mg base 2 "is_line" ["thing"] (spLine K)) : FnOk P w K mg base CX0 3 f fd ["thing"] (spLines K) := by
  refine F.ok sc (fun vs H Q E h => ?_) (fun cdv A outer s H vs Q E hr h => ?_)
  · obtain ⟨d, v, rfl, _⟩ := h
    rfl
  · obtain ⟨d, v, rfl, hd, sm, k⟩ := h
    refine ⟨_, (pss_one (ps_ret (pe_and (pe_callB (call_isinstD (K := K)) (by rfl) T.isinstance PyProof.Rows.boot_isinstance (pa_cons (pv 0) (pa_cons (pe_bltn (v := .ty "tuple") rfl T.tuple PyProof.Rows.boot_tuple rfl) pa_nil))) (pe_one (pe_callB (call_all rfl) (by rfl) T.all PyProof.Rows.boot_all (pa_cons (pe_comp (sc := defScope st) (N := ["thing"]) (N' := ["line"]) (src := [none]) ⟨by decide +kernel, rfl, rfl, by decide +kernel, by decide +kernel, by decide +kernel, by decide +kernel⟩ rfl rfl rfl (pi_tup (pv 0)) (fun _ _ _ _ => (pg_name (i := 0) (show (["line"] : List Str).Nodup by decide +kernel) rfl (Or.inl rfl))) (fun _ _ _ _ => pf_nil) (fun _ _ _ _ => (pe_callC C_is_line (hr.mono (by decide)) (pa_cons (pv 0) pa_nil)))) pa_nil)))))), ?_⟩
    refine ⟨_, rfl, _, _, d, _, rfl, hd, T.is (by simp [kinds]), _, rfl, ?_⟩
    cases d with
    | tuple ds =>
      obtain ⟨a, xs, rfl, hs, ha⟩ := hd
      obtain ⟨sl, sa⟩ := small_tuple sm
      have hlen := ha.length
      refine iteT ⟨_, rfl, a, rfl, ⟨_, hs⟩, comp_tup0 (K := K) (a := a) (xs := xs) (fun i ys σ H2 => ∃ o, σ = [o] ∧ Same H H2 ∧ ys = ((ds.take i).map lineD).map V.bl) ⟨none, rfl, Same.refl _, rfl⟩ (le_line (by omega)) ?_ ?_ ?_⟩
      · rintro i ys σ H2 hi ⟨o, rfl, e2, rfl⟩
        refine ⟨e2.tupS hs, ?_⟩
        rw [List.length_map, List.length_map, List.length_take]; omega
      · rintro i x ys σ H2 hx ⟨o, rfl, e2, rfl⟩
        obtain ⟨d, hd, dx⟩ := ha.get hx
        refine ⟨_, rfl, d, x, rfl, dx.same e2, smallAll_get sa hd, fun H3 e3 => ⟨_, rfl, e2.trans e3, ?_⟩⟩
        rw [all_take_succ hd, List.map_append]; rfl
      · rintro ys σ H2 ⟨o, rfl, e2, rfl⟩ p np
        refine ⟨p, _, rfl, SqL.of upd_same, ?_⟩
        rw [hlen, List.take_length, all_map]
        exact k _ (e2.trans (same_upd np))
    | none => exact iteF (k _ (Same.refl _))
    | bool b => exact iteF (k _ (Same.refl _))
    | int i => exact iteF (k _ (Same.refl _))
    | list ds => exact iteF (k _ (Same.refl _))
    | str x => exact iteF (k _ (Same.refl _))
    | dict kvs => exact iteF (k _ (Same.refl _))
end f_is_lines
namespace f_letter_of
abbrev st : Stmt := top 27
theorem sc : FnScope ["thing"] ["thing"] (defScope st) := ⟨rfl, rfl, rfl, by decide +kernel, rfl, by decide +kernel, by decide +kernel⟩
theorem ok {f : Addr} {fd : FuncData} (F : Fun K "letter_of" "letter_of" st f fd) (T : Txt P w K mg t1 t2 t3 t4 aL aC aN aT) : FnOk P w K mg base CX0 1 f fd ["thing"] (spLetter K) := by
  refine F.ok sc (fun vs H Q E h => ?_) (fun cdv A outer s H vs Q E hr h => ?_)
  · obtain ⟨v, t, rfl, _⟩ := h
    rfl
  · obtain ⟨v, t, rfl, hd, k⟩ := h
    refine ⟨_, (pss_one (ps_ret (pe_kget (pe_glob (v := .ref aL) rfl T.LETTERS rfl) (pe_ix (ix_tup : IxR _ (rIxT K)) (pv 0) pe_int (fun _ _ => rfl)) (fun _ _ => rfl)))), ?_⟩
    obtain ⟨a, r, rfl, hs⟩ := thing_at hd
    exact ⟨_, rfl, a, _, _, _, rfl, rfl, hs, atI_zero _ _, _, _, Sum.inr t.word, _, rfl, rfl, T.kd, letters_at t, k⟩
end f_letter_of
namespace f_tree_parts
abbrev st : Stmt := top 28
theorem sc : FnScope ["rows", "parts", "label", "name"] ["rows"] (defScope st) := ⟨rfl, rfl, rfl, by decide +kernel, rfl, by decide +kernel, by decide +kernel⟩
theorem flat_len : ∀ rs : List (Str × Str), (rowsFlat rs).length = 2 * rs.length
  | [] => rfl
  | r :: rs => by
    show (rowsFlat rs).length + 2 = 2 * (rs.length + 1)
    rw [flat_len rs]; omega
theorem ok {f : Addr} {fd : FuncData} (F : Fun K "tree_parts" "tree_parts" st f fd) (T : Txt P w K mg t1 t2 t3 t4 aL aC aN aT) : FnOk P w K mg base CX0 1 f fd ["rows"] (spTreeParts K) := by
  refine F.ok sc (fun vs H Q E h => ?_) (fun cdv A outer s H vs Q E hr h => ?_)
  · obtain ⟨v, t, rfl, _⟩ := h
    rfl
  · obtain ⟨v, rs, rfl, hd, hl, k⟩ := h
    obtain ⟨a, xs, rfl, hs, hx⟩ := hd
    have hxl : xs.length = rs.length := by rw [hx.length, List.length_map]
    refine ⟨_, (pss_cons (ps_set (i := 1) sc.nd rfl (Or.inl rfl) (pe_lst pa_nil))
      (pss_cons (ps_for PassesOwn.never rfl (pi_tup (pv 0)) (pg_tup rfl (pgs_cons (pg_name (i := 2) sc.nd rfl (Or.inl rfl)) (pgs_cons (pg_name (i := 3) sc.nd rfl (Or.inl rfl)) pgs_nil)))
        (pss_cons (ps_expr (pe_bm PySem.F.plainAttrs_list PySem.F.slot_list_append PySem.F.type_list_append mt_append (pv 1) (pa_cons (pv 2) pa_nil)))
        (pss_one (ps_expr (pe_bm PySem.F.plainAttrs_list PySem.F.slot_list_append PySem.F.type_list_append mt_append (pv 1) (pa_cons (pv 3) pa_nil))))))
      (pss_one (ps_ret (pv 1))))), ?_⟩
    refine ⟨Nat.zero_le _, fun l nl => ?_⟩
    refine ⟨_, rfl, a, rfl, ⟨_, (same_upd nl).tupS hs⟩, for_tup (K := K) (a := a) (xs := xs) (fun i σ H2 => ∃ (x y : Option V), σ = [some (.ref a), some (.ref l), x, y] ∧ H2 = upd H l (.lst ((rowsFlat (rs.take i)).map V.str)))
      ⟨none, none, rfl, rfl⟩ (fun i σ H2 _ ⟨_, _, _, e⟩ => by rw [e]; exact (same_upd nl).tupS hs) ?_ ?_⟩
    · rintro i x σ H2 hi ⟨x0, y0, rfl, rfl⟩
      obtain ⟨r, b, er, rfl, hb⟩ := rows_get hx hi
      have hil : i < rs.length := (List.getElem?_eq_some_iff.mp er).1
      have hll : ((rowsFlat (rs.take i)).map V.str).length ≤ 2000 := by
        rw [List.length_map, flat_len, List.length_take]; omega
      refine ⟨b, _, rfl, (same_upd nl).tupS hb, rfl, _, _, rfl, _, _, rfl, rfl, ?_⟩
      refine ⟨_, rfl, .inl ⟨rfl, _, SqL.of upd_same⟩, _, rfl, l, _, _, rfl, rfl, upd_same, Nat.lt_of_le_of_lt hll (by rw [sizeLine_eq]; decide), ?_⟩
      refine ⟨_, rfl, .inl ⟨rfl, _, SqL.of upd_same⟩, _, rfl, l, _, _, rfl, rfl, upd_same, ?_, ?_⟩
      · rw [List.length_append, List.length_singleton]
        exact Nat.lt_of_le_of_lt (Nat.succ_le_succ hll) (by rw [sizeLine_eq]; decide)
      · refine ⟨_, _, rfl, ?_⟩
        rw [upd_upd, upd_upd]
        congr 2
        rw [List.take_add_one, er]
        show _ = (rowsFlat (rs.take i ++ [r])).map V.str
        rw [rowsFlat_append, List.map_append]
        show _ = (rowsFlat (rs.take i)).map V.str ++ [V.str r.1, V.str r.2]
        rw [List.append_assoc]
        rfl
    · rintro σ H2 ⟨x0, y0, rfl, rfl⟩
      refine ⟨_, rfl, ?_⟩
      rw [hxl, List.take_length]
      exact k l nl
end f_tree_parts
theorem iteY {c A B : Prop} [Decidable c] (hc : c) (h : A) : if decide c = true then A else B := by
  rw [decide_eq_true hc]; exact iteT h
theorem iteN {c A B : Prop} [Decidable c] (hc : ¬ c) (h : B) : if decide c = true then A else B := by
  rw [decide_eq_false hc]; exact iteF h
theorem dig_len {n : Nat} (h : n ≤ 100000) : (dig n).length ≤ 10 := PyProof.Rows.toString_length_le (by omega) (by decide) (by
  have : (10 : Int) ^ 10 = 10000000000 := by decide
  rw [this]; omega)
theorem log_small {n : Nat} (h : n ≤ 1900) : ((n : Int)).natAbs.log2 < 1920 := by
  rw [Int.natAbs_natCast]
  exact Nat.lt_of_le_of_lt (Nat.log2_le_self n) (by omega)
theorem good_rows {rs : List (Str × Str)} (g : (Th.tree rs).Good) : rs.length ≤ 1000 := by
  have h := g.1
  have e : (rowsFlat rs).length ≤ 1000 := h
  rw [f_tree_parts.flat_len] at e
  omega
theorem good_pars {x : Str} {ps : List Str} {w : Str} (g : (Th.note x ps w).Good) : ps.length ≤ 1000 := by
  have h := g.1
  have e : ([x, dig ps.length] ++ ps ++ [w]).length ≤ 1000 := h
  simp at e
  omega
namespace f_parts_of
abbrev st : Stmt := top 29
theorem sc : FnScope ["thing", "parents"] ["thing"] (defScope st) := ⟨rfl, rfl, rfl, by decide +kernel, rfl, by decide +kernel, by decide +kernel⟩
theorem ok {f : Addr} {fd : FuncData} (F : Fun K "parts_of" "parts_of" st f fd) (T : Txt P w K mg t1 t2 t3 t4 aL aC aN aT) (C_tree_parts : Cal P w K mg base 1 "tree_parts" ["rows"] (spTreeParts K)) : FnOk P w K mg base CX0 2 f fd ["thing"] (spParts K) := by
  refine F.ok sc (fun vs H Q E h => ?_) (fun cdv A outer s H vs Q E hr h => ?_)
  · obtain ⟨v, t, rfl, _⟩ := h
    rfl
  · obtain ⟨v, t, rfl, hd, g, k⟩ := h
    refine ⟨_, (pss_cons (ps_if (pt_cmpR op_eq (pe_ix (ix_tup : IxR _ (rIxT K)) (pv 0) pe_int (fun _ _ => rfl)) pe_str (nomark _))
        (pss_one (ps_ret (pe_callTy call_list_of (by rfl) T.list PyProof.Rows.boot_list (pa_cons (pe_ix (ix_tup : IxR _ (rIxT K)) (pv 0) pe_int (fun _ _ => rfl)) pa_nil))))
        pss_nil)
      (pss_cons (ps_if (pt_cmpR op_eq (pe_ix (ix_tup : IxR _ (rIxT K)) (pv 0) pe_int (fun _ _ => rfl)) pe_str (nomark _))
        (pss_one (ps_ret (pe_callC C_tree_parts (hr.mono (by decide)) (pa_cons (pe_ix (ix_tup : IxR _ (rIxT K)) (pv 0) pe_int (fun _ _ => rfl)) pa_nil))))
        pss_nil)
      (pss_cons (ps_set (i := 1) sc.nd rfl (Or.inl rfl) (pe_ix (ix_tup : IxR _ (rIxT K)) (pv 0) pe_int (fun _ _ => rfl)))
      (pss_one (ps_ret (pe_op op_cat (pe_op op_cat (pe_lst (pa_cons (pe_ix (ix_tup : IxR _ (rIxT K)) (pv 0) pe_int (fun _ _ => rfl)) (pa_cons (pe_callTy call_str_int (by rfl) T.str PyProof.Rows.boot_str (pa_cons (pe_callB call_len_seq (by rfl) T.len PySem.boot_len (pa_cons (pv 1) pa_nil)) pa_nil)) pa_nil))) (pe_callTy call_list_of (by rfl) T.list PyProof.Rows.boot_list (pa_cons (pv 1) pa_nil))) (pe_lst (pa_cons (pe_ix (ix_tup : IxR _ (rIxT K)) (pv 0) pe_int (fun _ _ => rfl)) pa_nil)))))))), ?_⟩
    cases t with
    | leaf ls =>
      obtain ⟨a, b, rfl, hs, hb⟩ := leaf_at hd
      refine ⟨_, rfl, a, _, _, _, rfl, rfl, hs, rfl, rfl, _, rfl, iteY rfl ?_⟩
      exact ⟨_, rfl, a, _, _, _, rfl, rfl, hs, rfl, b, _, rfl, .inr hb, fun l nl => k l _ (same_upd nl) nl upd_same⟩
    | tree rs =>
      obtain ⟨a, b, rfl, hs, hb⟩ := tree_at hd
      refine ⟨_, rfl, a, _, _, _, rfl, rfl, hs, rfl, rfl, _, rfl, iteN (by decide +kernel) ?_⟩
      refine ⟨_, rfl, a, _, _, _, rfl, rfl, hs, rfl, rfl, _, rfl, iteY rfl ?_⟩
      exact ⟨_, rfl, a, _, _, _, rfl, rfl, hs, rfl, _, rs, rfl, hb, good_rows g, fun l nl => k l _ (same_upd nl) nl upd_same⟩
    | note x ps y =>
      obtain ⟨a, b, rfl, hs, hb⟩ := note_at hd
      have hp := good_pars g
      refine ⟨_, rfl, a, _, _, _, rfl, rfl, hs, rfl, rfl, _, rfl, iteN (by decide +kernel) ?_⟩
      refine ⟨_, rfl, a, _, _, _, rfl, rfl, hs, rfl, rfl, _, rfl, iteN (by decide +kernel) ?_⟩
      refine ⟨_, rfl, a, _, _, _, rfl, rfl, hs, rfl, ?_⟩
      refine ⟨_, rfl, a, _, _, _, rfl, rfl, hs, rfl, _, rfl, b, _, rfl, .inr hb, _, rfl, ?_, lineN 2, fun l1 n1 => ?_⟩
      · rw [List.length_map]; exact log_small (by omega)
      have s1 := same_upd (o := .lst [V.str x, V.str (Str.ofString (toString (((ps.map V.str).length : Nat) : Int)))]) n1
      refine ⟨_, rfl, b, _, rfl, .inr (s1.tupS hb), fun l2 n2 => ?_⟩
      have s2 := s1.trans (same_upd (o := .lst (ps.map V.str)) n2)
      have d12 : l1 ≠ l2 := ne_of_none upd_same n2
      refine ⟨l1, l2, _, _, rfl, rfl, (by rw [upd_ne d12]; exact upd_same), upd_same, (by rw [List.length_map]; exact le_line (by simp only [List.length_cons, List.length_nil]; omega)), fun l3 n3 => ?_⟩
      have s3 := s2.trans (same_upd (o := .lst ([V.str x, V.str (Str.ofString (toString (((ps.map V.str).length : Nat) : Int)))] ++ ps.map V.str)) n3)
      refine ⟨_, rfl, a, _, _, _, rfl, rfl, s3.tupS hs, rfl, lineN 1, fun l4 n4 => ?_⟩
      have s4 := s3.trans (same_upd (o := .lst [V.str y]) n4)
      have d34 : l3 ≠ l4 := ne_of_none upd_same n4
      refine ⟨l3, l4, _, _, rfl, rfl, (by rw [upd_ne d34]; exact upd_same), upd_same, ?_, fun l5 n5 => ?_⟩
      · rw [List.length_append, List.length_map]
        exact le_line (by simp only [List.length_cons, List.length_nil]; omega)
      · refine k l5 _ (s4.trans (same_upd n5)) (s4.free n5) ?_
        rw [upd_same]
        congr 2
        show _ = ([x, dig ps.length] ++ ps ++ [y]).map V.str
        rw [List.map_append, List.map_append]
        show ([V.str x, V.str (Str.ofString (toString (((ps.map V.str).length : Nat) : Int)))] ++ ps.map V.str) ++ [V.str y] = _
        rw [List.length_map]
        rfl
end f_parts_of
namespace f_counted
abbrev st : Stmt := top 30
theorem sc : FnScope ["part"] ["part"] (defScope st) := ⟨rfl, rfl, rfl, by decide +kernel, rfl, by decide +kernel, by decide +kernel⟩
theorem ok {f : Addr} {fd : FuncData} (F : Fun K "counted" "counted" st f fd) (T : Txt P w K mg t1 t2 t3 t4 aL aC aN aT) : FnOk P w K mg base CX0 1 f fd ["part"] spCounted := by
  refine F.ok sc (fun vs H Q E h => ?_) (fun cdv A outer s H vs Q E hr h => ?_)
  · obtain ⟨x, rfl, _⟩ := h
    rfl
  · obtain ⟨x, rfl, hl, k⟩ := h
    refine ⟨_, (pss_one (ps_ret (pe_op op_add_str (pe_op op_add_str (pe_callTy call_str_int (by rfl) T.str PyProof.Rows.boot_str (pa_cons (pe_callB call_len_str (by rfl) T.len PySem.boot_len (pa_cons (pv 0) pa_nil)) pa_nil)) pe_str) (pv 0)))), ?_⟩
    have d := dig_len (n := x.length) (by omega)
    have c1 : ("" ++ ":" : String).length = 1 := by decide
    have c2 : (":" : Str).length = 1 := by decide +kernel
    refine ⟨_, rfl, x, rfl, le_line (by omega), _, rfl, log_small (by omega), _, _, rfl, rfl, le_line (by rw [c2]; exact Nat.le_trans (Nat.add_le_add_right d 1) (by decide)), _, rfl, _, _, rfl, rfl, le_line ?_, k⟩
    show (dig x.length ++ ":").length + x.length ≤ _
    rw [len_append, c2]
    omega
end f_counted
namespace f_spelled
abbrev st : Stmt := top 31
theorem sc : FnScope ["thing"] ["thing"] (defScope st) := ⟨rfl, rfl, rfl, by decide +kernel, rfl, by decide +kernel, by decide +kernel⟩
theorem len_counted {x : Str} (h : x.length ≤ 1000) : (counted x).length ≤ 1011 := by
  have d := dig_len (n := x.length) (by omega)
  have c2 : (":" : Str).length = 1 := by decide +kernel
  show (dig x.length ++ ":" ++ x).length ≤ _
  rw [len_append, len_append, c2]
  omega
theorem ok {f : Addr} {fd : FuncData} (F : Fun K "spelled" "spelled" st f fd) (T : Txt P w K mg t1 t2 t3 t4 aL aC aN aT) (C_letter_of : Cal P w K mg base 1 "letter_of" ["thing"] (spLetter K)) (C_parts_of : Cal P w K mg base 2 "parts_of" ["thing"] (spParts K))
    (C_counted : Cal P w K mg base 1 "counted" ["part"] spCounted) : FnOk P w K mg base CX0 3 f fd ["thing"] (spSpelled K) := by
  refine F.ok sc (fun vs H Q E h => ?_) (fun cdv A outer s H vs Q E hr h => ?_)
  · obtain ⟨v, t, rfl, _⟩ := h
    rfl
  · obtain ⟨v, t, rfl, hd, g, k⟩ := h
    refine ⟨_, (pss_one (ps_ret (pe_op op_add_str (pe_callC C_letter_of (hr.mono (by decide)) (pa_cons (pv 0) pa_nil)) (pe_bm PySem.F.plainAttrs_str PySem.F.slot_str_join PySem.F.type_str_join mt_join pe_str (pa_cons (pe_comp (sc := defScope st) (N := ["thing"]) (N' := ["part"]) (src := [none]) ⟨by decide +kernel, rfl, rfl, by decide +kernel, by decide +kernel, by decide +kernel, by decide +kernel⟩ rfl rfl rfl (pi_list (pe_callC C_parts_of (hr.mono (by decide)) (pa_cons (pv 0) pa_nil))) (fun _ _ _ _ => (pg_name (i := 0) (show (["part"] : List Str).Nodup by decide +kernel) rfl (Or.inl rfl))) (fun _ _ _ _ => pf_nil) (fun _ _ _ _ => (pe_callC C_counted (hr.mono (by decide)) (pa_cons (pv 0) pa_nil)))) pa_nil))))), ?_⟩
    refine ⟨_, rfl, v, t, rfl, hd, rfl, _, rfl, v, t, rfl, hd, g, fun l H1 s1 nl hl => ?_⟩
    have hlen : (t.parts.map V.str).length ≤ 1000 := by rw [List.length_map]; exact g.1
    refine ⟨l, rfl, ⟨_, SqL.of hl⟩, comp_list0 (K := K) (a := l) (xs := t.parts.map V.str) (fun i ys σ H2 => ∃ x, σ = [x] ∧ H2 = H1 ∧ ys = ((t.parts.take i).map counted).map V.str) ⟨none, rfl, rfl, rfl⟩ (le_line (by omega)) (fun i ys σ H2 hi ⟨x, _, e, ey⟩ => ⟨by rw [e]; exact SqL.of hl, ?_⟩) ?_ ?_⟩
    · rw [ey, List.length_map, List.length_map, List.length_take]
      exact Nat.min_le_left _ _
    · rintro i x ys σ H2 hi ⟨x0, rfl, rfl, rfl⟩
      rw [List.getElem?_map] at hi
      cases q : t.parts[i]? with
      | none => rw [q] at hi; cases hi
      | some p =>
        rw [q] at hi
        have hi : V.str p = x := Option.some.inj hi
        subst hi
        have hp := g.2 p (List.mem_of_getElem? q)
        refine ⟨_, rfl, p, rfl, hp.len, _, rfl, rfl, ?_⟩
        rw [List.take_add_one, q, List.map_append, List.map_append]
        rfl
    · rintro ys σ H2 ⟨x0, rfl, rfl, rfl⟩ p np
      have e : (t.parts.take (t.parts.map V.str).length) = t.parts := by rw [List.length_map, List.take_length]
      rw [e]
      have b1 : ∀ y ∈ t.parts.map counted, y.length ≤ 1011 := fun y hy => by
        obtain ⟨z, hz, rfl⟩ := List.mem_map.mp hy
        exact len_counted (g.2 z hz).len
      have b2 := sum_le _ b1
      have b3 : (t.parts.map counted).length ≤ 1000 := by rw [List.length_map]; exact g.1
      have b4 : (t.parts.map counted).length * 1011 ≤ 1011000 := Nat.mul_le_mul_right 1011 b3
      have c0 : ("" : Str).length = 0 := by decide +kernel
      have c1 : t.letter.length = 1 := by rw [length_cs, letter_cs]; rfl
      refine ⟨_, p, t.parts.map counted, rfl, rfl, .inl (SqL.of upd_same), by rw [c0]; omega, _, _, rfl, rfl, ?_, ?_⟩
      · have := StrLaws.join_length_le "" (t.parts.map counted)
        have e2 : Txt.join "" (t.parts.map counted) = Str.join "" (t.parts.map counted) := StrLaws.glued_eq_join _ _
        rw [e2]
        rw [c0] at this
        exact le_line (by omega)
      · rw [sp_eq]
        exact k _ (s1.trans (same_upd np))
end f_spelled
namespace f_digest
abbrev st : Stmt := top 32
theorem sc : FnScope ["thing", "number", "sign"] ["thing"] (defScope st) := ⟨rfl, rfl, rfl, by decide +kernel, rfl, by decide +kernel, by decide +kernel⟩
theorem ok {f : Addr} {fd : FuncData} (F : Fun K "digest" "digest" st f fd) (T : Txt P w K mg t1 t2 t3 t4 aL aC aN aT) (C_spelled : Cal P w K mg base 3 "spelled" ["thing"] (spSpelled K)) : FnOk P w K mg base CX0 4 f fd ["thing"] (spDigest K) := by
  refine F.ok sc (fun vs H Q E h => ?_) (fun cdv A outer s H vs Q E hr h => ?_)
  · obtain ⟨v, t, rfl, _⟩ := h
    rfl
  · obtain ⟨v, t, rfl, hd, g, k⟩ := h
    refine ⟨_, (pss_cons (ps_set (i := 1) sc.nd rfl (Or.inl rfl) pe_int)
      (pss_cons (ps_for PassesOwn.never rfl (pi_str (pe_callC C_spelled (hr.mono (by decide)) (pa_cons (pv 0) pa_nil))) (pg_name (i := 2) sc.nd rfl (Or.inl rfl))
        (pss_one (ps_set (i := 1) sc.nd rfl (Or.inl rfl) (pe_op op_mod (pe_op op_add (pe_op op_mul (pe_glob (v := .int 31) rfl T.DIGEST_FACTOR ⟨_, rfl⟩) (pv 1)) (pe_callB call_ord (by rfl) T.ord PyProof.Rows.boot_ord (pa_cons (pv 2) pa_nil))) (pe_glob (v := .int 97) rfl T.DIGEST_BOUND ⟨_, rfl⟩)))))
      (pss_one (ps_ret (pv 1))))), ?_⟩
    refine ⟨_, rfl, v, t, rfl, hd, g, fun H1 s1 => ⟨_, rfl, for_str (fun i σ H2 => ∃ x, σ = [some v, some (.int (((cs t.sp).take i).foldl dgs 0)), x] ∧ H2 = H1) ⟨none, rfl, rfl⟩ ?_ ?_⟩⟩
    · rintro i c σ H2 hc ⟨x, rfl, rfl⟩
      refine ⟨_, rfl, _, _, rfl, rfl, .inl ⟨by decide, by decide⟩, _, rfl, _, rfl, rfl, _, _, rfl, rfl, _, _, rfl, rfl, (by show (0 : Int) < 97; decide), some (.str ⟨#[c]⟩), ?_, rfl⟩
      have hc' : (cs t.sp)[i]? = some c := by rw [← hc]; simp
      rw [List.take_add_one, hc', List.foldl_append]
      rfl
    · rintro σ H2 ⟨x, rfl, rfl⟩
      refine ⟨_, rfl, ?_⟩
      rw [length_cs, List.take_length]
      exact k _ s1
end f_digest
namespace s_key
abbrev st : Stmt := top 5
theorem sc : FnScope ["table", "thing"] ["table", "thing"] (defScope st) := ⟨rfl, rfl, rfl, by decide +kernel, rfl, by decide +kernel, by decide +kernel⟩
theorem ok {f : Addr} {fd : FuncData} (F : Fun K "is_key" "is_key" st f fd) (T : Txt P w K mg t1 t2 t3 t4 aL aC aN aT) : FnOk P w K mg base CX0 1 f fd ["table", "thing"] spKey := by
  refine F.ok sc (fun vs H Q E h => ?_) (fun cdv A outer s H vs Q E hr h => ?_)
  · obtain ⟨d1, kvs, x, rfl, _⟩ := h
    rfl
  · obtain ⟨d1, kvs, x, rfl, h4, k⟩ := h
    refine ⟨_, (pss_one (ps_ret (pe_and (pe_callB (call_isinstD (K := K)) (by rfl) T.isinstance PyProof.Rows.boot_isinstance (pa_cons (pv 1) (pa_cons (pe_bltn (v := .ty "str") rfl T.str PyProof.Rows.boot_str rfl) pa_nil))) (pe_one (pe_cmpR (op_inZ hr.units) (pv 1) (pv 0) (by with_unfolding_all rfl)))))), ?_⟩
    refine ⟨_, rfl, _, _, .str x, _, rfl, rfl, T.is (by simp [kinds]), _, rfl, iteT ?_⟩
    exact ⟨_, rfl, _, rfl, d1, _, rfl, DGet.k (k := (Sum.inr x : Key)) h4, k⟩
end s_key
namespace s_has
abbrev st : Stmt := inClass (top 34) 5
theorem sc : FnScope ["self", "name"] ["self", "name"] (defScope st) := ⟨rfl, rfl, rfl, by decide +kernel, rfl, by decide +kernel, by decide +kernel⟩
theorem ok {f : Addr} {fd : FuncData} (F : Fun K "has" "Shelf.has" st f fd) (T : Txt P w K mg t1 t2 t3 t4 aL aC aN aT) (C_is_key : Cal P w K mg base 1 "is_key" ["table", "thing"] spKey) : FnOk P w K mg base CX0 2 f fd ["self", "name"] (spHas P w K aC) := by
  refine F.ok sc (fun vs H Q E h => ?_) (fun cdv A outer s H vs Q E hr h => ?_)
  · obtain ⟨a, fp, S, x, rfl, _⟩ := h
    rfl
  · obtain ⟨a, fp, S, x, rfl, sh, k⟩ := h
    refine ⟨_, (pss_one (ps_ret (pe_callC C_is_key (hr.mono (by decide)) (pa_cons (pe_fld (pv 0) rfl) (pa_cons (pv 1) pa_nil))))), ?_⟩
    obtain ⟨g, dx, d1, d2, d3, ts, nx, rfl, nd, h1, h2, h3, h4, h5, h6, h7, h8, h9⟩ := sh
    refine ⟨_, rfl, a, aC, dx, _, _, rfl, h1, T.cls, T.n1, rfl, _, rfl, d1, _, x, rfl, h4, ?_⟩
    have e : (valV ((S.zip ts).map fun e => ((Sum.inr e.1.nm : Key), V.ref e.2)) (Sum.inr x : Key)).isSome = decide (x ∈ S.map En.nm) := by
      have ek : ((S.zip ts).map fun e => ((Sum.inr e.1.nm : Key), V.ref e.2)).map (·.1) = S.map fun e => (Sum.inr e.nm : Key) := by
        rw [List.map_map]
        have : (S.zip ts).map (·.1) = S := List.map_fst_zip (by omega)
        conv => rhs; rw [← this]
        rw [List.map_map]; rfl
      rw [Bool.eq_iff_iff, decide_eq_true_iff]
      constructor
      · intro z
        obtain ⟨v, hv⟩ := Option.isSome_iff_exists.mp z
        have := valV_in hv
        rw [ek] at this
        obtain ⟨e, he, q⟩ := List.mem_map.mp this
        exact List.mem_map.mpr ⟨e, he, Sum.inr.inj q⟩
      · intro z
        obtain ⟨e, he, q⟩ := List.mem_map.mp z
        cases hv : valV ((S.zip ts).map fun e => ((Sum.inr e.1.nm : Key), V.ref e.2)) (Sum.inr x : Key) with
        | some v => rfl
        | none =>
          refine absurd ?_ (valV_not hv)
          rw [ek]
          exact List.mem_map.mpr ⟨e, he, by rw [q]⟩
    rw [e]
    exact k
end s_has
namespace s_names
abbrev st : Stmt := inClass (top 34) 7
theorem sc : FnScope ["self"] ["self"] (defScope st) := ⟨rfl, rfl, rfl, by decide +kernel, rfl, by decide +kernel, by decide +kernel⟩
theorem ok {f : Addr} {fd : FuncData} (F : Fun K "names" "Shelf.names" st f fd) (T : Txt P w K mg t1 t2 t3 t4 aL aC aN aT) : FnOk P w K mg base CX0 1 f fd ["self"] (spNames P w K aC) := by
  refine F.ok sc (fun vs H Q E h => ?_) (fun cdv A outer s H vs Q E hr h => ?_)
  · obtain ⟨a, fp, S, rfl, _⟩ := h
    rfl
  · obtain ⟨a, fp, S, rfl, sh, k⟩ := h
    refine ⟨_, (pss_one (ps_ret (pe_callTy (call_listD rfl) (by rfl) T.list PyProof.Rows.boot_list (pa_cons (pe_fld (pv 0) rfl) pa_nil)))), ?_⟩
    obtain ⟨g, dx, d1, d2, d3, ts, nx, rfl, nd, h1, h2, h3, h4, h5, h6, h7, h8, h9⟩ := sh
    refine ⟨_, rfl, a, aC, dx, _, _, rfl, h1, T.cls, T.n1, rfl, d1, _, rfl, h4, fun l nl => ?_⟩
    have e : (((S.zip ts).map fun e => ((Sum.inr e.1.nm : Key), V.ref e.2)).map fun kv => kV kv.1) = S.map fun e => V.str e.nm := by
      rw [List.map_map]
      have : (S.zip ts).map (·.1) = S := List.map_fst_zip (by omega)
      conv => rhs; rw [← this]
      rw [List.map_map]; rfl
    rw [e]
    exact k l nl
end s_names
namespace s_nname
abbrev st : Stmt := top 6
theorem sc : FnScope ["store", "name"] ["store", "name"] (defScope st) := ⟨rfl, rfl, rfl, by decide +kernel, rfl, by decide +kernel, by decide +kernel⟩
theorem ok {f : Addr} {fd : FuncData} (F : Fun K "need_name" "need_name" st f fd) (T : Txt P w K mg t1 t2 t3 t4 aL aC aN aT) (M_has : Met P w K mg base aC 2 "has" ["self", "name"] (spHas P w K aC)) : FnOk P w K mg base CX0 3 f fd ["store", "name"] (spNeedName P w K aC) := by
  refine F.ok sc (fun vs H Q E h => ?_) (fun cdv A outer s H vs Q E hr h => ?_)
  · obtain ⟨a, fp, S, x, rfl, _⟩ := h
    rfl
  · obtain ⟨a, fp, S, x, rfl, sh, hx, k⟩ := h
    refine ⟨_, (pss_one (ps_if (pt_not (pt_truthK (K := K) (pe_metC (pv 0) T.cls M_has (hr.mono (by decide)) (pa_cons (pv 1) pa_nil)) (fun _ => rfl)))
        (pss_one (ps_raise rfl throws_none rfl T.NoName T.xNoName (pa_cons pe_str pa_nil)))
        pss_nil)), ?_⟩
    obtain ⟨g, dx, d1, d2, d3, ts, nx, efp, nd, h1, h2, h3, h4, h5, h6, h7, h8, h9⟩ := id sh
    refine ⟨_, rfl, a, dx, _, rfl, h1, rfl, _, rfl, a, _, S, x, rfl, sh, _, rfl, ?_⟩
    rw [decide_eq_true hx]
    exact iteF k
end s_nname
namespace s_thing
abbrev st : Stmt := inClass (top 34) 6
theorem sc : FnScope ["self", "name"] ["self", "name"] (defScope st) := ⟨rfl, rfl, rfl, by decide +kernel, rfl, by decide +kernel, by decide +kernel⟩
theorem ok {f : Addr} {fd : FuncData} (F : Fun K "thing" "Shelf.thing" st f fd) (T : Txt P w K mg t1 t2 t3 t4 aL aC aN aT) (C_need_name : Cal P w K mg base 3 "need_name" ["store", "name"] (spNeedName P w K aC)) : FnOk P w K mg base CX0 4 f fd ["self", "name"] (spThing P w K aC) := by
  refine F.ok sc (fun vs H Q E h => ?_) (fun cdv A outer s H vs Q E hr h => ?_)
  · obtain ⟨a, fp, S, e, rfl, _⟩ := h
    rfl
  · obtain ⟨a, fp, S, e, rfl, sh, he, k⟩ := h
    have hu := hu_of hr
    refine ⟨_, (pss_cons (ps_expr (pe_callC C_need_name (hr.mono (by decide)) (pa_cons (pv 0) (pa_cons (pv 1) pa_nil))))
      (pss_one (ps_ret (pe_dget hu (pe_fld (pv 0) rfl) (pv 1) (fun _ _ => rfl))))), ?_⟩
    obtain ⟨g, dx, d1, d2, d3, ts, nx, rfl, nd, h1, h2, h3, h4, h5, h6, h7, h8, h9⟩ := id sh
    refine ⟨_, rfl, _, rfl, a, _, S, e.nm, rfl, sh, List.mem_map.mpr ⟨e, he, rfl⟩, ?_⟩
    obtain ⟨i, hi, ei⟩ := List.mem_iff_getElem.mp he
    have hi' : i < ts.length := by omega
    have q1 : S[i]? = some e := by rw [List.getElem?_eq_getElem hi, ei]
    have q2 : ts[i]? = some ts[i] := List.getElem?_eq_getElem hi'
    have hv : valV ((S.zip ts).map fun e => ((Sum.inr e.1.nm : Key), V.ref e.2)) (Sum.inr e.nm : Key) = some (V.ref ts[i]) := by
      have ek : ((S.zip ts).map fun e => ((Sum.inr e.1.nm : Key), V.ref e.2)).map (·.1) = S.map fun e => (Sum.inr e.nm : Key) := by
        rw [List.map_map]
        have : (S.zip ts).map (·.1) = S := List.map_fst_zip (by omega)
        conv => rhs; rw [← this]
        rw [List.map_map]; rfl
      have nd' : (((S.zip ts).map fun e => ((Sum.inr e.1.nm : Key), V.ref e.2)).map (·.1)).Nodup := by
        rw [ek]
        have := List.Pairwise.map (S := fun a b : Key => a ≠ b) (fun x => (Sum.inr x : Key)) (fun a b h z => h (Sum.inr.inj z)) g.nn
        rw [List.map_map] at this
        exact this
      have hm : ((Sum.inr e.nm : Key), V.ref ts[i]) ∈ (S.zip ts).map fun e => ((Sum.inr e.1.nm : Key), V.ref e.2) :=
        List.mem_map.mpr ⟨(e, ts[i]), List.mem_of_getElem? (i := i) (by rw [List.getElem?_zip_eq_some]; exact ⟨q1, q2⟩), rfl⟩
      exact val_mem nd' hm
    exact ⟨_, rfl, a, aC, dx, _, _, rfl, h1, T.cls, T.n1, rfl, _, rfl, d1, _, rfl, by rw [← hv]; exact DGet.k (k := (Sum.inr e.nm : Key)) h4, k _ (h9 i e _ q1 q2)⟩
end s_thing
namespace s_take
abbrev st : Stmt := inClass (top 34) 1
theorem sc : FnScope ["self", "name", "thing", "halves", "head"] ["self", "name", "thing"] (defScope st) := ⟨rfl, rfl, rfl, by decide +kernel, rfl, by decide +kernel, by decide +kernel⟩
theorem ok {f : Addr} {fd : FuncData} (F : Fun K "take" "Shelf.take" st f fd) (T : Txt P w K mg t1 t2 t3 t4 aL aC aN aT) : FnOk P w K mg base CX0 1 f fd ["self", "name", "thing"] (spTake P w K aC) := by
  refine F.ok sc (fun vs H Q E h => ?_) (fun cdv A outer s H vs Q E hr h => ?_)
  · obtain ⟨a, fp, S, e, t, rfl, _⟩ := h
    rfl
  · obtain ⟨a, fp, S, e, t, rfl, sh, ge, ht, hd, hn, hl, k⟩ := h
    have hu := hu_of hr
    refine ⟨_, (pss_cons (ps_set (i := 3) sc.nd rfl (Or.inl rfl) (pe_bm PySem.F.plainAttrs_str PySem.F.slot_str_partition PySem.F.type_str_partition mt_partition (pv 1) (pa_cons pe_str pa_nil)))
      (pss_cons (ps_set (i := 4) sc.nd rfl (Or.inl rfl) (pe_ix (ix_tup : IxR _ (rIxT K)) (pv 3) pe_int (fun _ _ => rfl)))
      (pss_cons (ps_dput hu (pe_fld (pv 0) rfl) (pv 4) (pe_callB (call_max2 rfl) (by rfl) T.max PyProof.Rows.boot_max (pa_cons (pe_dget2 hu (pe_fld (pv 0) rfl) (pv 4) pe_int ⟨rfl, rfl, rfl, rfl⟩) (pa_cons (pe_op op_add (pe_callTy call_intT (by rfl) T.int PyProof.Rows.boot_int (pa_cons (pe_ix (ix_tup : IxR _ (rIxT K)) (pv 3) pe_int (fun _ _ => rfl)) pa_nil)) pe_int) pa_nil))) rfl)
      (pss_cons (ps_dput hu (pe_fld (pv 0) rfl) (pv 1) (pv 2) rfl)
      (pss_one (ps_tput hr.units (pe_fld (pv 0) rfl) (pv 2) (pv 1) rfl)))))), ?_⟩
    obtain ⟨g, dx, d1, d2, d3, ts, nx, rfl, nd, h1, h2, h3, h4, h5, h6, h7, h8, h9⟩ := id sh
    have noseq := sh.noseq.tup
    have nl : (numT e.n).length ≤ 2000 := by
      have hlog : ((e.n : Int)).natAbs.log2 < 1920 := by
        have := ge.num
        rw [Int.natAbs_natCast]
        rcases Nat.eq_zero_or_pos e.n with z | z
        · rw [z]; decide
        · have : e.n.log2 < 20 := (Nat.log2_lt (by omega)).mpr (by omega)
          omega
      have := PyProof.Rows.int_text_len_1921 hlog
      have e' : (numT e.n).length ≤ 1921 := this
      omega
    have nml : e.nm.length ≤ 100000 := by
      have := ge.hl
      have e1 : dot.length = 1 := rfl
      unfold En.nm
      rw [len_append, len_append, e1]
      omega
    simp only [List.nodup_cons, List.mem_cons, List.not_mem_nil, or_false, not_or, List.nodup_nil, and_true, not_false_eq_true] at nd
    obtain ⟨⟨n01, n02, n03, n04⟩, ⟨n12, n13, n14⟩, ⟨n23, n24⟩, n34⟩ := nd
    refine ⟨_, rfl, rfl, e.h, numT e.n, 46, rfl, by rw [dot_is]; rfl, ge.free, nml, fun p np => ?_⟩
    have u1 := same_upd (o := .tup [V.str e.h, V.str ⟨#[46]⟩, V.str (numT e.n)]) np
    have hp : SqT K (upd H p (.tup [V.str e.h, V.str ⟨#[46]⟩, V.str (numT e.n)])) p [V.str e.h, V.str ⟨#[46]⟩, V.str (numT e.n)] := SqT.of upd_same
    show tSeq _ _ _ _ (upd H p (.tup [V.str e.h, V.str ⟨#[46]⟩, V.str (numT e.n)]))
    generalize upd H p (.tup [V.str e.h, V.str ⟨#[46]⟩, V.str (numT e.n)]) = H1 at u1 hp
    have g1 := u1 _ _ h1
    have g4 := u1 _ _ h4
    have g6 := u1 _ _ h6
    refine ⟨_, rfl, p, _, _, _, rfl, rfl, hp, rfl, ?_⟩
    refine ⟨_, rfl, a, aC, dx, _, _, rfl, g1, T.cls, T.n3, rfl, d3, rfl, .inl ⟨_, .inl g6⟩, _, rfl, _, DGet.k (k := (Sum.inr e.h : Key)) g6, ?_⟩
    obtain ⟨m, em, en⟩ : ∃ m : Nat, (valV nx (Sum.inr e.h : Key)).getD (V.int 0) = V.int (m : Int) ∧ m = (nextOf S e.h).getD 0 := by
      rw [h8]
      cases nextOf S e.h with
      | none => exact ⟨0, rfl, rfl⟩
      | some m => exact ⟨m, rfl, rfl⟩
    rw [em]
    refine ⟨_, rfl, p, _, _, _, rfl, rfl, hp, rfl, e.n, rfl, by have := ge.num; omega, _, _, rfl, rfl, _, _, rfl, ?_⟩
    have emax : (if (e.n : Int) + 1 > (m : Int) then (e.n : Int) + 1 else (m : Int)) = ((max m (e.n + 1) : Nat) : Int) := by
      split <;> omega
    rw [emax]
    have nxl : nx.length < 1000 := by omega
    refine ⟨_, rfl, a, aC, dx, _, _, rfl, g1, T.cls, T.n3, rfl, _, rfl, d3, _, rfl, DPut.k (k := (Sum.inr e.h : Key)) g6 (small1000 (by omega)), ?_⟩
    have o1 : Off [a, dx, d1, d2, d3] H (upd H1 d3 (.dK (putK nx (Sum.inr e.h : Key) (V.int ((max m (e.n + 1) : Nat) : Int))))) := (Off.of u1).upd (by simp)
    have g1b : upd H1 d3 (.dK (putK nx (Sum.inr e.h : Key) (V.int ((max m (e.n + 1) : Nat) : Int)))) a = some (.ins aC dx (flds d1 d2 d3)) := by rw [upd_ne n04]; exact g1
    have g4b : upd H1 d3 (.dK (putK nx (Sum.inr e.h : Key) (V.int ((max m (e.n + 1) : Nat) : Int)))) d1 = some (.dK ((S.zip ts).map fun e => ((Sum.inr e.1.nm : Key), V.ref e.2))) := by rw [upd_ne n24]; exact g4
    have g6b : upd H1 d3 (.dK (putK nx (Sum.inr e.h : Key) (V.int ((max m (e.n + 1) : Nat) : Int)))) d3 = some (.dK (putK nx (Sum.inr e.h : Key) (V.int ((max m (e.n + 1) : Nat) : Int)))) := upd_same
    have g2b : upd H1 d3 (.dK (putK nx (Sum.inr e.h : Key) (V.int ((max m (e.n + 1) : Nat) : Int)))) dx = some (.own a) := by rw [upd_ne n14]; exact u1 _ _ h2
    obtain ⟨xs5, e5, _⟩ := h5.2.2.2
    have g5b : upd H1 d3 (.dK (putK nx (Sum.inr e.h : Key) (V.int ((max m (e.n + 1) : Nat) : Int)))) d2 = H d2 := by rw [upd_ne n34, e5]; exact u1 _ _ e5
    show tSeq _ _ _ _ (upd H1 d3 (.dK (putK nx (Sum.inr e.h : Key) (V.int ((max m (e.n + 1) : Nat) : Int)))))
    generalize upd H1 d3 (.dK (putK nx (Sum.inr e.h : Key) (V.int ((max m (e.n + 1) : Nat) : Int)))) = H2 at o1 g1b g4b g6b g2b g5b
    -- the thing by its name
    have zl : ((S.zip ts).map fun e => ((Sum.inr e.1.nm : Key), V.ref e.2)).length ≤ 1000 := by rw [List.length_map, List.length_zip]; omega
    refine ⟨_, rfl, _, rfl, a, aC, dx, _, _, rfl, g1b, T.cls, T.n1, rfl, _, rfl, d1, _, rfl, DPut.k (k := (Sum.inr e.nm : Key)) g4b (small1000 zl), ?_⟩
    have ek : ((S.zip ts).map fun e => ((Sum.inr e.1.nm : Key), V.ref e.2)).map (·.1) = S.map fun e => (Sum.inr e.nm : Key) := by
      rw [List.map_map]
      have : (S.zip ts).map (·.1) = S := List.map_fst_zip (by omega)
      conv => rhs; rw [← this]
      rw [List.map_map]; rfl
    have hk : (Sum.inr e.nm : Key) ∉ ((S.zip ts).map fun e => ((Sum.inr e.1.nm : Key), V.ref e.2)).map (·.1) := fun z => by
      rw [ek] at z
      obtain ⟨e', he', q⟩ := List.mem_map.mp z
      exact hn (List.mem_map.mpr ⟨e', he', Sum.inr.inj q⟩)
    rw [put_new hk]
    have o2 : Off [a, dx, d1, d2, d3] H (upd H2 d1 (.dK ((S.zip ts).map (fun e => ((Sum.inr e.1.nm : Key), V.ref e.2)) ++ [(Sum.inr e.nm, V.ref t)]))) := o1.upd (by simp)
    have g1c : upd H2 d1 (.dK ((S.zip ts).map (fun e => ((Sum.inr e.1.nm : Key), V.ref e.2)) ++ [(Sum.inr e.nm, V.ref t)])) a = some (.ins aC dx (flds d1 d2 d3)) := by rw [upd_ne n02]; exact g1b
    have g2c : upd H2 d1 (.dK ((S.zip ts).map (fun e => ((Sum.inr e.1.nm : Key), V.ref e.2)) ++ [(Sum.inr e.nm, V.ref t)])) dx = some (.own a) := by rw [upd_ne n12]; exact g2b
    have g4c : upd H2 d1 (.dK ((S.zip ts).map (fun e => ((Sum.inr e.1.nm : Key), V.ref e.2)) ++ [(Sum.inr e.nm, V.ref t)])) d1 = some (.dK ((S.zip ts).map (fun e => ((Sum.inr e.1.nm : Key), V.ref e.2)) ++ [(Sum.inr e.nm, V.ref t)])) := upd_same
    have g5c : upd H2 d1 (.dK ((S.zip ts).map (fun e => ((Sum.inr e.1.nm : Key), V.ref e.2)) ++ [(Sum.inr e.nm, V.ref t)])) d2 = H d2 := by rw [upd_ne (Ne.symm n23)]; exact g5b
    have g6c : upd H2 d1 (.dK ((S.zip ts).map (fun e => ((Sum.inr e.1.nm : Key), V.ref e.2)) ++ [(Sum.inr e.nm, V.ref t)])) d3 = some (.dK (putK nx (Sum.inr e.h : Key) (V.int ((max m (e.n + 1) : Nat) : Int)))) := by rw [upd_ne (Ne.symm n24)]; exact g6b
    generalize upd H2 d1 (.dK ((S.zip ts).map (fun e => ((Sum.inr e.1.nm : Key), V.ref e.2)) ++ [(Sum.inr e.nm, V.ref t)])) = H3 at o2 g1c g2c g4c g5c g6c
    -- the name by the thing
    have T3 : ThD P w K H3 d2 (S.map fun e => (e.d, V.str e.nm)) := ThD.off noseq o2 g5c h5
    have ht3 : Dt K H3 e.d (.ref t) := Dt.off noseq o2 _ _ ge.key.1 ht
    refine ⟨_, rfl, _, rfl, a, aC, dx, _, _, rfl, g1c, T.cls, T.n2, rfl, _, rfl, t, d2, _, e.d, rfl, rfl, T3, by rw [List.length_map]; omega, ge.key, ht3, fun o T4 ⟨es, eo⟩ => ?_⟩
    have hk2 : e.d ∉ (S.map fun e => (e.d, V.str e.nm)).map (·.1) := by rw [List.map_map]; exact hd
    rw [put_new hk2] at T4
    have o3 : Off [a, dx, d1, d2, d3] H (upd H3 d2 o) := o2.upd (by simp)
    refine k _ o3 ⟨g.snoc ge hd hn hl, dx, d1, d2, d3, ts ++ [t], _, rfl, by simp [n01, n02, n03, n04, n12, n13, n14, n23, n24, n34], by rw [upd_ne n03]; exact g1c, by rw [upd_ne n13]; exact g2c, by rw [List.length_append, List.length_append, h3]; rfl, ?_, ?_, by rw [upd_ne (Ne.symm n34)]; exact g6c, ?_, ?_, ?_⟩
    · rw [upd_ne n23, g4c, List.zip_append h3.symm, List.map_append]; rfl
    · rw [List.map_append]; exact T4
    · have := length_putK nx (Sum.inr e.h : Key) (V.int ((max m (e.n + 1) : Nat) : Int))
      rw [List.length_append, List.length_singleton]
      omega
    · intro h
      rw [valV_put, nextOf_snoc]
      by_cases q : e.h = h
      · rw [if_pos (by rw [q]), if_pos q, ← q, ← en]; rfl
      · rw [if_neg (fun z => q (Sum.inr.inj z).symm), if_neg q]
        exact h8 h
    · intro i e' t' q1 q2
      rcases Nat.lt_trichotomy i S.length with z | z | z
      · rw [List.getElem?_append_left z] at q1
        rw [List.getElem?_append_left (by omega)] at q2
        exact Dt.off noseq o3 _ _ (g.ent e' (List.mem_of_getElem? q1)).key.1 (h9 i e' t' q1 q2)
      · subst z
        rw [List.getElem?_append_right (Nat.le_refl _), Nat.sub_self] at q1
        rw [List.getElem?_append_right (by omega), h3, Nat.sub_self] at q2
        cases q1
        cases q2
        exact Dt.off noseq o3 _ _ ge.key.1 ht
      · rw [List.getElem?_eq_none (by rw [List.length_append, List.length_singleton]; omega)] at q1
        cases q1
end s_take
end
end An03

set_option Elab.async false
set_option linter.all false
set_option maxRecDepth 100000
set_option maxHeartbeats 4000000
namespace An03
open PySem L2 An
seal L2.PS L2.PSs L2.PE L2.PT L2.PW L2.PA L2.PG L2.PGs L2.PI L2.PFi L2.PC
def spNever : Sp := fun _ _ _ _ => False
theorem never {P : Program} {w : World} {K : PySem.W.Frag} {mg : Str → Option Value} {base : Heap} {k : Nat} {f : Addr} {fd : FuncData} {ps : List Str} : FnOk P w K mg base CX0 k f fd ps spNever :=
  ⟨fun _ _ _ _ h => h.elim, fun _ _ _ _ _ _ _ _ _ _ _ _ _ h => h.elim⟩
theorem leaf_small {ls : List Str} (g : goodLeaf ls) : small (.tuple (ls.map .str)) = true := by
  have : ∀ ls : List Str, (∀ l ∈ ls, lineB l = true) → smallAll (ls.map .str) = true := by
    intro ls
    induction ls with
    | nil => intro _; rfl
    | cons l ls ih =>
      intro h
      show (decide (l.length ≤ 1000) && smallAll (ls.map .str)) = true
      have : l.length ≤ 20 := by
        have := h l List.mem_cons_self
        unfold lineB at this
        rw [Bool.and_eq_true] at this
        exact of_decide_eq_true this.1
      rw [decide_eq_true (by omega), ih fun x hx => h x (List.mem_cons_of_mem _ hx)]; rfl
  show (decide ((ls.map PyData.str).length ≤ 1000) && smallAll (ls.map .str)) = true
  have h2 := g.2
  rw [this ls g.1, List.length_map, decide_eq_true (by omega)]; rfl
theorem leaf_lines {ls : List Str} (g : goodLeaf ls) : linesD (.tuple (ls.map .str)) = true := by
  show (ls.map PyData.str).all lineD = true
  rw [List.all_map, List.all_eq_true]
  exact g.1
theorem line_ok {x : Str} (h : lineB x = true) : Ok 1000 x := by
  unfold lineB at h
  rw [Bool.and_eq_true] at h
  have h1 : x.length ≤ 20 := of_decide_eq_true h.1
  refine ⟨by omega, ?_⟩
  rw [strOk_iff]
  intro c hc
  have := List.all_eq_true.mp h.2 c hc
  unfold signB at this
  simp only [Bool.and_eq_true, decide_eq_true_eq] at this
  omega
theorem leaf_good {ls : List Str} (g : goodLeaf ls) : (Th.leaf ls).Good := ⟨by show ls.length ≤ 1000; have := g.2; omega, fun p hp => line_ok (g.1 p hp)⟩
theorem txt_strs : ∀ {ls : List Str}, (∀ l ∈ ls, PyData.strOk l = true) → txtAll (ls.map .str) = true ∧ depAll (ls.map .str) = 0
  | [], _ => ⟨rfl, rfl⟩
  | l :: ls, h => by
    obtain ⟨h1, h2⟩ := txt_strs fun x hx => h x (List.mem_cons_of_mem _ hx)
    refine ⟨?_, ?_⟩
    · show (PyData.strOk l && txtAll (ls.map .str)) = true
      rw [h l List.mem_cons_self, h1]; rfl
    · show max 0 (depAll (ls.map .str)) = 0
      rw [h2]; rfl
theorem leaf_key {ls : List Str} (g : goodLeaf ls) : KeyT (Th.leaf ls).dat := by
  obtain ⟨h1, h2⟩ := txt_strs fun l hl => (line_ok (g.1 l hl)).ok
  refine ⟨?_, ?_⟩
  · show (PyData.strOk "leaf" && (txtAll (ls.map .str) && true)) = true
    rw [h1]; decide +kernel
  · show max 0 (max (depAll (ls.map .str) + 1) 0) + 1 ≤ 6
    rw [h2]; decide
theorem dg_bound (x : Str) : 0 ≤ dg x ∧ dg x < 97 := by
  unfold dg
  have : ∀ (l : List Nat) (n : Int), (0 ≤ n ∧ n < 97) → 0 ≤ l.foldl dgs n ∧ l.foldl dgs n < 97 := by
    intro l
    induction l with
    | nil => intro n h; exact h
    | cons c l ih =>
      intro n _
      rw [List.foldl_cons]
      refine ih _ ?_
      unfold dgs
      omega
  exact this _ 0 ⟨by decide, by decide⟩
theorem num_dg (x : Str) : Str.ofString (toString (dg x)) = numT (dg x).toNat := by
  unfold numT
  rw [Int.toNat_of_nonneg (dg_bound x).1]
theorem num_len {n : Nat} (h : n < 1000000) : (numT n).length ≤ 1921 := by
  have hlog : ((n : Int)).natAbs.log2 < 1920 := by
    rw [Int.natAbs_natCast]
    rcases Nat.eq_zero_or_pos n with z | z
    · rw [z]; decide
    · have : n.log2 < 20 := (Nat.log2_lt (by omega)).mpr (by omega)
      omega
  exact PyProof.Rows.int_text_len_1921 hlog
theorem num_len2 {n : Nat} (h : n < 97) : (numT n).length ≤ 10 := PyProof.Rows.toString_length_le (by omega) (by decide) (by
  have : n < 10 ^ 9 := by omega
  omega)
theorem head_free (ls : List Str) : 46 ∉ cs (headL ls) := by
  unfold headL
  rw [cs_append, List.mem_append, not_or]
  exact ⟨by decide +kernel, fun h => (PyProof.Rows.intText_free_46 _).mp h⟩
theorem head_len (ls : List Str) : (headL ls).length ≤ 100 := by
  unfold headL
  have h1 := num_len2 (n := (dg (Th.leaf ls).sp).toNat) (by have := dg_bound (Th.leaf ls).sp; omega)
  have h2 : ("L" : Str).length = 1 := by decide +kernel
  rw [len_append, h2]
  omega
section
variable {P : Program} {w : World} {K : PySem.W.Frag} {mg : Str → Option Value} {base : Heap} {t1 t2 t3 t4 : Tok} {aL aC aN aT : Addr}
namespace n_tree
abbrev st : Stmt := top 23
theorem ok {f : Addr} {fd : FuncData} (F : Fun K "is_tree" "is_tree" st f fd) (T : Txt P w K mg t1 t2 t3 t4 aL aC aN aT) : FnOk P w K mg base CX0 1 f fd ["word", "parts"] spNever := never
end n_tree
namespace n_note
abbrev st : Stmt := top 24
theorem ok {f : Addr} {fd : FuncData} (F : Fun K "is_note" "is_note" st f fd) (T : Txt P w K mg t1 t2 t3 t4 aL aC aN aT) : FnOk P w K mg base CX0 1 f fd ["word", "parts"] spNever := never
end n_note
namespace n_form
abbrev st : Stmt := inClass (top 34) 4
theorem ok {f : Addr} {fd : FuncData} (F : Fun K "need_form" "Shelf.need_form" st f fd) (T : Txt P w K mg t1 t2 t3 t4 aL aC aN aT) : FnOk P w K mg base CX0 1 f fd ["self", "name", "forms"] spNever := never
end n_form
namespace p_leaf
abbrev st : Stmt := top 22
theorem sc : FnScope ["word", "parts"] ["word", "parts"] (defScope st) := ⟨rfl, rfl, rfl, by decide +kernel, rfl, by decide +kernel, by decide +kernel⟩
theorem ok {f : Addr} {fd : FuncData} (F : Fun K "is_leaf" "is_leaf" st f fd) (T : Txt P w K mg t1 t2 t3 t4 aL aC aN aT) (C_is_lines : Cal P w K mg base 3 "is_lines" ["thing"] (spLines K)) : FnOk P w K mg base CX0 4 f fd ["word", "parts"] (spIsLeaf K) := by
  refine F.ok sc (fun vs H Q E h => ?_) (fun cdv A outer s H vs Q E hr h => ?_)
  · obtain ⟨p, b, ls, rfl, _⟩ := h
    rfl
  · obtain ⟨p, b, ls, rfl, hp, hb, g, k⟩ := h
    refine ⟨_, (pss_one (ps_ret (pe_and (pe_cmpR op_eq (pv 0) pe_str (nomark _)) (pe_and (pe_cmpR op_eq (pe_callB call_len_seq (by rfl) T.len PySem.boot_len (pa_cons (pv 1) pa_nil)) pe_int (nomark _)) (pe_one (pe_callC C_is_lines (hr.mono (by decide)) (pa_cons (pe_ix (ix_tup : IxR _ (rIxT K)) (pv 1) pe_int (fun _ _ => rfl)) pa_nil))))))), ?_⟩
    refine ⟨_, rfl, rfl, true, by rw [decide_eq_true rfl], iteT (B := False) ?_⟩
    refine ⟨_, rfl, p, _, rfl, .inr hp, rfl, true, congrArg V.bl (decide_eq_true rfl), iteT (B := False) ?_⟩
    refine ⟨_, rfl, p, _, _, _, rfl, rfl, hp, rfl, .tuple (ls.map .str), _, rfl, ⟨b, _, rfl, hb, (DtAll.strs ls).dw⟩, leaf_small g, fun H2 s2 => ?_⟩
    rw [leaf_lines g]
    exact k _ s2
end p_leaf
namespace p_thing
abbrev st : Stmt := top 25
theorem sc : FnScope ["thing", "word", "parts"] ["thing"] (defScope st) := ⟨rfl, rfl, rfl, by decide +kernel, rfl, by decide +kernel, by decide +kernel⟩
theorem ok {f : Addr} {fd : FuncData} (F : Fun K "is_thing" "is_thing" st f fd) (T : Txt P w K mg t1 t2 t3 t4 aL aC aN aT) (C_is_leaf : Cal P w K mg base 4 "is_leaf" ["word", "parts"] (spIsLeaf K)) (C_is_tree : Cal P w K mg base 1 "is_tree" ["word", "parts"] spNever) (C_is_note : Cal P w K mg base 1 "is_note" ["word", "parts"] spNever) : FnOk P w K mg base CX0 5 f fd ["thing"] (spIsThing K) := by
  refine F.ok sc (fun vs H Q E h => ?_) (fun cdv A outer s H vs Q E hr h => ?_)
  · obtain ⟨v, ls, rfl, _⟩ := h
    rfl
  · obtain ⟨v, ls, rfl, hd, g, k⟩ := h
    refine ⟨_, (pss_cons (ps_if (PW.pt (pw_or (pt_not (pt_truthK (K := K) (pe_callB (call_isinstD (K := K)) (by rfl) T.isinstance PyProof.Rows.boot_isinstance (pa_cons (pv 0) (pa_cons (pe_bltn (v := .ty "tuple") rfl T.tuple PyProof.Rows.boot_tuple rfl) pa_nil))) (fun _ => rfl))) (pw_or (pt_cmpR op_eq (pe_callB call_len_seq (by rfl) T.len PySem.boot_len (pa_cons (pv 0) pa_nil)) pe_int (nomark _)) (pw_or1 (pt_not (pt_truthK (K := K) (pe_callB (call_isinstD (K := K)) (by rfl) T.isinstance PyProof.Rows.boot_isinstance (pa_cons (pe_ix (ix_tup : IxR _ (rIxT K)) (pv 0) pe_int (fun _ _ => rfl)) (pa_cons (pe_bltn (v := .ty "str") rfl T.str PyProof.Rows.boot_str rfl) pa_nil))) (fun _ => rfl)))))))
        (pss_one (ps_ret pe_bl))
        pss_nil)
      (pss_cons (ps_set (i := 1) sc.nd rfl (Or.inl rfl) (pe_ix (ix_tup : IxR _ (rIxT K)) (pv 0) pe_int (fun _ _ => rfl)))
      (pss_cons (ps_set (i := 2) sc.nd rfl (Or.inl rfl) (pe_slice (sl_tup2 : SlR _ (rSlT2 K)) (pv 0) (po_some pe_int) po_none))
      (pss_one (ps_ret (pe_or (pe_callC C_is_leaf (hr.mono (by decide)) (pa_cons (pv 1) (pa_cons (pv 2) pa_nil))) (pe_or (pe_callC C_is_tree (hr.mono (by decide)) (pa_cons (pv 1) (pa_cons (pv 2) pa_nil))) (pe_one (pe_callC C_is_note (hr.mono (by decide)) (pa_cons (pv 1) (pa_cons (pv 2) pa_nil))))))))))), ?_⟩
    have hw := Dt.dw hd
    obtain ⟨a, b, rfl, hs, hb⟩ := leaf_at hd
    refine ⟨_, rfl, _, _, (Th.leaf ls).dat, _, rfl, hw, T.is (by simp [kinds]), _, rfl, iteF (A := False) ?_⟩
    refine ⟨_, rfl, a, _, rfl, .inr hs, rfl, false, congrArg V.bl (show decide (V.int 2 = V.int 0) = false by decide), iteF (A := False) ?_⟩
    refine ⟨_, rfl, a, _, _, _, rfl, rfl, hs, rfl, _, _, .str "leaf", _, rfl, rfl, T.is (by simp [kinds]), _, rfl, iteF (A := False) ?_⟩
    refine ⟨_, rfl, a, _, _, _, rfl, rfl, hs, rfl, ?_⟩
    refine ⟨_, rfl, _, rfl, a, _, rfl, hs, fun v H' hv => ?_⟩
    obtain ⟨p, rfl, s1, hp⟩ : ∃ p : Addr, v = .ref p ∧ Same H H' ∧ SqT K H' p [.ref b] := by
      have ec : cutV [V.str "leaf", V.ref b] (some 1) none = [.ref b] := by rw [cut_from (by decide)]; rfl
      rw [ec] at hv
      rcases hv with ⟨_, _, z⟩ | ⟨p, np, rfl, rfl⟩
      · exact absurd (congrArg List.length z) (show ¬ (1 = 2) by decide)
      · exact ⟨p, rfl, same_upd np, SqT.of upd_same⟩
    refine ⟨_, rfl, _, rfl, p, b, ls, rfl, hp, s1.tupS hb, g, fun H2 s2 => ⟨true, rfl, iteT (B := False) ?_⟩⟩
    exact k _ (s1.trans s2)
end p_thing
namespace p_need
abbrev st : Stmt := top 26
theorem sc : FnScope ["thing"] ["thing"] (defScope st) := ⟨rfl, rfl, rfl, by decide +kernel, rfl, by decide +kernel, by decide +kernel⟩
theorem ok {f : Addr} {fd : FuncData} (F : Fun K "need_thing" "need_thing" st f fd) (T : Txt P w K mg t1 t2 t3 t4 aL aC aN aT) (C_is_thing : Cal P w K mg base 5 "is_thing" ["thing"] (spIsThing K)) : FnOk P w K mg base CX0 6 f fd ["thing"] (spNeedT K) := by
  refine F.ok sc (fun vs H Q E h => ?_) (fun cdv A outer s H vs Q E hr h => ?_)
  · obtain ⟨v, ls, rfl, _⟩ := h
    rfl
  · obtain ⟨v, ls, rfl, hd, g, k⟩ := h
    refine ⟨_, (pss_cons (ps_if (pt_not (pt_truthK (K := K) (pe_callC C_is_thing (hr.mono (by decide)) (pa_cons (pv 0) pa_nil)) (fun _ => rfl)))
        (pss_one (ps_raise rfl throws_none rfl T.NoThing T.xNoThing (pa_cons pe_str pa_nil)))
        pss_nil)
      (pss_one (ps_ret (pv 0)))), ?_⟩
    exact ⟨_, rfl, v, ls, rfl, hd, g, fun H2 s2 => ⟨_, rfl, iteF ⟨_, rfl, k _ s2⟩⟩⟩
end p_need
namespace s_need
abbrev st : Stmt := inClass (top 34) 3
theorem sc : FnScope ["self", "thing", "row", "parent"] ["self", "thing"] (defScope st) := ⟨rfl, rfl, rfl, by decide +kernel, rfl, by decide +kernel, by decide +kernel⟩
theorem ok {f : Addr} {fd : FuncData} (F : Fun K "need_names" "Shelf.need_names" st f fd) (T : Txt P w K mg t1 t2 t3 t4 aL aC aN aT) (M_need_form : Met P w K mg base aC 1 "need_form" ["self", "name", "forms"] spNever) : FnOk P w K mg base CX0 2 f fd ["self", "thing"] (spNeedN K) := by
  refine F.ok sc (fun vs H Q E h => ?_) (fun cdv A outer s H vs Q E hr h => ?_)
  · obtain ⟨a, v, ls, rfl, _⟩ := h
    rfl
  · obtain ⟨a, v, ls, rfl, hd, k⟩ := h
    refine ⟨_, (pss_cut (ps_if (pt_cmpR op_eq (pe_ix (ix_tup : IxR _ (rIxT K)) (pv 1) pe_int (fun _ _ => rfl)) pe_str (nomark _))
        (pss_one (ps_for PassesOwn.never rfl (pi_tup (pe_ix (ix_tup : IxR _ (rIxT K)) (pv 1) pe_int (fun _ _ => rfl))) (pg_name (i := 2) sc.nd rfl (Or.inl rfl))
          (pss_one (ps_expr (pe_metC (pv 0) T.cls M_need_form (hr.mono (by decide)) (pa_cons (pe_ix (ix_tup : IxR _ (rIxT K)) (pv 2) pe_int (fun _ _ => rfl)) (pa_cons (pe_tup (pa_cons pe_str (pa_cons pe_str pa_nil))) pa_nil)))))))
        pss_nil)
      (pss_one (ps_if (pt_cmpR op_eq (pe_ix (ix_tup : IxR _ (rIxT K)) (pv 1) pe_int (fun _ _ => rfl)) pe_str (nomark _))
        (pss_cons (ps_expr (pe_metC (pv 0) T.cls M_need_form (hr.mono (by decide)) (pa_cons (pe_ix (ix_tup : IxR _ (rIxT K)) (pv 1) pe_int (fun _ _ => rfl)) (pa_cons (pe_tup (pa_cons pe_str pa_nil)) pa_nil))))
        (pss_one (ps_for PassesOwn.never rfl (pi_tup (pe_ix (ix_tup : IxR _ (rIxT K)) (pv 1) pe_int (fun _ _ => rfl))) (pg_name (i := 3) sc.nd rfl (Or.inl rfl))
          (pss_one (ps_expr (pe_metC (pv 0) T.cls M_need_form (hr.mono (by decide)) (pa_cons (pv 3) (pa_cons (pe_tup (pa_cons pe_str pa_nil)) pa_nil))))))))
        pss_nil))), ?_⟩
    obtain ⟨p, b, rfl, hs, hb⟩ := leaf_at hd
    refine ⟨fun σ' H' => σ' = [some a, some (.ref p), none, none] ∧ H' = H, ?_, ?_⟩
    · exact ⟨_, rfl, p, _, _, _, rfl, rfl, hs, rfl, rfl, false, congrArg V.bl (by decide +kernel), iteF (A := False) ⟨rfl, rfl⟩⟩
    · rintro σ' H' ⟨rfl, rfl⟩
      exact ⟨_, rfl, p, _, _, _, rfl, rfl, hs, rfl, rfl, false, congrArg V.bl (by decide +kernel), iteF (A := False) k⟩
end s_need
namespace s_put
abbrev st : Stmt := inClass (top 34) 2
theorem sc : FnScope ["self", "thing", "head", "number", "name"] ["self", "thing"] (defScope st) := ⟨rfl, rfl, rfl, by decide +kernel, rfl, by decide +kernel, by decide +kernel⟩
theorem ok {f : Addr} {fd : FuncData} (F : Fun K "put" "Shelf.put" st f fd) (T : Txt P w K mg t1 t2 t3 t4 aL aC aN aT) (C_need_thing : Cal P w K mg base 6 "need_thing" ["thing"] (spNeedT K)) (M_need_names : Met P w K mg base aC 2 "need_names" ["self", "thing"] (spNeedN K))
    (C_letter_of : Cal P w K mg base 1 "letter_of" ["thing"] (spLetter K)) (C_digest : Cal P w K mg base 4 "digest" ["thing"] (spDigest K)) (M_take : Met P w K mg base aC 1 "take" ["self", "name", "thing"] (spTake P w K aC)) : FnOk P w K mg base CX0 7 f fd ["self", "thing"] (spPut P w K aC) := by
  refine F.ok sc (fun vs H Q E h => ?_) (fun cdv A outer s H vs Q E hr h => ?_)
  · obtain ⟨a, fp, S, v, ls, rfl, _⟩ := h
    rfl
  · obtain ⟨a, fp, S, v, ls, rfl, sh, hd, g, hl, hn, k1, k2⟩ := h
    have hu := hu_of hr
    refine ⟨_, (pss_cons (ps_expr (pe_callC C_need_thing (hr.mono (by decide)) (pa_cons (pv 1) pa_nil)))
      (pss_cons (ps_expr (pe_metC (pv 0) T.cls M_need_names (hr.mono (by decide)) (pa_cons (pv 1) pa_nil)))
      (pss_cons (ps_if (pt_cmpR (op_inT hr.units) (pv 1) (pe_fld (pv 0) rfl) (by with_unfolding_all rfl))
        (pss_one (ps_ret (pe_tget hr.units (pe_fld (pv 0) rfl) (pv 1) (fun _ _ => rfl))))
        pss_nil)
      (pss_cons (ps_set (i := 2) sc.nd rfl (Or.inl rfl) (pe_op op_add_str (pe_callC C_letter_of (hr.mono (by decide)) (pa_cons (pv 1) pa_nil)) (pe_callTy call_str_int (by rfl) T.str PyProof.Rows.boot_str (pa_cons (pe_callC C_digest (hr.mono (by decide)) (pa_cons (pv 1) pa_nil)) pa_nil))))
      (pss_cons (ps_set (i := 3) sc.nd rfl (Or.inl rfl) (pe_dget2 hu (pe_fld (pv 0) rfl) (pv 2) pe_int ⟨rfl, rfl, rfl, rfl⟩))
      (pss_cons (ps_set (i := 4) sc.nd rfl (Or.inl rfl) (pe_f3 (pv 2) (pv 3)))
      (pss_cons (ps_expr (pe_metC (pv 0) T.cls M_take (hr.mono (by decide)) (pa_cons (pv 4) (pa_cons (pv 1) pa_nil))))
      (pss_one (ps_ret (pv 4)))))))))), ?_⟩
    obtain ⟨tv, ev⟩ : ∃ t, v = .ref t := by
      obtain ⟨t, xs, e, _⟩ := hd
      exact ⟨t, e⟩
    subst ev
    refine ⟨_, rfl, .ref tv, ls, rfl, hd, g, fun H1 s1 => ?_⟩
    have sh1 := sh.same s1
    have hd1 := Dt.same s1 _ _ hd
    obtain ⟨gS, dx, d1, d2, d3, ts, nx, efp, nd, h1, h2, h3, h4, h5, h6, h7, h8, h9⟩ := id sh1
    refine ⟨_, rfl, a, dx, _, rfl, h1, rfl, _, rfl, .ref a, .ref tv, ls, rfl, hd1, ?_⟩
    have kt := leaf_key g
    refine ⟨_, rfl, _, rfl, a, aC, dx, _, _, rfl, h1, T.cls, T.n2, rfl, tv, d2, _, (Th.leaf ls).dat, rfl, rfl, h5, kt, hd1, _, rfl, ?_⟩
    cases hv : valV (S.map fun e => (e.d, V.str e.nm)) (Th.leaf ls).dat with
    | some u =>
      obtain ⟨p, hp, e⟩ := List.mem_map.mp (valV_in hv)
      obtain ⟨en, hen, rfl⟩ := List.mem_map.mp hp
      have e : en.d = (Th.leaf ls).dat := e
      have hu' : valV (S.map fun e => (e.d, V.str e.nm)) (Th.leaf ls).dat = some (V.str en.nm) := val_mem (by rw [List.map_map]; exact gS.nd) (List.mem_map.mpr ⟨en, hen, by rw [e]⟩)
      exact iteT ⟨_, rfl, a, aC, dx, _, _, rfl, h1, T.cls, T.n2, rfl, _, rfl, tv, d2, _, (Th.leaf ls).dat, _, rfl, rfl, h5, kt, hd1, hu', k1 en hen e _ s1⟩
    | none =>
      have hnd : (Th.leaf ls).dat ∉ S.map (·.d) := fun z => by
        have := valV_not hv
        rw [List.map_map] at this
        exact this z
      refine iteF (A := False) ?_
      have db := dg_bound (Th.leaf ls).sp
      refine ⟨_, rfl, .ref tv, .leaf ls, rfl, hd1, _, rfl, .ref tv, .leaf ls, rfl, hd1, leaf_good g, fun H2 s2 => ⟨_, rfl, ?_, _, _, rfl, rfl, ?_, ?_⟩⟩
      · have := db
        have hz : (dg (Th.leaf ls).sp).natAbs < 97 := by omega
        rcases Nat.eq_zero_or_pos (dg (Th.leaf ls).sp).natAbs with z | z
        · rw [z]; decide
        · have : (dg (Th.leaf ls).sp).natAbs.log2 < 7 := (Nat.log2_lt (by omega)).mpr (by omega)
          omega
      · rw [num_dg]
        have h1 := num_len2 (n := (dg (Th.leaf ls).sp).toNat) (by omega)
        have h2 : (Th.leaf ls).letter.length = 1 := by show ("L" : Str).length = 1; decide +kernel
        exact le_line (by omega)
      rw [num_dg]
      show gName 2 (V.str (headL ls)) _ H2 _
      have sh2 := sh1.same s2
      have g1 := s2 _ _ h1
      have g6 := s2 _ _ h6
      refine ⟨_, rfl, a, aC, dx, _, _, rfl, g1, T.cls, T.n3, rfl, d3, rfl, .inl ⟨_, .inl g6⟩, _, rfl, _, DGet.k (k := (Sum.inr (headL ls) : Key)) g6, ?_⟩
      have em : (valV nx (Sum.inr (headL ls) : Key)).getD (V.int 0) = V.int (((nextOf S (headL ls)).getD 0 : Nat) : Int) := by
        rw [h8]
        cases nextOf S (headL ls) with
        | none => rfl
        | some m => rfl
      rw [em]
      have dl : ("." : Str).length = 1 := by decide +kernel
      refine ⟨_, rfl, _, rfl, by have := head_len ls; omega, by rw [dl]; decide, _, rfl, _, rfl, hn, ?_⟩
      have enm : headL ls ++ "." ++ numT ((nextOf S (headL ls)).getD 0) = (entL S ls).nm := by unfold En.nm entL; rw [dot_is]
      rw [enm]
      refine ⟨_, rfl, a, dx, _, rfl, g1, rfl, _, rfl, _, rfl, a, fp, S, entL S ls, tv, rfl, sh2, ⟨kt, head_free ls, hn, head_len ls⟩, Dt.same s2 _ _ hd1, hnd, new_nm gS (head_free ls), hl, fun H3 o3 sh3 => ?_⟩
      exact ⟨_, rfl, k2 hnd H3 ((Off.of (s1.trans s2)).trans o3) sh3⟩
end s_put
end
end An03

set_option Elab.async false
set_option linter.all false
set_option maxRecDepth 100000
set_option maxHeartbeats 4000000
namespace An03
open PySem L2 An
seal L2.PS L2.PSs L2.PE L2.PT L2.PW L2.PA L2.PG L2.PGs L2.PI L2.PFi L2.PC
def spInit (P : Program) (w : World) (K : PySem.W.Frag) (C : Addr) : Sp := fun vs H Q _ => ∃ (x dx : Addr) (b : V) (S : List En), vs = [.ref x, b] ∧ H x = some (.ins C dx []) ∧ H dx = some (.own x) ∧ dx ≠ x ∧
  ((b = .non ∧ S = []) ∨ ∃ a fp0, b = .ref a ∧ ShAt P w K C H a fp0 S ∧ x ∉ fp0 ∧ dx ∉ fp0 ∧ S.length < 1000) ∧ ∀ fp H', (∀ c ∈ fp, c = x ∨ c = dx ∨ H c = none) → Off [x] H H' → ShAt P w K C H' x fp S → Q .non H'
theorem nodup_take {α : Type} {l : List α} {i : Nat} {x : α} (nd : l.Nodup) (h : l[i]? = some x) : x ∉ l.take i := fun z => by
  obtain ⟨j, hj, e⟩ := List.mem_iff_getElem.mp z
  rw [List.length_take] at hj
  rw [List.getElem_take] at e
  obtain ⟨hi, e'⟩ := List.getElem?_eq_some_iff.mp h
  exact List.pairwise_iff_getElem.mp nd j i (by omega) hi (by omega) (e.trans e'.symm)
section
variable {P : Program} {w : World} {K : PySem.W.Frag} {mg : Str → Option Value} {base : Heap} {t1 t2 t3 t4 : Tok} {aL aC aN aT : Addr}
namespace s_init
abbrev st : Stmt := inClass (top 34) 0
theorem sc : FnScope ["self", "base", "name"] ["self", "base"] (defScope st) := ⟨rfl, rfl, rfl, by decide +kernel, rfl, by decide +kernel, by decide +kernel⟩
theorem ok {f : Addr} {fd : FuncData} (F : Fun K "__init__" "Shelf.__init__" st f fd) (T : Txt P w K mg t1 t2 t3 t4 aL aC aN aT) (M_names : Met P w K mg base aC 1 "names" ["self"] (spNames P w K aC)) (M_take : Met P w K mg base aC 1 "take" ["self", "name", "thing"] (spTake P w K aC))
    (M_thing : Met P w K mg base aC 4 "thing" ["self", "name"] (spThing P w K aC)) : FnOk P w K mg base CX0 5 f fd ["self", "base"] (spInit P w K aC) := by
  refine F.ok sc (fun vs H Q E h => ?_) (fun cdv A outer s H vs Q E hr h => ?_)
  · obtain ⟨x, dx, b, S, rfl, _⟩ := h
    rfl
  · obtain ⟨x, dx, b, S, rfl, hx, hdx, ne, hb, k⟩ := h
    refine ⟨_, (pss_cons (ps_fld (pv 0) pe_dnewK rfl)
      (pss_cons (ps_fld (pv 0) pe_dnewX rfl)
      (pss_cons (ps_fld (pv 0) pe_dnewK rfl)
      (pss_one (ps_if (pt_cmpR op_notN (pv 1) pe_non (nomark _))
        (pss_one (ps_for PassesOwn.never rfl (pi_list (pe_metC0 (pv 1) T.cls M_names (hr.mono (by decide)))) (pg_name (i := 2) sc.nd rfl (Or.inl rfl))
          (pss_one (ps_expr (pe_metC (pv 0) T.cls M_take (hr.mono (by decide)) (pa_cons (pv 2) (pa_cons (pe_metC (pv 1) T.cls M_thing (hr.mono (by decide)) (pa_cons (pv 2) pa_nil)) pa_nil)))))))
        pss_nil))))), ?_⟩
    refine fun d1 n1 => ⟨_, rfl, x, aC, dx, _, rfl, (same_upd n1) _ _ hx, T.cls, T.n1, by decide, ?_⟩
    have x1 : x ≠ d1 := ne_of_none hx n1
    have dx1 : dx ≠ d1 := ne_of_none hdx n1
    refine fun d2 o2 n2 T2 e2 => ?_
    obtain ⟨es, rfl⟩ := e2
    have n2' : d2 ≠ x ∧ d2 ≠ d1 ∧ H d2 = none := by
      refine ⟨fun z => ?_, fun z => ?_, ?_⟩
      · rw [z, upd_same] at n2; cases n2
      · rw [z, upd_ne (Ne.symm x1), upd_same] at n2; cases n2
      · have a1 : d2 ≠ x := fun z => by rw [z, upd_same] at n2; cases n2
        have a2 : d2 ≠ d1 := fun z => by rw [z, upd_ne (Ne.symm x1), upd_same] at n2; cases n2
        rw [upd_ne a1, upd_ne a2] at n2
        exact n2
    obtain ⟨c2x, c21, c2n⟩ := n2'
    have dx2 : dx ≠ d2 := ne_of_none hdx c2n
    refine ⟨_, rfl, x, aC, dx, [("thing_by_name", V.ref d1)], rfl, by rw [upd_ne (Ne.symm c2x), upd_same]; rfl, T.cls, T.n2, (show 1 < 1000 by decide), ?_⟩
    refine fun d3 n3 => ?_
    have n3' : d3 ≠ x ∧ d3 ≠ d2 ∧ d3 ≠ d1 ∧ H d3 = none := by
      have a1 : d3 ≠ x := fun z => by rw [z, upd_same] at n3; cases n3
      have a2 : d3 ≠ d2 := fun z => by rw [z, upd_ne c2x, upd_same] at n3; cases n3
      have a3 : d3 ≠ d1 := fun z => by rw [z, upd_ne (Ne.symm x1), upd_ne (Ne.symm c21), upd_ne (Ne.symm x1), upd_same] at n3; cases n3
      refine ⟨a1, a2, a3, ?_⟩
      rw [upd_ne a1, upd_ne a2, upd_ne a1, upd_ne a3] at n3
      exact n3
    obtain ⟨c3x, c32, c31, c3n⟩ := n3'
    have dx3 : dx ≠ d3 := ne_of_none hdx c3n
    refine ⟨_, rfl, x, aC, dx, [("thing_by_name", V.ref d1), ("name_by_thing", V.ref d2)], rfl, by rw [upd_ne (Ne.symm c3x), upd_same]; rfl, T.cls, T.n3, (show 2 < 1000 by decide), ?_⟩
    -- the heap as it is now
    obtain ⟨H4, e4⟩ : ∃ H4, H4 = upd (upd (upd (upd (upd (upd H d1 (.dK [])) x (.ins aC dx (putF "thing_by_name" (V.ref d1) []))) d2 (RawD d2 es)) x (.ins aC dx (putF "name_by_thing" (V.ref d2) [("thing_by_name", V.ref d1)]))) d3 (.dK [])) x (.ins aC dx (putF "next_numbers" (V.ref d3) [("thing_by_name", V.ref d1), ("name_by_thing", V.ref d2)])) := ⟨_, rfl⟩
    have q0 : H4 x = some (.ins aC dx (flds d1 d2 d3)) := by rw [e4, upd_same]; rfl
    have q1 : H4 d1 = some (.dK []) := by rw [e4, upd_ne (Ne.symm x1), upd_ne (Ne.symm c31), upd_ne (Ne.symm x1), upd_ne (Ne.symm c21), upd_ne (Ne.symm x1), upd_same]
    have q2 : H4 d2 = some (RawD d2 es) := by rw [e4, upd_ne c2x, upd_ne (Ne.symm c32), upd_ne c2x, upd_same]
    have q3 : H4 d3 = some (.dK []) := by rw [e4, upd_ne c3x, upd_same]
    have qx : H4 dx = some (.own x) := by rw [e4, upd_ne ne, upd_ne dx3, upd_ne ne, upd_ne dx2, upd_ne ne, upd_ne dx1]; exact hdx
    have of4 : Off [x] H H4 := fun c o hc e => by
      have cx : c ≠ x := fun z => hc (by rw [z]; exact List.mem_cons_self)
      rw [e4, upd_ne cx, upd_ne (ne_of_none e c3n), upd_ne cx, upd_ne (ne_of_none e c2n), upd_ne cx, upd_ne (ne_of_none e n1)]
      exact e
    have fpn : ∀ c ∈ [x, dx, d1, d2, d3], c = x ∨ c = dx ∨ H c = none := fun c hc => by
      simp only [List.mem_cons, List.not_mem_nil, or_false] at hc
      rcases hc with rfl | rfl | rfl | rfl | rfl
      · exact .inl rfl
      · exact .inr (.inl rfl)
      · exact .inr (.inr n1)
      · exact .inr (.inr c2n)
      · exact .inr (.inr c3n)
    have sh4 : ShAt P w K aC H4 x [x, dx, d1, d2, d3] [] := by
      obtain ⟨_, _, _, xs, exs, r⟩ := T2
      cases r
      rw [upd_same] at exs
      have q2' : H4 d2 = some (RawD d2 (List.map (entryOfKey (thingKind P w)) [])) := q2.trans exs
      exact ⟨GoodS.nil, dx, d1, d2, d3, [], [], rfl, by simp [Ne.symm ne, x1, Ne.symm c2x, Ne.symm c3x, dx1, dx2, dx3, Ne.symm c21, Ne.symm c31, Ne.symm c32], q0, qx, rfl, q1, ⟨Nat.zero_le _, fun _ z => (nomatch z), List.nodup_nil, [], q2', .nil⟩, q3, Nat.zero_le _, fun h => rfl, fun i e t z => by cases z⟩
    rw [← e4]
    clear e4
    rcases hb with ⟨rfl, rfl⟩ | ⟨a, fp0, rfl, sh0, x0, dx0, Sl⟩
    · exact ⟨_, rfl, rfl, false, congrArg V.bl (by rw [decide_eq_true rfl]; rfl), iteF (A := False) (k _ _ fpn of4 sh4)⟩
    · refine ⟨_, rfl, rfl, true, congrArg V.bl (by rw [decide_eq_false (fun z => by cases z)]; rfl), iteT (B := False) ?_⟩
      have dj : ∀ c ∈ fp0, c ∉ [x, dx, d1, d2, d3] := fun c hc z => by
        obtain ⟨o, eo, _⟩ := sh0.noseq c hc
        rcases fpn c z with rfl | rfl | q
        · exact x0 hc
        · exact dx0 hc
        · rw [eo] at q; cases q
      have sh04 : ShAt P w K aC H4 a fp0 S := sh0.off (gp := [x]) (fun b hb xs z => by
        rw [List.mem_singleton.mp hb] at z
        rcases z with z | ⟨u, z⟩
        · rw [hx] at z; cases z
        · rw [hx] at z; cases z) of4 (fun c hc z => x0 (by rw [← List.mem_singleton.mp z]; exact hc))
      obtain ⟨gS, dy, e1, e2, e3, ts, nx, efp, nd, h1, h2, h3, h4, h5, h6, h7, h8, h9⟩ := id sh04
      refine ⟨_, rfl, a, dy, _, rfl, h1, rfl, a, fp0, S, rfl, sh04, fun l nl => ?_⟩
      have ul := same_upd (o := .lst (S.map fun e => V.str e.nm)) nl
      have hl5 : upd H4 l (.lst (S.map fun e => V.str e.nm)) l = some (.lst (S.map fun e => V.str e.nm)) := upd_same
      have sh5 := sh4.same ul
      have sh05 := sh04.same ul
      have lfp : l ∉ [x, dx, d1, d2, d3] := fun z => by
        obtain ⟨o, eo, _⟩ := sh4.noseq l z
        rw [eo] at nl; cases nl
      have of5 : Off [x] H (upd H4 l (.lst (S.map fun e => V.str e.nm))) := of4.trans (Off.of ul)
      refine ⟨l, rfl, ⟨_, SqL.of hl5⟩, ?_⟩
      generalize upd H4 l (.lst (S.map fun e => V.str e.nm)) = H5 at ul hl5 sh5 sh05 of5
      have ns5 := sh5.noseq.tup
      refine for_list (K := K) (a := l) (xs := S.map fun e => V.str e.nm) (fun i σ H6 => ∃ o, σ = [some (.ref x), some (.ref a), o] ∧ Off [x, dx, d1, d2, d3] H5 H6 ∧ ShAt P w K aC H6 x [x, dx, d1, d2, d3] (S.take i)) ⟨none, rfl, Off.refl _ _, sh5⟩ (fun i σ H6 hi ⟨_, _, o6, _⟩ => SqL.of (o6 _ _ lfp hl5)) ?_ ?_
      · rintro i v σ H6 hv ⟨o, rfl, o6, sh6⟩
        rw [List.getElem?_map] at hv
        cases q : S[i]? with
        | none => rw [q] at hv; cases hv
        | some e =>
          rw [q] at hv
          have hv : V.str e.nm = v := Option.some.inj hv
          subst hv
          have he := List.mem_of_getElem? q
          have sh06 := sh05.off ns5 o6 dj
          obtain ⟨_, dy', _, _, _, _, _, _, _, k1, _⟩ := id sh06
          obtain ⟨_, dz', _, _, _, _, _, _, _, z1, _⟩ := id sh6
          refine ⟨_, rfl, x, dz', _, rfl, z1, rfl, _, rfl, _, rfl, a, dy', _, rfl, k1, rfl, _, rfl, a, fp0, S, e, rfl, sh06, he, fun t ht => ?_⟩
          refine ⟨x, _, S.take i, e, t, rfl, sh6, gS.ent e he, ht, ?_, ?_, by rw [List.length_take]; omega, fun H7 o7 sh7 => ?_⟩
          · rw [List.map_take]; exact nodup_take gS.nd (by rw [List.getElem?_map, q]; rfl)
          · rw [List.map_take]; exact nodup_take gS.nn (by rw [List.getElem?_map, q]; rfl)
          · refine ⟨_, rfl, o6.trans o7, ?_⟩
            rw [List.take_add_one, q]
            exact sh7
      · rintro σ H6 ⟨o, rfl, o6, sh6⟩
        rw [List.length_map, List.take_length] at sh6
        refine k _ _ fpn (fun c u hc e => ?_) sh6
        have e5 := of5 c u hc e
        by_cases z : c ∈ [x, dx, d1, d2, d3]
        · rcases fpn c z with q | q | q
          · exact absurd (by rw [q]; exact List.mem_cons_self) hc
          · subst q
            obtain ⟨_, dz', y1, y2, y3, _, _, efp', _, _, z2, _⟩ := id sh6
            injection efp' with w1 w2
            injection w2 with w2 w3
            subst w2
            rw [hdx] at e
            cases e
            exact z2
          · rw [e] at q; cases q
        · exact o6 c u z e5
end s_init
end
end An03

set_option Elab.async false
set_option linter.all false
set_option maxRecDepth 100000
set_option maxHeartbeats 4000000
/-! max of a list of whole numbers -/
namespace L2
open PySem PySem.Spec PyProof.Rows
section
variable {X : Cx} {K : PySem.W.Frag}
def rMaxL (K : PySem.W.Frag) : List V → Hp → VK → Prop := fun xs H Q => ∃ (a : Addr) (ns : List Int), xs = [.ref a] ∧ SqL K H a (ns.map V.int) ∧ ns ≠ [] ∧ ∀ M, M ∈ ns → (∀ n ∈ ns, n ≤ M) → Q (.int M) H
theorem call_maxL (hc : X.calm = true) (hK : X.K = K := by rfl) : CallR X (.builtin "max") (rMaxL K) := by
  subst hK
  intro pins s σ H xs us Q I r h
  obtain ⟨a, ns, rfl, ha, hne, q⟩ := h
  obtain ⟨u, rfl, ru⟩ := vals1 r
  cases ru
  obtain ⟨its, rv, pl, hz⟩ := I.list ha
  have hi : IntsAre its ns := intsAre_of rv
  have hl := pl.isList
  obtain ⟨xs, e⟩ := hi.allInts.items
  have hns : ns = xs.toList.map (·.1) := by rw [← hi.numsOf, ← nums_intItems, ← e]
  have hsz : 0 < xs.size := by
    have h3 : 0 < ns.length := List.length_pos_iff.mpr hne
    rw [hns, List.length_map, Array.length_toList] at h3; exact h3
  rw [e] at hl
  refine max_intList (I.ok.hd hc) hl hsz fun v h' tk hv hk => ?_
  obtain ⟨t, rfl⟩ := intItems_at hv
  obtain ⟨h1, h2⟩ := argBest_gt (numAt xs) (xs.size - 1)
  refine ⟨.int _, H, I.kept (fun b o e => ?_), ⟨t, rfl⟩, q _ ?_ ?_⟩
  · exact hk b o e
  · rw [hns, numAt_eq]; exact getD_mem (by rw [List.length_map, Array.length_toList]; omega)
  · intro n hn
    rw [hns] at hn
    obtain ⟨j, hj, rfl⟩ := mem_getD hn
    rw [List.length_map, Array.length_toList] at hj
    rw [← numAt_eq]; exact h2 j (by omega)
theorem op_ninD (hu : X.A.units + 64 < cLine) (hK : X.K = K := by rfl) : OpR X (compareOp .NotIn) (rInD K false true) := by
  subst hK
  intro pins s σ H x y v u Q I rx ry h
  obtain ⟨d, xs, h1, h2, h3, h4, h5, q⟩ := h
  obtain ⟨as, r1⟩ := Dt.reads I d x v h1 rx
  obtain ⟨bs, r2⟩ := Dt.reads I _ y u h2 ry
  have hm : min (PyData.depthAll xs) d.depth ≤ d.depth := Nat.min_le_right _ _
  exact SeqAt.notIn_list_reads r2 r1 h3 h4 (by omega) ⟨.bl _, H, I, rfl, by simpa using q⟩
end
end L2

set_option Elab.async false
set_option linter.all false
set_option maxRecDepth 100000
set_option maxHeartbeats 4000000
namespace An03
open PySem L2 An
seal L2.PS L2.PSs L2.PE L2.PT L2.PW L2.PA L2.PG L2.PGs L2.PI L2.PFi L2.PC
/-! ### cuts of names -/
theorem cs_to (x : Str) (n : Nat) : cs (Txt.slice x none (some (n : Int))) = (cs x).take n := by
  by_cases h : n ≤ x.length
  · have e := eq_of_beq (PyProof.Rows.slice_closes_toL (x := x) (j := (n : Int)) (by omega) (by omega))
    rw [e]
    show ((x.cps.toList.drop (0 : Int).toNat).take ((n : Int) - 0).toNat).toArray.toList = _
    simp [cs]
  · have e := eq_of_beq (PyProof.Rows.slice_closes_toL (x := x) (j := (x.length : Int)) (by omega) (by omega))
    rw [PyProof.Rows.slice_to_beyond (by omega), e]
    have hl : (cs x).length ≤ n := by rw [← length_cs]; omega
    rw [List.take_of_length_le hl]
    show ((x.cps.toList.drop (0 : Int).toNat).take ((x.length : Int) - 0).toNat).toArray.toList = _
    have : ((x.length : Int) - 0).toNat = x.cps.toList.length := by simp [Str.length]
    rw [this]
    show (x.cps.toList.take x.cps.toList.length) = cs x
    rw [List.take_length]
theorem cs_from (x : Str) (n : Nat) (h : n ≤ x.length) : cs (Txt.slice x (some (n : Int)) none) = (cs x).drop n := by
  have e := eq_of_beq (PyProof.Rows.slice_closes_fromL (x := x) (i := (n : Int)) (b := (x.length : Int)) (by omega) (by omega) rfl)
  rw [e]
  show ((x.cps.toList.drop (n : Int).toNat).take ((x.length : Int) - n).toNat).toArray.toList = _
  have : ((x.length : Int) - n).toNat = (x.cps.toList.drop n).length := by rw [List.length_drop]; simp [Str.length]
  rw [this]
  show (x.cps.toList.drop n).take (x.cps.toList.drop n).length = (cs x).drop n
  rw [List.take_length]
theorem nm_has {e : En} {h : Str} (he : 46 ∉ cs e.h) (hh : 46 ∉ cs h) : Txt.slice e.nm none (some ((h.length : Int) + 1)) = h ++ "." ↔ e.h = h := by
  have q : cs (Txt.slice e.nm none (some ((h.length : Int) + 1))) = (cs e.nm).take (h.length + 1) := cs_to _ _
  have ed : cs (h ++ ".") = cs h ++ [46] := by rw [cs_append, dot_is]; rfl
  constructor
  · intro z
    have z := congrArg cs z
    rw [q, ed] at z
    have z2 : cs e.nm = (cs h ++ [46]) ++ (cs e.nm).drop (h.length + 1) := by rw [← z, List.take_append_drop]
    rw [nm_cs, List.append_assoc] at z2
    exact cs_inj (split46 he hh z2).1
  · intro z
    subst z
    apply cs_inj
    rw [q, ed, nm_cs]
    have : (e.h).length + 1 = (cs e.h ++ [46]).length := by rw [List.length_append, ← length_cs]; rfl
    rw [this, show cs e.h ++ 46 :: cs (numT e.n) = (cs e.h ++ [46]) ++ cs (numT e.n) by simp, List.take_left]
theorem nm_num {e : En} : Txt.slice e.nm (some ((e.h.length : Int) + 1)) none = numT e.n := by
  apply cs_inj
  have hl : e.h.length + 1 ≤ e.nm.length := by
    unfold En.nm
    rw [len_append, len_append]
    have : dot.length = 1 := rfl
    omega
  have q : cs (Txt.slice e.nm (some ((e.h.length : Int) + 1)) none) = (cs e.nm).drop (e.h.length + 1) := cs_from _ _ hl
  rw [q, nm_cs]
  have : (e.h).length + 1 = (cs e.h ++ [46]).length := by rw [List.length_append, ← length_cs]; rfl
  rw [this, show cs e.h ++ 46 :: cs (numT e.n) = (cs e.h ++ [46]) ++ cs (numT e.n) by simp, List.drop_left]
/-! ### numbers -/
def numsOf (S : List En) (h : Str) : List Int := (S.filter fun e => decide (e.h = h)).map fun e => (e.n : Int)
theorem snoc_ind {α : Type} {p : List α → Prop} (h0 : p []) (h1 : ∀ l x, p l → p (l ++ [x])) (l : List α) : p l := by
  have : ∀ l : List α, p l.reverse := by
    intro l
    induction l with
    | nil => exact h0
    | cons x l ih => rw [List.reverse_cons]; exact h1 _ _ ih
  have := this l.reverse
  rwa [List.reverse_reverse] at this
theorem next_in (S : List En) (h : Str) : (nextOf S h).getD 0 = 0 ∨ ∃ e ∈ S, e.h = h ∧ e.n + 1 = (nextOf S h).getD 0 := by
  induction S using snoc_ind with
  | h0 => exact .inl rfl
  | h1 S e ih =>
    rw [nextOf_snoc]
    by_cases q : e.h = h
    · rw [if_pos q]
      show max ((nextOf S h).getD 0) (e.n + 1) = 0 ∨ _
      rcases Nat.le_total ((nextOf S h).getD 0) (e.n + 1) with z | z
      · exact .inr ⟨e, by simp, q, (Nat.max_eq_right z).symm⟩
      · have mz : max ((nextOf S h).getD 0) (e.n + 1) = (nextOf S h).getD 0 := Nat.max_eq_left z
        rcases ih with i | ⟨f, hf, h1, h2⟩
        · exact .inl (mz.trans i)
        · exact .inr ⟨f, by simp [hf], h1, h2.trans mz.symm⟩
    · rw [if_neg q]
      rcases ih with i | ⟨f, hf, h1, h2⟩
      · exact .inl i
      · exact .inr ⟨f, by simp [hf], h1, h2⟩
theorem next_le {S : List En} (hS : ∀ e ∈ S, e.n < S.length) (h : Str) : (nextOf S h).getD 0 ≤ S.length := by
  rcases next_in S h with i | ⟨f, hf, _, h2⟩
  · omega
  · have := hS f hf; omega
theorem max_next {S : List En} {h : Str} {M : Int} (h1 : M ∈ -1 :: numsOf S h) (h2 : ∀ n ∈ -1 :: numsOf S h, n ≤ M) : M + 1 = (((nextOf S h).getD 0 : Nat) : Int) := by
  have up : M < (((nextOf S h).getD 0 : Nat) : Int) := by
    rcases List.mem_cons.mp h1 with z | z
    · omega
    · obtain ⟨e, he, rfl⟩ := List.mem_map.mp z
      obtain ⟨he, eh⟩ := List.mem_filter.mp he
      have := next_gt he
      rw [of_decide_eq_true eh] at this
      omega
  have lo := h2 (-1) List.mem_cons_self
  rcases next_in S h with i | ⟨f, hf, fh, h3⟩
  · omega
  · have := h2 (f.n : Int) (List.mem_cons_of_mem _ (List.mem_map.mpr ⟨f, List.mem_filter.mpr ⟨hf, decide_eq_true fh⟩, rfl⟩))
    omega
theorem num_ok (n : Nat) : PyData.strOk (numT n) = true := by
  rw [strOk_iff]
  intro c hc
  have hc : c ∈ (Str.ofString (toString ((n : Nat) : Int))).cps.toList := hc
  rw [PySem.W.KIN.signs_num] at hc
  obtain ⟨d, hd, rfl⟩ := List.mem_map.mp hc
  show d.val.toNat < 1114112
  rcases d.valid with h | ⟨_, h⟩
  · exact Nat.lt_trans h (by decide)
  · exact h
theorem ok_app {x y : Str} (h1 : PyData.strOk x = true) (h2 : PyData.strOk y = true) : PyData.strOk (x ++ y) = true := by
  rw [strOk_iff] at *
  intro c hc
  rw [cs_append, List.mem_append] at hc
  exact hc.elim (h1 c) (h2 c)
theorem ent_ok (S : List En) (ls : List Str) : PyData.strOk (entL S ls).nm = true := by
  unfold En.nm entL headL
  exact ok_app (ok_app (ok_app (by decide +kernel) (num_ok _)) (by decide +kernel)) (num_ok _)
/-! ### leaves by a cell -/
theorem mul3_ok (c : Nat) {n : Int} (h1 : 1 ≤ n) (h3 : n ≤ 3) : MulOk ⟨#[c]⟩ n := by
  have : n = 1 ∨ n = 2 ∨ n = 3 := by omega
  rcases this with rfl | rfl | rfl
  · exact ⟨by decide, fun _ (z : (true || _) = false) => (nomatch z), fun _ (z : (true || _) = false) => (nomatch z)⟩
  · exact ⟨by decide, fun _ _ => by show ¬ ((1 : Int) > (2 ^ 63 - 1) / 2); decide, fun _ _ => by show Builtin.Str.tooLong (1 * 2) = false; decide⟩
  · exact ⟨by decide, fun _ _ => by show ¬ ((1 : Int) > (2 ^ 63 - 1) / 3); decide, fun _ _ => by show Builtin.Str.tooLong (1 * 3) = false; decide⟩
theorem mul3_line {c : Nat} (hc : signB c = true) {n : Int} (h1 : 1 ≤ n) (h3 : n ≤ 3) : lineB (Txt.mul ⟨#[c]⟩ n) = true := by
  have : n = 1 ∨ n = 2 ∨ n = 3 := by omega
  rcases this with rfl | rfl | rfl
  · show (decide (1 ≤ 20) && ([c]).all signB) = true; simp [hc]
  · show (decide (2 ≤ 20) && ([c, c]).all signB) = true; simp [hc]
  · show (decide (3 ≤ 20) && ([c, c, c]).all signB) = true; simp [hc]
theorem one_line {c : Nat} (hc : signB c = true) : lineB ⟨#[c]⟩ = true := by
  show (decide (1 ≤ 20) && ([c]).all signB) = true; simp [hc]
theorem two_line {c d : Nat} (hc : signB c = true) (hd : signB d = true) : lineB ((⟨#[c]⟩ : Str) ++ ⟨#[d]⟩) = true := by
  show (decide (2 ≤ 20) && ([c, d]).all signB) = true; simp [hc, hd]
theorem leaf_dt {K : PySem.W.Frag} {H : Hp} {a b : Addr} {ls : List Str} (h1 : SqT K H a [.str "leaf", .ref b]) (h2 : SqT K H b (ls.map V.str)) : Dt K H (Th.leaf ls).dat (.ref a) :=
  ⟨a, _, rfl, h1, _, _, rfl, rfl, _, _, rfl, ⟨b, _, rfl, h2, DtAll.strs ls⟩, rfl⟩
def MenuP (p : Nat → Bool) (n : Nat) (x : Str) : Prop := (cs x).length = n ∧ (cs x).all p = true
theorem MenuP.at {p : Nat → Bool} {n : Nat} {x : Str} (h : MenuP p n x) {i : Int} (h0 : 0 ≤ i) (h1 : i < n) : ∃ c, atI x.cps.toList i = some c ∧ p c = true := by
  obtain ⟨j, rfl⟩ := Int.eq_ofNat_of_zero_le h0
  have hj : j < (cs x).length := by rw [h.1]; omega
  exact ⟨(cs x)[j], atI_nat (List.getElem?_eq_getElem hj), List.all_eq_true.mp h.2 _ (List.getElem_mem hj)⟩
theorem MenuP.len {p : Nat → Bool} {n : Nat} {x : Str} (h : MenuP p n x) (hn : n ≤ 1000) : x.length ≤ sizeLine := le_line (by rw [length_cs, h.1]; omega)
def spCellA (K : PySem.W.Frag) : Sp := fun vs H Q _ => ∃ (a : Addr) (ns : List Int) (k : Int), vs = [.ref a, .int k] ∧ SqL K H a (ns.map V.int) ∧ 0 ≤ k ∧ ∀ i, Q (.int i) H
def spDg : Sp := fun vs H Q _ => ∃ x, vs = [.str x] ∧ Q (.int (dg x)) H
def spLeafBy (K : PySem.W.Frag) : Sp := fun vs H Q _ => ∃ c, vs = [.int c] ∧ ∀ v ls H', Same H H' → Dt K H' (Th.leaf ls).dat v → goodLeaf ls → Q v H'
def spKinBy (K : PySem.W.Frag) : Sp := fun vs H Q _ => ∃ (c : Int) (t : Nat), vs = [.int c, .int t] ∧ t < 13 ∧ ∀ v ls H', Same H H' → Dt K H' (Th.leaf ls).dat v → goodLeaf ls → Q v H'
def spListed (K : PySem.W.Frag) : Sp := fun vs H Q _ => ∃ (a b : Addr) (xs : List Str), vs = [.ref a, .ref b] ∧ H a = some (.lst (xs.map V.str)) ∧ H b = some (.lst (xs.map V.str)) ∧ (∀ x ∈ xs, PyData.strOk x = true) ∧ Q (.bl true) H
section
variable {P : Program} {w : World} {K : PySem.W.Frag} {mg : Str → Option Value} {base : Heap} {t1 t2 t3 t4 : Tok} {aL aC aN aT : Addr}
namespace h_cell
abbrev st : Stmt := top 36
theorem sc : FnScope ["_law_script", "_law_k"] ["_law_script", "_law_k"] (defScope st) := ⟨rfl, rfl, rfl, by decide +kernel, rfl, by decide +kernel, by decide +kernel⟩
theorem ok {f : Addr} {fd : FuncData} (F : Fun K "_law_cell_at" "_law_cell_at" st f fd) (T : Txt P w K mg t1 t2 t3 t4 aL aC aN aT) : FnOk P w K mg base CX0 1 f fd ["_law_script", "_law_k"] (spCellA K) := by
  refine F.ok sc (fun vs H Q E h => ?_) (fun cdv A outer s H vs Q E hr h => ?_)
  · obtain ⟨a, ns, k, rfl, _⟩ := h
    rfl
  · obtain ⟨a, ns, k, rfl, hs, h0, q⟩ := h
    refine ⟨_, (pss_cons (ps_if (pt_cmpR op_lt (pv 1) (pe_callB call_len_seq (by rfl) T.len PySem.boot_len (pa_cons (pv 0) pa_nil)) (nomark _))
        (pss_one (ps_ret (pe_ix (ix_list : IxR _ (rIxL K)) (pv 0) (pv 1) (fun _ _ => rfl))))
        pss_nil)
      (pss_one (ps_ret pe_int))), ?_⟩
    refine ⟨_, rfl, _, rfl, a, _, rfl, .inl hs, _, _, rfl, rfl, _, rfl, ite2 (fun h => ?_) (fun h => ?_)⟩
    · have h1 : k < ns.length := by simpa using h
      obtain ⟨n, _, hn⟩ := at_map (f := V.int) h0 h1
      exact ⟨_, rfl, _, rfl, a, _, _, _, rfl, rfl, hs, hn, q n⟩
    · exact q 0
end h_cell
namespace g_digest
abbrev st : Stmt := top 38
theorem sc : FnScope ["_law_text", "_law_found", "_law_sign"] ["_law_text"] (defScope st) := ⟨rfl, rfl, rfl, by decide +kernel, rfl, by decide +kernel, by decide +kernel⟩
theorem ok {f : Addr} {fd : FuncData} (F : Fun K "_law_digest" "_law_digest" st f fd) (T : Txt P w K mg t1 t2 t3 t4 aL aC aN aT) : FnOk P w K mg base CX0 1 f fd ["_law_text"] spDg := by
  refine F.ok sc (fun vs H Q E h => ?_) (fun cdv A outer s H vs Q E hr h => ?_)
  · obtain ⟨x, rfl, _⟩ := h
    rfl
  · obtain ⟨x, rfl, k⟩ := h
    refine ⟨_, (pss_cons (ps_set (i := 1) sc.nd rfl (Or.inl rfl) pe_int)
      (pss_cons (ps_for PassesOwn.never rfl (pi_str (pv 0)) (pg_name (i := 2) sc.nd rfl (Or.inl rfl))
        (pss_one (ps_set (i := 1) sc.nd rfl (Or.inl rfl) (pe_op op_mod (pe_op op_add (pe_op op_mul (pv 1) pe_int) (pe_callB call_ord (by rfl) T.ord PyProof.Rows.boot_ord (pa_cons (pv 2) pa_nil))) pe_int))))
      (pss_one (ps_ret (pv 1))))), ?_⟩
    refine ⟨_, rfl, _, rfl, for_str (fun i σ H2 => ∃ y, σ = [some (.str x), some (.int (((cs x).take i).foldl dgs 0)), y] ∧ H2 = H) ⟨none, rfl, rfl⟩ ?_ ?_⟩
    · rintro i c σ H2 hc ⟨y, rfl, rfl⟩
      refine ⟨_, rfl, _, _, rfl, rfl, .inr ⟨by decide, by decide⟩, _, rfl, _, rfl, rfl, _, _, rfl, rfl, _, _, rfl, rfl, (by show (0 : Int) < 97; decide), some (.str ⟨#[c]⟩), ?_, rfl⟩
      have hc' : (cs x)[i]? = some c := by rw [← hc]; simp
      rw [List.take_add_one, hc', List.foldl_append]
      show [some (V.str x), some (V.int ((((cs x).take i).foldl dgs 0 * 31 + (c : Int)) % 97)), some (V.str ⟨#[c]⟩)] = [some (V.str x), some (V.int ((31 * ((cs x).take i).foldl dgs 0 + (c : Int)) % 97)), some (V.str ⟨#[c]⟩)]
      rw [Int.mul_comm]
    · rintro σ H2 ⟨y, rfl, rfl⟩
      refine ⟨_, rfl, ?_⟩
      rw [length_cs, List.take_length]
      exact k
end g_digest
theorem letters_ps : [(V.str "leaf", V.str "L"), (V.str "tree", V.str "T"), (V.str "note", V.str "N")] = lettersKvs.map (fun kv => (kV kv.1, kv.2)) := rfl
namespace g_spelled
abbrev st : Stmt := top 37
theorem sc : FnScope ["_law_thing", "_law_parts", "_law_row", "_law_text", "_law_part"] ["_law_thing"] (defScope st) := ⟨rfl, rfl, rfl, by decide +kernel, rfl, by decide +kernel, by decide +kernel⟩
theorem len_fold {n : Nat} : ∀ (ps : List Str) (x : Str), (∀ p ∈ ps, p.length ≤ 1000) → (ps.foldl more x).length ≤ x.length + 1011 * ps.length
  | [], x, _ => by simp
  | p :: ps, x, h => by
    have h1 := len_fold (n := n) ps (more x p) fun q hq => h q (List.mem_cons_of_mem _ hq)
    have h2 := h p List.mem_cons_self
    have d := dig_len (n := p.length) (by omega)
    have c2 : (":" : Str).length = 1 := by decide +kernel
    have e : (more x p).length = x.length + (dig p.length).length + 1 + p.length := by
      show (x ++ dig p.length ++ ":" ++ p).length = _
      rw [len_append, len_append, len_append, c2]
    rw [List.foldl_cons, List.length_cons]
    omega
theorem ok {f : Addr} {fd : FuncData} (F : Fun K "_law_spelled" "_law_spelled" st f fd) (T : Txt P w K mg t1 t2 t3 t4 aL aC aN aT) : FnOk P w K mg base CX0 1 f fd ["_law_thing"] (spSpelled K) := by
  refine F.ok sc (fun vs H Q E h => ?_) (fun cdv A outer s H vs Q E hr h => ?_)
  · obtain ⟨v, t, rfl, _⟩ := h
    rfl
  · obtain ⟨v, t, rfl, hd, g, k⟩ := h
    have hu := hu_of hr
    refine ⟨_, (pss_cons (ps_set (i := 1) sc.nd rfl (Or.inl rfl) (pe_lst pa_nil))
      (pss_cut (ps_if (pt_cmpR op_eq (pe_ix (ix_tup : IxR _ (rIxT K)) (pv 0) pe_int (fun _ _ => rfl)) pe_str (nomark _))
        (pss_one (ps_set (i := 1) sc.nd rfl (Or.inl rfl) (pe_callTy call_list_of (by rfl) T.list PyProof.Rows.boot_list (pa_cons (pe_ix (ix_tup : IxR _ (rIxT K)) (pv 0) pe_int (fun _ _ => rfl)) pa_nil))))
        (pss_one (ps_if (pt_cmpR op_eq (pe_ix (ix_tup : IxR _ (rIxT K)) (pv 0) pe_int (fun _ _ => rfl)) pe_str (nomark _))
          (pss_one (ps_set (i := 1) sc.nd rfl (Or.inl rfl) (pe_op op_cat (pe_op op_cat (pe_lst (pa_cons (pe_ix (ix_tup : IxR _ (rIxT K)) (pv 0) pe_int (fun _ _ => rfl)) (pa_cons (pe_callTy call_str_int (by rfl) T.str PyProof.Rows.boot_str (pa_cons (pe_callB call_len_seq (by rfl) T.len PySem.boot_len (pa_cons (pe_ix (ix_tup : IxR _ (rIxT K)) (pv 0) pe_int (fun _ _ => rfl)) pa_nil)) pa_nil)) pa_nil))) (pe_callTy call_list_of (by rfl) T.list PyProof.Rows.boot_list (pa_cons (pe_ix (ix_tup : IxR _ (rIxT K)) (pv 0) pe_int (fun _ _ => rfl)) pa_nil))) (pe_lst (pa_cons (pe_ix (ix_tup : IxR _ (rIxT K)) (pv 0) pe_int (fun _ _ => rfl)) pa_nil)))))
          (pss_one (ps_for PassesOwn.never rfl (pi_tup (pe_ix (ix_tup : IxR _ (rIxT K)) (pv 0) pe_int (fun _ _ => rfl))) (pg_name (i := 2) sc.nd rfl (Or.inl rfl))
            (pss_one (ps_set (i := 1) sc.nd rfl (Or.inl rfl) (pe_op op_cat (pv 1) (pe_lst (pa_cons (pe_ix (ix_tup : IxR _ (rIxT K)) (pv 2) pe_int (fun _ _ => rfl)) (pa_cons (pe_ix (ix_tup : IxR _ (rIxT K)) (pv 2) pe_int (fun _ _ => rfl)) pa_nil)))))))))))
      (pss_cons (ps_set (i := 3) sc.nd rfl (Or.inl rfl) (pe_dget hu (pe_disp (pps_cons pe_str pe_str (pps_cons pe_str pe_str (pps_cons pe_str pe_str pps_nil))) rfl rfl (by simp) (by decide)) (pe_ix (ix_tup : IxR _ (rIxT K)) (pv 0) pe_int (fun _ _ => rfl)) (fun _ _ => rfl)))
      (pss_cons (ps_for PassesOwn.never rfl (pi_list (pv 1)) (pg_name (i := 4) sc.nd rfl (Or.inl rfl))
        (pss_one (ps_set (i := 3) sc.nd rfl (Or.inl rfl) (pe_op op_add_str (pe_op op_add_str (pe_op op_add_str (pv 3) (pe_callTy call_str_int (by rfl) T.str PyProof.Rows.boot_str (pa_cons (pe_callB call_len_str (by rfl) T.len PySem.boot_len (pa_cons (pv 4) pa_nil)) pa_nil))) pe_str) (pv 4)))))
      (pss_one (ps_ret (pv 3))))))), ?_⟩
    refine ⟨Nat.zero_le _, fun l0 n0 => ?_⟩
    have s0 := same_upd (o := .lst []) n0
    refine ⟨fun σ' H' => ∃ l r, σ' = [some v, some (.ref l), r, none, none] ∧ Same H H' ∧ H' l = some (.lst (t.parts.map V.str)), ?_, ?_⟩
    · -- the parts
      cases t with
      | leaf ls =>
        obtain ⟨a, b, rfl, hs, hb⟩ := leaf_at hd
        refine ⟨_, rfl, a, _, _, _, rfl, rfl, s0.tupS hs, rfl, rfl, _, rfl, iteY rfl ?_⟩
        exact ⟨_, rfl, a, _, _, _, rfl, rfl, s0.tupS hs, rfl, b, _, rfl, .inr (s0.tupS hb), fun l nl => ⟨l, none, rfl, s0.trans (same_upd nl), upd_same⟩⟩
      | tree rs =>
        obtain ⟨a, b, rfl, hs, hb⟩ := tree_at hd
        refine ⟨_, rfl, a, _, _, _, rfl, rfl, s0.tupS hs, rfl, rfl, _, rfl, iteN (by decide +kernel) ?_⟩
        refine ⟨_, rfl, a, _, _, _, rfl, rfl, s0.tupS hs, rfl, rfl, _, rfl, iteN (by decide +kernel) ?_⟩
        obtain ⟨b', xs, e, hb1, hx⟩ := hb
        cases e
        have hg := good_rows g
        have hxl : xs.length = rs.length := by rw [hx.length, List.length_map]
        refine ⟨_, rfl, a, _, _, _, rfl, rfl, s0.tupS hs, rfl, b, rfl, ⟨_, s0.tupS hb1⟩, for_tup (K := K) (a := b) (xs := xs) (fun i σ H2 => ∃ l r, σ = [some (.ref a), some (.ref l), r, none, none] ∧ Same H H2 ∧ H2 l = some (.lst ((rowsFlat (rs.take i)).map V.str)))
          ⟨l0, none, rfl, s0, upd_same⟩ (fun i σ H2 _ ⟨_, _, _, e, _⟩ => e.tupS hb1) ?_ ?_⟩
        · rintro i x σ H2 hi ⟨l, r0, rfl, s2, hl⟩
          obtain ⟨r, c, er, rfl, hc⟩ := rows_get hx hi
          have hil : i < rs.length := (List.getElem?_eq_some_iff.mp er).1
          refine ⟨_, rfl, _, rfl, c, _, _, _, rfl, rfl, s2.tupS hc, rfl, _, rfl, c, _, _, _, rfl, rfl, s2.tupS hc, rfl, lineN 2, fun l1 n1 => ?_⟩
          have d1 : l ≠ l1 := ne_of_none hl n1
          refine ⟨l, l1, _, _, rfl, rfl, (by rw [upd_ne d1]; exact hl), upd_same, ?_, fun l2 n2 => ?_⟩
          · rw [List.length_map, f_tree_parts.flat_len, List.length_take]
            exact le_line (by simp only [List.length_cons, List.length_nil]; omega)
          · refine ⟨l2, _, rfl, (s2.trans (same_upd n1)).trans (same_upd n2), ?_⟩
            rw [upd_same, List.take_add_one, er]
            show _ = some (HO.lst ((rowsFlat (rs.take i ++ [r])).map V.str))
            rw [rowsFlat_append, List.map_append]
            rfl
        · rintro σ H2 ⟨l, r0, rfl, s2, hl⟩
          rw [hxl, List.take_length] at hl
          exact ⟨l, r0, rfl, s2, hl⟩
      | note x ps y =>
        obtain ⟨a, b, rfl, hs, hb⟩ := note_at hd
        have hp := good_pars g
        have hs0 := s0.tupS hs
        have hb0 := s0.tupS hb
        refine ⟨_, rfl, a, _, _, _, rfl, rfl, hs0, rfl, rfl, _, rfl, iteN (by decide +kernel) ?_⟩
        refine ⟨_, rfl, a, _, _, _, rfl, rfl, hs0, rfl, rfl, _, rfl, iteY rfl ?_⟩
        refine ⟨_, rfl, a, _, _, _, rfl, rfl, hs0, rfl, _, rfl, a, _, _, _, rfl, rfl, hs0, rfl, b, _, rfl, .inr hb0, _, rfl, ?_, lineN 2, fun l1 n1 => ?_⟩
        · rw [List.length_map]; exact log_small (by omega)
        have s1 := s0.trans (same_upd (o := .lst [V.str x, V.str (Str.ofString (toString (((ps.map V.str).length : Nat) : Int)))]) n1)
        refine ⟨_, rfl, a, _, _, _, rfl, rfl, s1.tupS hs, rfl, b, _, rfl, .inr (s1.tupS hb), fun l2 n2 => ?_⟩
        have s2 := s1.trans (same_upd (o := .lst (ps.map V.str)) n2)
        have d12 : l1 ≠ l2 := ne_of_none upd_same n2
        refine ⟨l1, l2, _, _, rfl, rfl, (by rw [upd_ne d12]; exact upd_same), upd_same, (by rw [List.length_map]; exact le_line (by simp only [List.length_cons, List.length_nil]; omega)), fun l3 n3 => ?_⟩
        have s3 := s2.trans (same_upd (o := .lst ([V.str x, V.str (Str.ofString (toString (((ps.map V.str).length : Nat) : Int)))] ++ ps.map V.str)) n3)
        refine ⟨_, rfl, a, _, _, _, rfl, rfl, s3.tupS hs, rfl, lineN 1, fun l4 n4 => ?_⟩
        have s4 := s3.trans (same_upd (o := .lst [V.str y]) n4)
        have d34 : l3 ≠ l4 := ne_of_none upd_same n4
        refine ⟨l3, l4, _, _, rfl, rfl, (by rw [upd_ne d34]; exact upd_same), upd_same, ?_, fun l5 n5 => ?_⟩
        · rw [List.length_append, List.length_map]
          exact le_line (by simp only [List.length_cons, List.length_nil]; omega)
        · refine ⟨l5, none, rfl, s4.trans (same_upd n5), ?_⟩
          rw [upd_same]
          congr 2
          show _ = ([x, dig ps.length] ++ ps ++ [y]).map V.str
          rw [List.map_append, List.map_append]
          show ([V.str x, V.str (Str.ofString (toString (((ps.map V.str).length : Nat) : Int)))] ++ ps.map V.str) ++ [V.str y] = _
          rw [List.length_map]
          rfl
    · -- the letter, the loop
      rintro σ H1 ⟨l, r, rfl, s1, hl⟩
      intro d nd
      refine ⟨upd_same, lettersKvs, letters_ps, (by decide), ?_⟩
      obtain ⟨a, rr, rfl, hs⟩ := thing_at hd
      have s2 : Same H (upd (upd H1 d (.dK [])) d (.dK (mergeK [] lettersKvs))) := by rw [upd_upd]; exact s1.trans (same_upd nd)
      have hl2 : (upd (upd H1 d (.dK [])) d (.dK (mergeK [] lettersKvs))) l = some (.lst (t.parts.map V.str)) := by rw [upd_upd, upd_ne (ne_of_none hl nd)]; exact hl
      have hm : mergeK [] lettersKvs = lettersKvs := by decide +kernel
      refine ⟨_, rfl, a, _, _, _, rfl, rfl, s2.tupS hs, atI_zero _ _, d, .str t.letter, rfl, ?_, ?_⟩
      · have e := DGet.k (H := upd (upd H1 d (.dK [])) d (.dK (mergeK [] lettersKvs))) (k := (Sum.inr t.word : Key)) upd_same
        rw [hm, letters_at] at e
        rw [hm]
        exact e
      have hlen : (t.parts.map V.str).length ≤ 1000 := by rw [List.length_map]; exact g.1
      refine ⟨_, rfl, l, rfl, ⟨_, SqL.of hl2⟩, for_list (K := K) (a := l) (xs := t.parts.map V.str) (fun i σ H2 => ∃ y, σ = [some (.ref a), some (.ref l), r, some (.str ((t.parts.take i).foldl more t.letter)), y] ∧ H2 = upd (upd H1 d (.dK [])) d (.dK (mergeK [] lettersKvs)))
        ⟨none, rfl, rfl⟩ (fun i σ H2 _ ⟨_, _, e⟩ => by rw [e]; exact SqL.of hl2) ?_ ?_⟩
      · rintro i x σ H2 hi ⟨y, rfl, rfl⟩
        rw [List.getElem?_map] at hi
        cases q : t.parts[i]? with
        | none => rw [q] at hi; cases hi
        | some p =>
          rw [q] at hi
          have hi : V.str p = x := Option.some.inj hi
          subst hi
          have hp := (g.2 p (List.mem_of_getElem? q)).len
          have hdl := dig_len (n := p.length) (by omega)
          have c2 : (":" : Str).length = 1 := by decide +kernel
          have c1 : t.letter.length = 1 := by rw [length_cs, letter_cs]; rfl
          have b1 := len_fold (n := 0) (t.parts.take i) t.letter fun z hz => (g.2 z (List.mem_of_mem_take hz)).len
          have b2 : (t.parts.take i).length ≤ 1000 := by rw [List.length_take]; exact Nat.le_trans (Nat.min_le_right _ _) g.1
          refine ⟨_, rfl, _, rfl, p, rfl, le_line (by omega), _, rfl, log_small (by omega), _, _, rfl, rfl, le_line ?_, _, _, rfl, rfl, le_line ?_, _, rfl, _, _, rfl, rfl, le_line ?_, some (.str p), ?_, rfl⟩
          · show _ + (dig p.length).length ≤ _
            omega
          · show (_ ++ dig p.length).length + (":" : Str).length ≤ _
            rw [len_append, c2]
            omega
          · show (_ ++ dig p.length ++ ":").length + p.length ≤ _
            rw [len_append, len_append, c2]
            omega
          · rw [List.take_add_one, q, List.foldl_append]
            rfl
      · rintro σ H2 ⟨y, rfl, rfl⟩
        refine ⟨_, rfl, ?_⟩
        rw [List.length_map, List.take_length]
        exact k _ s2
end g_spelled

end
end An03

set_option Elab.async false
set_option linter.all false
set_option maxRecDepth 100000
set_option maxHeartbeats 4000000
namespace An03
open PySem L2 An
seal L2.PS L2.PSs L2.PE L2.PT L2.PW L2.PA L2.PG L2.PGs L2.PI L2.PFi L2.PC
section
variable {P : Program} {w : World} {K : PySem.W.Frag} {mg : Str → Option Value} {base : Heap} {t1 t2 t3 t4 : Tok} {aL aC aN aT : Addr}
namespace g_listed
abbrev st : Stmt := top 43
theorem sc : FnScope ["_law_found", "_law_due_here"] ["_law_found", "_law_due_here"] (defScope st) := ⟨rfl, rfl, rfl, by decide +kernel, rfl, by decide +kernel, by decide +kernel⟩
theorem ok {f : Addr} {fd : FuncData} (F : Fun K "_law_listed" "_law_listed" st f fd) (T : Txt P w K mg t1 t2 t3 t4 aL aC aN aT) : FnOk P w K mg base CX0 1 f fd ["_law_found", "_law_due_here"] (spListed K) := by
  refine F.ok sc (fun vs H Q E h => ?_) (fun cdv A outer s H vs Q E hr h => ?_)
  · obtain ⟨a, b, xs, rfl, _⟩ := h
    rfl
  · obtain ⟨a, b, xs, rfl, ha, hb, ok, k⟩ := h
    refine ⟨_, (pss_one (ps_ret (pe_and (pe_callB (call_isinstK (K := K)) (by rfl) T.isinstance PyProof.Rows.boot_isinstance (pa_cons (pv 0) (pa_cons (pe_bltn (v := .ty "list") rfl T.list PyProof.Rows.boot_list rfl) pa_nil))) (pe_one (pe_cmpR (op_eqD hr.units) (pv 0) (pv 1) (nomark _)))))), ?_⟩
    have sh := (shaped_strs ok).1
    refine ⟨_, rfl, _, _, _, _, rfl, TyOf.lst ha, kit_same _ _, _, rfl, iteT (B := False) ?_⟩
    refine ⟨_, rfl, _, rfl, .list (xs.map .str), .list (xs.map .str), ?_, ?_, sh, sh, ?_⟩
    · exact ⟨a, _, rfl, SqL.of ha, DtAll.strs xs⟩
    · exact ⟨b, _, rfl, SqL.of hb, DtAll.strs xs⟩
    · have e : PyData.eqv (.list (xs.map .str)) (.list (xs.map .str)) = true := by
        show PyData.eqvAll (xs.map .str) (xs.map .str) = true
        rw [eqv_strs]; exact decide_eq_true rfl
      rw [e]
      exact k
end g_listed
namespace g_leaf
abbrev st : Stmt := top 39
theorem sc : FnScope ["_law_cell", "_law_some", "_law_letters", "_law_one", "_law_other", "_law_far", "_law_kin"] ["_law_cell"] (defScope st) := ⟨rfl, rfl, rfl, by decide +kernel, rfl, by decide +kernel, by decide +kernel⟩
theorem ok {f : Addr} {fd : FuncData} (F : Fun K "_law_leaf_by" "_law_leaf_by" st f fd) (T : Txt P w K mg t1 t2 t3 t4 aL aC aN aT) : FnOk P w K mg base CX0 1 f fd ["_law_cell"] (spLeafBy K) := by
  refine F.ok sc (fun vs H Q E h => ?_) (fun cdv A outer s H vs Q E hr h => ?_)
  · obtain ⟨c, rfl, _⟩ := h
    rfl
  · obtain ⟨c, rfl, k⟩ := h
    refine ⟨_, (pss_cons (ps_set (i := 1) sc.nd rfl (Or.inl rfl) pe_str)
      (pss_cons (ps_set (i := 2) sc.nd rfl (Or.inl rfl) pe_str)
      (pss_cons (ps_set (i := 3) sc.nd rfl (Or.inl rfl) (pe_op op_mulS (pe_ix ix_str (pv 1) (pe_op op_mod (pe_op op_fdiv (pv 0) pe_int) pe_int) (fun _ _ => rfl)) (pe_op op_add pe_int (pe_op op_mod (pe_op op_fdiv (pv 0) pe_int) pe_int))))
      (pss_cons (ps_set (i := 4) sc.nd rfl (Or.inl rfl) (pe_ix ix_str (pv 1) (pe_op op_mod (pe_op op_add (pe_op op_fdiv (pv 0) pe_int) pe_int) pe_int) (fun _ _ => rfl)))
      (pss_cons (ps_set (i := 5) sc.nd rfl (Or.inl rfl) (pe_op op_mod (pe_op op_fdiv (pv 0) pe_int) pe_int))
      (pss_cons (ps_set (i := 6) sc.nd rfl (Or.inl rfl) (pe_op op_add_str (pe_ix ix_str (pv 2) (pe_op op_add (pe_op op_mod (pe_op op_fdiv (pv 0) pe_int) pe_int) (pe_op op_mul pe_int (pv 5))) (fun _ _ => rfl)) (pe_ix ix_str (pv 2) (pe_op op_add (pe_op op_mod (pe_op op_fdiv (pv 0) pe_int) pe_int) (pe_op op_mul pe_int (pv 5))) (fun _ _ => rfl))))
      (pss_one (ps_ret (pe_tup (pa_cons pe_str (pa_cons (pe_ix (ix_tup : IxR _ (rIxT K)) (pe_tup (pa_cons (pe_tup (pa_cons (pv 3) pa_nil)) (pa_cons (pe_tup (pa_cons (pv 3) (pa_cons (pv 4) pa_nil))) (pa_cons (pe_tup (pa_cons (pv 4) (pa_cons (pv 3) pa_nil))) (pa_cons (pe_tup pa_nil) (pa_cons (pe_tup (pa_cons (pv 6) pa_nil)) (pa_cons (pe_tup (pa_cons (pv 6) pa_nil)) pa_nil))))))) (pe_op op_mod (pv 0) pe_int) (fun _ _ => rfl)) pa_nil))))))))))), ?_⟩
    have mS : MenuP signB 14 " abcXYZ019.:-~" := ⟨by decide +kernel, by decide +kernel⟩
    have mL : MenuP signB 26 "abcdefghijklmnopqrstuvwxyz" := ⟨by decide +kernel, by decide +kernel⟩
    obtain ⟨d1, e1, s1⟩ := mS.at (i := c / 6 % 14) (by omega) (by omega)
    obtain ⟨d2, e2, s2⟩ := mS.at (i := (c / 6 + 5) % 14) (by omega) (by omega)
    obtain ⟨d3, e3, s3⟩ := mL.at (i := c / 24 % 3 + 3 * (c / 6 % 4)) (by omega) (by omega)
    obtain ⟨d4, e4, s4⟩ := mL.at (i := c / 72 % 3 + 4 * (c / 6 % 4)) (by omega) (by omega)
    refine ⟨_, rfl, _, rfl, _, _, rfl, rfl, ⟨by decide, by decide⟩, _, _, rfl, rfl, (by show (0 : Int) < 14; decide), _, _, d1, rfl, rfl, mS.len (by decide), e1, _, rfl, _, _, rfl, rfl, ⟨by decide, by decide⟩, _, _, rfl, rfl, (by show (0 : Int) < 3; decide), _, _, rfl, rfl, _, _, rfl, rfl, mul3_ok d1 (by omega) (by omega), ?_⟩
    have b1 := mul3_line s1 (n := 1 + c / 84 % 3) (by omega) (by omega)
    show gName 3 (V.str (Txt.mul ⟨#[d1]⟩ (1 + c / 84 % 3))) _ _ _
    generalize Txt.mul ⟨#[d1]⟩ (1 + c / 84 % 3) = x1 at b1
    refine ⟨_, rfl, _, rfl, _, _, rfl, rfl, ⟨by decide, by decide⟩, _, _, rfl, rfl, _, _, rfl, rfl, (by show (0 : Int) < 14; decide), _, _, d2, rfl, rfl, mS.len (by decide), e2, ?_⟩
    have b2 := one_line s2
    show gName 4 (V.str ⟨#[d2]⟩) _ _ _
    generalize (⟨#[d2]⟩ : Str) = x2 at b2
    refine ⟨_, rfl, _, _, rfl, rfl, ⟨by decide, by decide⟩, _, _, rfl, rfl, (by show (0 : Int) < 4; decide), ?_⟩
    refine ⟨_, rfl, _, rfl, _, _, rfl, rfl, ⟨by decide, by decide⟩, _, _, rfl, rfl, (by show (0 : Int) < 3; decide), _, rfl, _, _, rfl, rfl, .inl ⟨by decide, by decide⟩, _, _, rfl, rfl, _, _, d3, rfl, rfl, mL.len (by decide), e3, ?_⟩
    refine ⟨_, rfl, _, rfl, _, _, rfl, rfl, ⟨by decide, by decide⟩, _, _, rfl, rfl, (by show (0 : Int) < 3; decide), _, rfl, _, _, rfl, rfl, .inl ⟨by decide, by decide⟩, _, _, rfl, rfl, _, _, d4, rfl, rfl, mL.len (by decide), e4, _, _, rfl, rfl, lineN 2, ?_⟩
    have b3 := two_line s3 s4
    show gName 6 (V.str ((⟨#[d3]⟩ : Str) ++ ⟨#[d4]⟩)) _ _ _
    generalize (⟨#[d3]⟩ : Str) ++ ⟨#[d4]⟩ = x3 at b3
    refine ⟨_, rfl, lineN 1, fun p1 n1 => ⟨_, rfl, _, rfl, lineN 2, fun p2 n2 => ⟨_, rfl, _, rfl, lineN 2, fun p3 n3 => ⟨lineN 0, fun p4 n4 => ⟨_, rfl, lineN 1, fun p5 n5 => ⟨_, rfl, lineN 1, fun p6 n6 => ⟨lineN 6, fun p7 n7 => ?_⟩⟩⟩⟩⟩⟩⟩
    have u1 := same_upd (o := .tup [V.str x1]) n1
    have u2 := same_upd (o := .tup [V.str x1, V.str x2]) n2
    have u3 := same_upd (o := .tup [V.str x2, V.str x1]) n3
    have u4 := same_upd (o := .tup []) n4
    have u5 := same_upd (o := .tup [V.str x3]) n5
    have u6 := same_upd (o := .tup [V.str x3]) n6
    have u7 := same_upd (o := .tup [V.ref p1, V.ref p2, V.ref p3, V.ref p4, V.ref p5, V.ref p6]) n7
    have w6 := u7
    have w5 := u6.trans w6
    have w4 := u5.trans w5
    have w3 := u4.trans w4
    have w2 := u3.trans w3
    have w1 := u2.trans w2
    have w0 := u1.trans w1
    have q1 := w1 _ _ upd_same
    have q2 := w2 _ _ upd_same
    have q3 := w3 _ _ upd_same
    have q4 := w4 _ _ upd_same
    have q5 := w5 _ _ upd_same
    have q6 := w6 _ _ upd_same
    clear u1 u2 u3 u4 u5 u6 u7 w1 w2 w3 w4 w5 w6
    have q7 : SqT K _ p7 _ := SqT.of (upd_same (H := upd (upd (upd (upd (upd (upd H p1 (.tup [V.str x1])) p2 (.tup [V.str x1, V.str x2])) p3 (.tup [V.str x2, V.str x1])) p4 (.tup [])) p5 (.tup [V.str x3])) p6 (.tup [V.str x3])) (a := p7) (o := .tup [V.ref p1, V.ref p2, V.ref p3, V.ref p4, V.ref p5, V.ref p6]))
    obtain ⟨H7, e7⟩ : ∃ H7, H7 = upd (upd (upd (upd (upd (upd (upd H p1 (.tup [V.str x1])) p2 (.tup [V.str x1, V.str x2])) p3 (.tup [V.str x2, V.str x1])) p4 (.tup [])) p5 (.tup [V.str x3])) p6 (.tup [V.str x3])) p7 (.tup [V.ref p1, V.ref p2, V.ref p3, V.ref p4, V.ref p5, V.ref p6]) := ⟨_, rfl⟩
    rw [← e7] at w0 q1 q2 q3 q4 q5 q6 q7 ⊢
    clear e7
    have pick : ∃ (p : Addr) (ls : List Str), atI [V.ref p1, V.ref p2, V.ref p3, V.ref p4, V.ref p5, V.ref p6] (c % 6) = some (.ref p) ∧ H7 p = some (.tup (ls.map V.str)) ∧ goodLeaf ls := by
      have : c % 6 = 0 ∨ c % 6 = 1 ∨ c % 6 = 2 ∨ c % 6 = 3 ∨ c % 6 = 4 ∨ c % 6 = 5 := by omega
      have g1 : ∀ x, lineB x = true → goodLeaf [x] := fun x hx => ⟨fun l hl => by rw [List.mem_singleton.mp hl]; exact hx, (show 1 ≤ 60 by decide)⟩
      have g2 : ∀ x y, lineB x = true → lineB y = true → goodLeaf [x, y] := fun x y hx hy => ⟨fun l hl => by
        rcases List.mem_cons.mp hl with z | z
        · rw [z]; exact hx
        · rw [List.mem_singleton.mp z]; exact hy, (show 2 ≤ 60 by decide)⟩
      rcases this with z | z | z | z | z | z
      · exact ⟨p1, [x1], by rw [z]; rfl, q1, g1 _ b1⟩
      · exact ⟨p2, [x1, x2], by rw [z]; rfl, q2, g2 _ _ b1 b2⟩
      · exact ⟨p3, [x2, x1], by rw [z]; rfl, q3, g2 _ _ b2 b1⟩
      · exact ⟨p4, [], by rw [z]; rfl, q4, fun l hl => (nomatch hl), (show 0 ≤ 60 by decide)⟩
      · exact ⟨p5, [x3], by rw [z]; rfl, q5, g1 _ b3⟩
      · exact ⟨p6, [x3], by rw [z]; rfl, q6, g1 _ b3⟩
    obtain ⟨p, ls, ep, hp, g⟩ := pick
    refine ⟨_, rfl, _, _, rfl, rfl, (by show (0 : Int) < 6; decide), p7, _, _, _, rfl, rfl, q7, ep, lineN 2, fun p8 n8 => ?_⟩
    have w1 := same_upd (o := .tup [V.str "leaf", V.ref p]) n8
    exact k _ ls _ (w0.trans w1) (leaf_dt (SqT.of upd_same) (SqT.of (w1 _ _ hp))) g
end g_leaf
namespace g_kin
abbrev st : Stmt := top 40
theorem sc : FnScope ["_law_cell", "_law_turn", "_law_some"] ["_law_cell", "_law_turn"] (defScope st) := ⟨rfl, rfl, rfl, by decide +kernel, rfl, by decide +kernel, by decide +kernel⟩
theorem ok {f : Addr} {fd : FuncData} (F : Fun K "_law_kin_by" "_law_kin_by" st f fd) (T : Txt P w K mg t1 t2 t3 t4 aL aC aN aT) : FnOk P w K mg base CX0 1 f fd ["_law_cell", "_law_turn"] (spKinBy K) := by
  refine F.ok sc (fun vs H Q E h => ?_) (fun cdv A outer s H vs Q E hr h => ?_)
  · obtain ⟨c, t, rfl, _⟩ := h
    rfl
  · obtain ⟨c, t, rfl, ht, k⟩ := h
    refine ⟨_, (pss_cons (ps_set (i := 2) sc.nd rfl (Or.inl rfl) pe_str)
      (pss_one (ps_ret (pe_tup (pa_cons pe_str (pa_cons (pe_tup (pa_cons (pe_op op_add_str (pe_ix ix_str (pv 2) (pe_op op_add (pe_op op_mod (pv 0) pe_int) (pe_op op_mul pe_int (pv 1))) (fun _ _ => rfl)) (pe_ix ix_str (pv 2) (pe_op op_add (pe_op op_mod (pe_op op_fdiv (pv 0) pe_int) pe_int) (pe_op op_mul pe_int (pv 1))) (fun _ _ => rfl))) pa_nil)) pa_nil)))))), ?_⟩
    have mS : MenuP signB 89 "&'()*+,-./0123456789:;<=>?@ABCDEFGHIJKLMNOPQRSTUVWXYZ[\\]^_`abcdefghijklmnopqrstuvwxyz{|}~" := ⟨by decide +kernel, by decide +kernel⟩
    obtain ⟨d1, e1, s1⟩ := mS.at (i := c % 40 + 3 * (t : Int)) (by omega) (by omega)
    obtain ⟨d2, e2, s2⟩ := mS.at (i := c / 40 % 40 + 4 * (t : Int)) (by omega) (by omega)
    refine ⟨_, rfl, _, rfl, _, _, rfl, rfl, (by show (0 : Int) < 40; decide), _, rfl, _, _, rfl, rfl, .inl ⟨by decide, by decide⟩, _, _, rfl, rfl, _, _, d1, rfl, rfl, mS.len (by decide), e1, ?_⟩
    refine ⟨_, rfl, _, rfl, _, _, rfl, rfl, ⟨by decide, by decide⟩, _, _, rfl, rfl, (by show (0 : Int) < 40; decide), _, rfl, _, _, rfl, rfl, .inl ⟨by decide, by decide⟩, _, _, rfl, rfl, _, _, d2, rfl, rfl, mS.len (by decide), e2, _, _, rfl, rfl, lineN 2, lineN 1, fun p1 n1 => ⟨lineN 2, fun p2 n2 => ?_⟩⟩
    have w1 := same_upd (o := .tup [V.str "leaf", V.ref p1]) n2
    refine k _ [(⟨#[d1]⟩ : Str) ++ ⟨#[d2]⟩] _ ((same_upd n1).trans w1) (leaf_dt (SqT.of upd_same) (SqT.of (w1 _ _ upd_same))) ⟨fun l hl => ?_, (show 1 ≤ 60 by decide)⟩
    rw [List.mem_singleton.mp hl]
    exact two_line s1 s2
end g_kin
end
end An03

set_option Elab.async false
set_option linter.all false
set_option maxRecDepth 100000
set_option maxHeartbeats 4000000
namespace An03
open PySem L2 An
seal L2.PS L2.PSs L2.PE L2.PT L2.PW L2.PA L2.PG L2.PGs L2.PI L2.PFi L2.PC
def isLeafE (e : En) : Prop := ∃ ls, goodLeaf ls ∧ e.d = (Th.leaf ls).dat
/-- the name that is due -/
def dueIs (S : List En) (ls : List Str) (x : Str) : Prop := (∃ e ∈ S, e.d = (Th.leaf ls).dat ∧ x = e.nm) ∨ ((Th.leaf ls).dat ∉ S.map (·.d) ∧ x = (entL S ls).nm)
def spDue (K : PySem.W.Frag) : Sp := fun vs H Q _ => ∃ (ln lt : Addr) (v : V) (S : List En) (ts : List V) (ls : List Str), vs = [.ref ln, .ref lt, v] ∧ H ln = some (.lst (S.map fun e => V.str e.nm)) ∧ H lt = some (.lst ts) ∧ DtAll K H (S.map (·.d)) ts ∧ GoodS S ∧ (∀ e ∈ S, isLeafE e) ∧ Dt K H (Th.leaf ls).dat v ∧ goodLeaf ls ∧ (nextOf S (headL ls)).getD 0 < 1000000 ∧
  ∀ x H', Same H H' → dueIs S ls x → Q (.str x) H'
theorem leaf_eqv {e : En} {ls : List Str} (he : isLeafE e) (g : goodLeaf ls) : SeqAt.shaped e.d = true ∧ SeqAt.shaped (Th.leaf ls).dat = true ∧ PyData.eqv e.d (Th.leaf ls).dat = decide (e.d = (Th.leaf ls).dat) := by
  obtain ⟨ms, gm, e1⟩ := he
  rw [e1]
  exact ⟨shaped_dat (leaf_good gm), shaped_dat (leaf_good g), eqv_dec _ _ (leaf_key gm).1 (leaf_key g).1⟩
theorem nums_snoc (S : List En) (i : Nat) (e : En) (h : Str) (q : S[i]? = some e) : numsOf (S.take (i + 1)) h = if e.h = h then numsOf (S.take i) h ++ [(e.n : Int)] else numsOf (S.take i) h := by
  unfold numsOf
  rw [List.take_add_one, q, List.filter_append, List.map_append]
  by_cases z : e.h = h
  · rw [if_pos z]
    show _ ++ List.map _ (List.filter _ [e]) = _
    rw [List.filter_cons_of_pos (by exact decide_eq_true z)]
    rfl
  · rw [if_neg z]
    show _ ++ List.map _ (List.filter _ [e]) = _
    rw [List.filter_cons_of_neg (by rw [decide_eq_true_iff]; exact z)]
    simp
theorem nm_len {e : En} (g : GoodE e) : e.nm.length ≤ 2100 := by
  have h1 := g.hl
  have h2 := num_len g.num
  unfold En.nm
  rw [len_append, len_append]
  have : dot.length = 1 := rfl
  omega
section
variable {P : Program} {w : World} {K : PySem.W.Frag} {mg : Str → Option Value} {base : Heap} {t1 t2 t3 t4 : Tok} {aL aC aN aT : Addr}
namespace g_due
abbrev st : Stmt := top 41
theorem sc : FnScope ["_law_names", "_law_things", "_law_thing", "_law_k", "_law_head", "_law_numbers"] ["_law_names", "_law_things", "_law_thing"] (defScope st) := ⟨rfl, rfl, rfl, by decide +kernel, rfl, by decide +kernel, by decide +kernel⟩
theorem ok {f : Addr} {fd : FuncData} (F : Fun K "_law_due" "_law_due" st f fd) (T : Txt P w K mg t1 t2 t3 t4 aL aC aN aT) (C__law_digest : Cal P w K mg base 1 "_law_digest" ["_law_text"] spDg) (C__law_spelled : Cal P w K mg base 1 "_law_spelled" ["_law_thing"] (spSpelled K)) : FnOk P w K mg base CX0 2 f fd ["_law_names", "_law_things", "_law_thing"] (spDue K) := by
  refine F.ok sc (fun vs H Q E h => ?_) (fun cdv A outer s H vs Q E hr h => ?_)
  · obtain ⟨ln, lt, v, S, ts, ls, rfl, _⟩ := h
    rfl
  · obtain ⟨ln, lt, v, S, ts, ls, rfl, hln, hlt, hd, gS, lf, hv, g, hnx, k⟩ := h
    refine ⟨_, (pss_cons (ps_for PassesOwn.never rfl (pi_range1 rfl T.range (pa_cons (pe_callB call_len_seq (by rfl) T.len PySem.boot_len (pa_cons (pv 1) pa_nil)) pa_nil)) (pg_name (i := 3) sc.nd rfl (Or.inl rfl))
        (pss_one (ps_if (pt_cmpR (op_eqD hr.units) (pe_ix (ix_list : IxR _ (rIxL K)) (pv 1) (pv 3) (fun _ _ => rfl)) (pv 2) (nomark _))
          (pss_one (ps_ret (pe_ix (ix_list : IxR _ (rIxL K)) (pv 0) (pv 3) (fun _ _ => rfl))))
          pss_nil)))
      (pss_cons (ps_set (i := 4) sc.nd rfl (Or.inr rfl) (pe_op op_add_str pe_str (pe_callTy call_str_int (by rfl) T.str PyProof.Rows.boot_str (pa_cons (pe_callC C__law_digest (hr.mono (by decide)) (pa_cons (pe_callC C__law_spelled (hr.mono (by decide)) (pa_cons (pv 2) pa_nil)) pa_nil)) pa_nil))))
      (pss_cons (ps_setc (sc := defScope st) (N := ["_law_names", "_law_things", "_law_thing", "_law_k", "_law_head", "_law_numbers"]) (N' := ["_law_name", "_law_head"]) (src := [none, some 4]) ⟨by decide +kernel, rfl, rfl, by decide +kernel, by decide +kernel, by decide +kernel, by decide +kernel⟩ rfl rfl rfl (pi_list (pv 0)) (fun _ _ _ _ => (pg_name (i := 0) (show (["_law_name", "_law_head"] : List Str).Nodup by decide +kernel) rfl (Or.inl rfl))) (fun _ _ _ _ => (pf_one (pt_cmpR op_eq (pe_slice sl_str (pv 0) po_none (po_some (pe_op op_add (pe_callB call_len_str (by rfl) T.len PySem.boot_len (pa_cons (pv 1) pa_nil)) pe_int))) (pe_op op_add_str (pv 1) pe_str) (nomark _)))) (fun _ _ _ _ => (pe_callTy call_intT (by rfl) T.int PyProof.Rows.boot_int (pa_cons (pe_slice sl_str (pv 0) (po_some (pe_op op_add (pe_callB call_len_str (by rfl) T.len PySem.boot_len (pa_cons (pv 1) pa_nil)) pe_int)) po_none) pa_nil))) sc.nd rfl (Or.inl rfl) (k := 5))
      (pss_one (ps_ret (pe_op op_add_str (pe_op op_add_str (pv 4) pe_str) (pe_callTy call_str_int (by rfl) T.str PyProof.Rows.boot_str (pa_cons (pe_op op_add (pe_callB (call_maxL (K := K) rfl) (by rfl) T.max PyProof.Rows.boot_max (pa_cons (pe_op op_cat (pe_lst (pa_cons (pe_un un_neg pe_int) pa_nil)) (pv 5)) pa_nil)) pe_int) pa_nil)))))))), ?_⟩
    have tl : ts.length = S.length := by rw [hd.length, List.length_map]
    have Sl := gS.len
    refine ⟨_, rfl, lt, _, rfl, .inl (SqL.of hlt), _, rfl, by omega, by omega, for_range (lo := 0) (n := ((ts.length : Nat) : Int).toNat) (fun i σ H2 => ∃ o, σ = [some (.ref ln), some (.ref lt), some v, o, none, none] ∧ H2 = H ∧ ∀ e ∈ S.take i, e.d ≠ (Th.leaf ls).dat) ⟨none, rfl, rfl, fun e he => (nomatch (show e ∈ [] from he))⟩ ?_ ?_⟩
    · rintro i σ H2 hi ⟨o, rfl, rfl, hn⟩
      have hi' : i < S.length := by omega
      have q : S[i]? = some S[i] := List.getElem?_eq_getElem hi'
      obtain ⟨e, he⟩ : ∃ e, e = S[i] := ⟨_, rfl⟩
      rw [← he] at q
      have hit : i < ts.length := by omega
      have qt : ts[i]? = some ts[i] := List.getElem?_eq_getElem hit
      obtain ⟨d, e1, e2⟩ := hd.get qt
      rw [List.getElem?_map, q] at e1
      have e1 : e.d = d := Option.some.inj e1
      subst e1
      have hm := List.mem_of_getElem? q
      obtain ⟨s1, s2, ev⟩ := leaf_eqv (lf e hm) g
      refine ⟨_, rfl, _, rfl, lt, _, _, _, rfl, rfl, SqL.of hlt, atI_of (n := i) (by omega) qt, _, rfl, e.d, (Th.leaf ls).dat, e2, hv, s1, s2, _, rfl, ?_⟩
      rw [ev]
      refine ite2 (fun z => ?_) (fun z => ?_)
      · have z : e.d = (Th.leaf ls).dat := of_decide_eq_true z
        exact ⟨_, rfl, _, rfl, ln, _, _, _, rfl, rfl, SqL.of hln, atI_of (n := i) (by omega) (by rw [List.getElem?_map, q]; rfl), k _ _ (Same.refl _) (.inl ⟨e, hm, z, rfl⟩)⟩
      · have z : e.d ≠ (Th.leaf ls).dat := of_decide_eq_false (by simpa using z)
        refine ⟨_, rfl, rfl, ?_⟩
        rw [List.take_add_one, q]
        exact mem_snoc hn z
    · rintro σ H2 ⟨o, rfl, rfl, hn⟩
      have hnd : (Th.leaf ls).dat ∉ S.map (·.d) := fun z => by
        obtain ⟨e, he, q⟩ := List.mem_map.mp z
        refine hn e ?_ q
        rw [List.take_of_length_le (by omega)]
        exact he
      have db := dg_bound (Th.leaf ls).sp
      refine ⟨_, rfl, v, .leaf ls, rfl, hv, leaf_good g, fun H1 u1 => ⟨_, rfl, _, rfl, ?_, _, _, rfl, rfl, ?_, ?_⟩⟩
      · have hz : (dg (Th.leaf ls).sp).natAbs < 97 := by omega
        rcases Nat.eq_zero_or_pos (dg (Th.leaf ls).sp).natAbs with z | z
        · rw [z]; decide
        · have : (dg (Th.leaf ls).sp).natAbs.log2 < 7 := (Nat.log2_lt (by omega)).mpr (by omega)
          omega
      · rw [num_dg]
        have h1 := num_len2 (n := (dg (Th.leaf ls).sp).toNat) (by omega)
        have h2 : ("L" : Str).length = 1 := by decide +kernel
        exact le_line (by omega)
      rw [num_dg]
      show gName 4 (V.str (headL ls)) _ H1 _
      have hln1 := u1 _ _ hln
      have hl := head_len ls
      have hf := head_free ls
      have dl : ("." : Str).length = 1 := by decide +kernel
      refine ⟨_, rfl, ln, rfl, ⟨_, SqL.of hln1⟩, comp_list (K := K) (a := ln) (xs := S.map fun e => V.str e.nm) (fun i ys σ H2 => ∃ x, σ = [x, some (.str (headL ls))] ∧ H2 = H1 ∧ ys = (numsOf (S.take i) (headL ls)).map V.int) ⟨none, rfl, rfl, rfl⟩ (le_line (by rw [List.length_map]; omega)) (fun i ys σ H2 hi ⟨x, _, e, ey⟩ => ⟨by rw [e]; exact SqL.of hln1, ?_⟩) ?_ ?_⟩
      · rw [ey, List.length_map]
        unfold numsOf
        rw [List.length_map]
        exact Nat.le_trans (List.length_filter_le _ _) (by rw [List.length_take]; omega)
      · rintro i x ys σ H2 hx ⟨x0, rfl, rfl, rfl⟩
        rw [List.getElem?_map] at hx
        cases q : S[i]? with
        | none => rw [q] at hx; cases hx
        | some e =>
          rw [q] at hx
          have hx : V.str e.nm = x := Option.some.inj hx
          subst hx
          have ge := gS.ent e (List.mem_of_getElem? q)
          have nl := nm_len ge
          refine ⟨_, rfl, _, rfl, headL ls, rfl, le_line (by omega), _, _, rfl, rfl, _, rfl, e.nm, rfl, le_line (by omega), _, rfl, _, _, rfl, rfl, le_line (by omega), rfl, decide (e.h = headL ls), ?_, ?_⟩
          · refine congrArg V.bl ?_
            rw [Bool.eq_iff_iff, decide_eq_true_iff, decide_eq_true_iff]
            exact ⟨fun z => (nm_has ge.free hf).mp (V.str.inj z), fun z => congrArg V.str ((nm_has ge.free hf).mpr z)⟩
          · have ns := nums_snoc S i e (headL ls) q
            refine ite2 (fun z => ?_) (fun z => ?_)
            · have z : e.h = headL ls := of_decide_eq_true z
              rw [if_pos z] at ns
              refine ⟨_, rfl, _, rfl, headL ls, rfl, le_line (by omega), _, _, rfl, rfl, _, rfl, e.nm, rfl, le_line (by omega), e.n, ?_, by have := ge.num; omega, _, rfl, rfl, ?_⟩
              · rw [← z, nm_num]
              · rw [ns, List.map_append]; rfl
            · have z : ¬ e.h = headL ls := of_decide_eq_false (by simpa using z)
              rw [if_neg z] at ns
              exact ⟨_, rfl, rfl, by rw [ns]⟩
      · rintro ys σ H2 ⟨x0, rfl, rfl, rfl⟩ p np
        rw [List.length_map, List.take_length]
        have nl : (numsOf S (headL ls)).length ≤ 1000 := by
          unfold numsOf
          rw [List.length_map]
          exact Nat.le_trans (List.length_filter_le _ _) Sl
        refine ⟨_, rfl, _, _, rfl, rfl, le_line (by omega), _, rfl, lineN 1, fun p2 n2 => ⟨_, rfl, p2, p, _, (numsOf S (headL ls)).map V.int, rfl, rfl, upd_same, ?_, ?_, fun p3 n3 => ?_⟩⟩
        · rw [upd_ne (ne_of_none upd_same n2)]; exact upd_same
        · rw [List.length_map]; exact le_line (by simp only [List.length_cons, List.length_nil]; omega)
        refine ⟨p3, -1 :: numsOf S (headL ls), rfl, SqL.of upd_same, by simp, fun M h1 h2 => ?_⟩
        have hM := max_next h1 h2
        refine ⟨_, _, rfl, rfl, _, rfl, ?_, _, _, rfl, rfl, ?_, ?_⟩
        · rw [hM, Int.natAbs_natCast]
          rcases Nat.eq_zero_or_pos ((nextOf S (headL ls)).getD 0) with z | z
          · rw [z]; decide
          · have : ((nextOf S (headL ls)).getD 0).log2 < 20 := (Nat.log2_lt (by omega)).mpr (by omega)
            omega
        · rw [hM]
          have : (numT ((nextOf S (headL ls)).getD 0)).length ≤ 1921 := num_len hnx
          show _ + (numT ((nextOf S (headL ls)).getD 0)).length ≤ _
          rw [len_append, dl]
          exact le_line (by omega)
        · rw [hM]
          refine k _ _ (((u1.trans (same_upd np)).trans (same_upd n2)).trans (same_upd n3)) (.inr ⟨hnd, ?_⟩)
          show headL ls ++ "." ++ numT ((nextOf S (headL ls)).getD 0) = _
          unfold En.nm entL
          rw [dot_is]
end g_due
end
end An03

set_option Elab.async false
set_option linter.all false
set_option maxRecDepth 100000
set_option maxHeartbeats 4000000
/-! a dict in a tuple of tuples: it is not; is, is not of truth values -/
namespace PySem.SeqAt
open MeetsSeq PyProof.Rows
section
variable {A : Around} {s : Shared}
end
end PySem.SeqAt
namespace L2
open PySem PySem.Spec PyProof.Rows
section
variable {X : Cx} {K : PySem.W.Frag}
theorem op_isB : OpR X (compareOp .Is) (fun x y H Q => ∃ a b, x = .bl a ∧ y = .bl b ∧ Q (.bl (a == b)) H) := by
  intro pins s σ H x y v u Q I rx ry h
  obtain ⟨a, b, rfl, rfl, q⟩ := h
  cases rx; cases ry
  exact is_bool ⟨.bl _, H, I, rfl, q⟩
end
end L2

set_option Elab.async false
set_option linter.all false
set_option maxRecDepth 100000
set_option maxHeartbeats 4000000
namespace An03
open PySem L2 An
seal L2.PS L2.PSs L2.PE L2.PT L2.PW L2.PA L2.PG L2.PGs L2.PI L2.PFi L2.PC
/-- a shelf and the law's table of it -/
structure Unit (P : Program) (w : World) (K : PySem.W.Frag) (C : Addr) (H : Hp) (a : Addr) (fp : List Addr) (ln lt : Addr) (S : List En) : Prop where
  sh : ShAt P w K C H a fp S
  hn : H ln = some (.lst (S.map fun e => V.str e.nm))
  ht : ∃ ts, H lt = some (.lst ts) ∧ DtAll K H (S.map (·.d)) ts
  ne : ln ≠ lt
  lf : ∀ e ∈ S, isLeafE e
  nn : ∀ e ∈ S, e.n < S.length
  ok : ∀ e ∈ S, PyData.strOk e.nm = true
theorem Unit.nfp {P : Program} {w : World} {K : PySem.W.Frag} {C : Addr} {H : Hp} {a : Addr} {fp : List Addr} {ln lt : Addr} {S : List En} (u : Unit P w K C H a fp ln lt S) : ln ∉ fp ∧ lt ∉ fp := by
  refine ⟨fun z => ?_, fun z => ?_⟩
  · obtain ⟨o, eo, _, n, _⟩ := u.sh.noseq _ z
    rw [u.hn] at eo
    exact n _ (Option.some.inj eo).symm
  · obtain ⟨o, eo, _, n, _⟩ := u.sh.noseq _ z
    obtain ⟨ts, e, _⟩ := u.ht
    rw [e] at eo
    exact n _ (Option.some.inj eo).symm
theorem Unit.notup {P : Program} {w : World} {K : PySem.W.Frag} {C : Addr} {H : Hp} {a : Addr} {fp : List Addr} {ln lt : Addr} {S : List En} (u : Unit P w K C H a fp ln lt S) : ∀ b ∈ ln :: lt :: fp, ∀ xs, ¬ Rd H b (.tup xs) := fun b hb xs zz => by
  rcases List.mem_cons.mp hb with q | q
  · subst q
    exact rd_noseq u.hn (fun _ z => (nomatch z)) (fun _ _ z => (nomatch z)) xs zz
  · rcases List.mem_cons.mp q with q | q
    · subst q
      obtain ⟨ts, e, _⟩ := u.ht
      exact rd_noseq e (fun _ z => (nomatch z)) (fun _ _ z => (nomatch z)) xs zz
    · exact u.sh.noseq.tup b q xs zz
theorem txts_of : ∀ {S : List En}, GoodS S → txtAll (S.map (·.d)) = true := by
  have : ∀ S : List En, (∀ e ∈ S, GoodE e) → txtAll (S.map (·.d)) = true := by
    intro S
    induction S with
    | nil => intro _; rfl
    | cons e S ih =>
      intro h
      show (txtT e.d && txtAll (S.map (·.d))) = true
      rw [(h e List.mem_cons_self).key.1, ih fun x hx => h x (List.mem_cons_of_mem _ hx)]; rfl
  intro S g
  exact this S g.ent
theorem any_strs (xs : List Str) (x : Str) : (xs.map PyData.str).any (fun y => PyData.eqv y (.str x)) = decide (x ∈ xs) := by
  induction xs with
  | nil => rfl
  | cons y xs ih =>
    show ((y == x) || (xs.map PyData.str).any (fun y => PyData.eqv y (.str x))) = _
    rw [ih, Bool.eq_iff_iff, Bool.or_eq_true, decide_eq_true_iff, decide_eq_true_iff, List.mem_cons, beq_iff_eq]
    exact ⟨fun h => h.elim (fun z => .inl z.symm) .inr, fun h => h.elim (fun z => .inl z.symm) .inr⟩
def PutRes (P : Program) (w : World) (K : PySem.W.Frag) (C : Addr) (H : Hp) (a : Addr) (fp : List Addr) (S : List En) (ls : List Str) (H2 : Hp) (S' : List En) (e : En) : Prop :=
  Off fp H H2 ∧ ShAt P w K C H2 a fp S' ∧ e ∈ S' ∧ e.d = (Th.leaf ls).dat ∧ (S' = S ∨ (S' = S ++ [e] ∧ e = entL S ls ∧ (Th.leaf ls).dat ∉ S.map (·.d)))
theorem put_of {P : Program} {w : World} {K : PySem.W.Frag} {C : Addr} {H : Hp} {a : Addr} {fp : List Addr} {S : List En} {ls : List Str} {v : V} {Q : VK} {E : XK} (sh : ShAt P w K C H a fp S) (hd : Dt K H (Th.leaf ls).dat v) (g : goodLeaf ls) (hl : S.length < 1000) (hn : (nextOf S (headL ls)).getD 0 < 1000000)
    (h : ∀ H2 S' e, PutRes P w K C H a fp S ls H2 S' e → Q (.str e.nm) H2) : spPut P w K C [.ref a, v] H Q E :=
  ⟨a, fp, S, v, ls, rfl, sh, hd, g, hl, hn, fun e he ed H2 s => h H2 S e ⟨Off.of s, sh.same s, he, ed, .inl rfl⟩, fun hnd H2 o sh2 => h H2 _ _ ⟨o, sh2, by simp, rfl, .inr ⟨rfl, rfl, hnd⟩⟩⟩
theorem nd_inj {S : List En} (nd : (S.map (·.d)).Nodup) {e f : En} (he : e ∈ S) (hf : f ∈ S) (h : e.d = f.d) : e = f := by
  induction S with
  | nil => cases he
  | cons x S ih =>
    rw [List.map_cons, List.nodup_cons] at nd
    rcases List.mem_cons.mp he with e1 | he2
    · rcases List.mem_cons.mp hf with e2 | hf2
      · rw [e1, e2]
      · exact absurd (List.mem_map.mpr ⟨f, hf2, by rw [← e1]; exact h.symm⟩) nd.1
    · rcases List.mem_cons.mp hf with e2 | hf2
      · exact absurd (List.mem_map.mpr ⟨e, he2, by rw [← e2]; exact h⟩) nd.1
      · exact ih nd.2 he2 hf2
theorem due_eq {P : Program} {w : World} {K : PySem.W.Frag} {C : Addr} {H : Hp} {a : Addr} {fp : List Addr} {S : List En} {ls : List Str} {H2 : Hp} {S' : List En} {e : En} {x : Str} (g : GoodS S) (r : PutRes P w K C H a fp S ls H2 S' e) (d : dueIs S ls x) : x = e.nm := by
  obtain ⟨_, _, he, ed, r⟩ := r
  rcases r with rfl | ⟨rfl, rfl, hnd⟩
  · rcases d with ⟨f, hf, fd, rfl⟩ | ⟨z, _⟩
    · rw [nd_inj g.nd hf he (fd.trans ed.symm)]
    · exact absurd (List.mem_map.mpr ⟨e, he, ed⟩) z
  · rcases d with ⟨f, hf, fd, rfl⟩ | ⟨_, z⟩
    · exact absurd (List.mem_map.mpr ⟨f, hf, fd⟩) hnd
    · exact z
theorem res_in {P : Program} {w : World} {K : PySem.W.Frag} {C : Addr} {H : Hp} {a : Addr} {fp : List Addr} {S : List En} {ls : List Str} {H2 : Hp} {S' : List En} {e : En} (g : GoodS S) (r : PutRes P w K C H a fp S ls H2 S' e) : (e.nm ∈ S.map En.nm ∧ S' = S) ∨ (e.nm ∉ S.map En.nm ∧ S' = S ++ [e] ∧ e = entL S ls) := by
  obtain ⟨_, _, he, ed, r⟩ := r
  rcases r with rfl | ⟨rfl, rfl, hnd⟩
  · exact .inl ⟨List.mem_map.mpr ⟨e, he, rfl⟩, rfl⟩
  · exact .inr ⟨new_nm g (head_free ls), rfl, rfl⟩
def spPutL (P : Program) (w : World) (K : PySem.W.Frag) (C : Addr) : Sp := fun vs H Q _ => ∃ (a ln lt : Addr) (fp : List Addr) (S : List En) (v : V) (ls : List Str), vs = [.ref a, .ref ln, .ref lt, v] ∧ Unit P w K C H a fp ln lt S ∧ Dt K H (Th.leaf ls).dat v ∧ goodLeaf ls ∧ S.length < 900 ∧
  ∀ H' S', Off (ln :: lt :: fp) H H' → Unit P w K C H' a fp ln lt S' → S'.length ≤ S.length + 1 → 0 < S'.length → Q (.bl true) H'
section
variable {P : Program} {w : World} {K : PySem.W.Frag} {mg : Str → Option Value} {base : Heap} {t1 t2 t3 t4 : Tok} {aL aC aN aT : Addr}
theorem Unit.same {C : Addr} {H H' : Hp} {a : Addr} {fp : List Addr} {ln lt : Addr} {S : List En} (u : Unit P w K C H a fp ln lt S) (s : Same H H') : Unit P w K C H' a fp ln lt S := by
  obtain ⟨ts, e, d⟩ := u.ht
  exact ⟨u.sh.same s, s _ _ u.hn, ⟨ts, s _ _ e, DtAll.same s _ _ d⟩, u.ne, u.lf, u.nn, u.ok⟩
namespace g_put
abbrev st : Stmt := top 42
theorem sc : FnScope ["_law_shelf", "_law_names", "_law_things", "_law_thing", "_law_due_here", "_law_had", "_law_found"] ["_law_shelf", "_law_names", "_law_things", "_law_thing"] (defScope st) := ⟨rfl, rfl, rfl, by decide +kernel, rfl, by decide +kernel, by decide +kernel⟩
theorem ok {f : Addr} {fd : FuncData} (F : Fun K "_law_put" "_law_put" st f fd) (T : Txt P w K mg t1 t2 t3 t4 aL aC aN aT) (C__law_due : Cal P w K mg base 2 "_law_due" ["_law_names", "_law_things", "_law_thing"] (spDue K)) (M_has : Met P w K mg base aC 2 "has" ["self", "name"] (spHas P w K aC)) (M_put : Met P w K mg base aC 7 "put" ["self", "thing"] (spPut P w K aC))
    (M_thing : Met P w K mg base aC 4 "thing" ["self", "name"] (spThing P w K aC)) : FnOk P w K mg base CX0 8 f fd ["_law_shelf", "_law_names", "_law_things", "_law_thing"] (spPutL P w K aC) := by
  refine F.ok sc (fun vs H Q E h => ?_) (fun cdv A outer s H vs Q E hr h => ?_)
  · obtain ⟨a, ln, lt, fp, S, v, ls, rfl, _⟩ := h
    rfl
  · obtain ⟨a, ln, lt, fp, S, v, ls, rfl, u, hv, g, hl, k⟩ := h
    refine ⟨_, (pss_cons (ps_set (i := 4) sc.nd rfl (Or.inl rfl) (pe_callC C__law_due (hr.mono (by decide)) (pa_cons (pv 1) (pa_cons (pv 2) (pa_cons (pv 3) pa_nil)))))
      (pss_cons (ps_set (i := 5) sc.nd rfl (Or.inl rfl) (pe_metC (pv 0) T.cls M_has (hr.mono (by decide)) (pa_cons (pv 4) pa_nil)))
      (pss_cons (ps_set (i := 6) sc.nd rfl (Or.inl rfl) (pe_metC (pv 0) T.cls M_put (hr.mono (by decide)) (pa_cons (pv 3) pa_nil)))
      (pss_cons (ps_if (PW.pt (pw_or (pt_not (pt_truthK (K := K) (pe_callB (call_isinstK (K := K)) (by rfl) T.isinstance PyProof.Rows.boot_isinstance (pa_cons (pv 5) (pa_cons (pe_bltn (v := .ty "bool") rfl T.bool PyProof.Rows.boot_bool rfl) pa_nil))) (fun _ => rfl))) (pw_or (pt_cmpR op_ne (pv 5) (pe_cmpR (op_inD (K := K) hr.units) (pv 4) (pv 1) (by with_unfolding_all rfl)) (nomark _)) (pw_or (pt_not (pt_truthK (K := K) (pe_callB (call_isinstK (K := K)) (by rfl) T.isinstance PyProof.Rows.boot_isinstance (pa_cons (pv 6) (pa_cons (pe_bltn (v := .ty "str") rfl T.str PyProof.Rows.boot_str rfl) pa_nil))) (fun _ => rfl))) (pw_or1 (pt_cmpR op_ne (pv 6) (pv 4) (nomark _)))))))
        (pss_one (ps_ret pe_bl))
        pss_nil)
      (pss_cut (ps_if (pt_cmpR (op_ninD (K := K) hr.units) (pv 4) (pv 1) (by with_unfolding_all rfl))
        (pss_cons (ps_expr (pe_bm PySem.F.plainAttrs_list PySem.F.slot_list_append PySem.F.type_list_append mt_append (pv 1) (pa_cons (pv 4) pa_nil)))
        (pss_one (ps_expr (pe_bm PySem.F.plainAttrs_list PySem.F.slot_list_append PySem.F.type_list_append mt_append (pv 2) (pa_cons (pv 3) pa_nil)))))
        pss_nil)
      (pss_one (ps_ret (pe_and (pe_cmpR op_isB (pe_metC (pv 0) T.cls M_has (hr.mono (by decide)) (pa_cons (pv 4) pa_nil)) pe_bl (nomark _)) (pe_one (pe_cmpR (op_eqD hr.units) (pe_metC (pv 0) T.cls M_thing (hr.mono (by decide)) (pa_cons (pv 4) pa_nil)) (pv 3) (nomark _))))))))))), ?_⟩
    obtain ⟨ts, ht, hd⟩ := u.ht
    have gS := u.sh.good
    have hnx : (nextOf S (headL ls)).getD 0 < 1000000 := Nat.lt_of_le_of_lt (next_le u.nn _) (by omega)
    obtain ⟨nfn, nft⟩ := u.nfp
    refine ⟨_, rfl, _, rfl, _, rfl, ln, lt, v, S, ts, ls, rfl, u.hn, ht, hd, gS, u.lf, hv, g, hnx, fun x H1 s1 due => ?_⟩
    have u1 := u.same s1
    have hv1 := Dt.same s1 _ _ hv
    have at1 : ∃ dx fs, H1 a = some (.ins aC dx fs) ∧ fs.lookup ("has" : Str) = none ∧ fs.lookup ("put" : Str) = none ∧ fs.lookup ("thing" : Str) = none := by
      obtain ⟨_, dx, d1, d2, d3, _, _, _, _, h1, _⟩ := u1.sh
      exact ⟨dx, _, h1, rfl, rfl, rfl⟩
    obtain ⟨dx, fs, h1, l1, l2, _⟩ := at1
    refine ⟨_, rfl, a, dx, fs, rfl, h1, l1, _, rfl, a, fp, S, x, rfl, u1.sh, ?_⟩
    refine ⟨_, rfl, a, dx, fs, rfl, h1, l2, _, rfl, ?_⟩
    dsimp only [tNil]
    refine put_of u1.sh hv1 g (by omega) hnx (fun H2 S' e r => ?_)
    have ex := due_eq gS r due
    subst ex
    have ri := res_in gS r
    obtain ⟨o2, sh2, he, ed, _⟩ := id r
    have hn2 := o2 _ _ nfn u1.hn
    have ht2 := o2 _ _ nft (s1 _ _ ht)
    have hd2 : DtAll K H2 (S.map (·.d)) ts := DtAll.off u1.sh.noseq.tup o2 _ _ (txts_of gS) (DtAll.same s1 _ _ hd)
    have lays := lay_strs (S.map En.nm) (fun p hp => by obtain ⟨f, hf, rfl⟩ := List.mem_map.mp hp; exact u.ok f hf)
    have enok : PyData.strOk e.nm = true := by
      rcases ri with ⟨z, _⟩ | ⟨_, _, z⟩
      · obtain ⟨f, hf, q⟩ := List.mem_map.mp z
        rw [← q]; exact u.ok f hf
      · rw [z]; exact ent_ok S ls
    have inL : ∀ {H : Hp}, H ln = some (.lst (S.map fun e => V.str e.nm)) → Dt K H (.list ((S.map En.nm).map .str)) (.ref ln) := fun z => ⟨ln, _, rfl, SqL.of (by rw [z, List.map_map]; rfl), DtAll.strs (S.map En.nm)⟩
    refine ⟨_, rfl, _, _, _, _, rfl, .bl _, kit_same _ _, _, rfl, iteF (A := False) ?_⟩
    refine ⟨_, rfl, _, rfl, _, rfl, .str e.nm, _, rfl, inL hn2, lays.1, enok, (show 0 ≤ 60 by decide), rfl, false, ?_, iteF (A := False) ?_⟩
    · refine congrArg V.bl ?_
      rw [any_strs]
      cases decide (e.nm ∈ S.map En.nm) <;> rfl
    refine ⟨_, rfl, _, _, _, _, rfl, .str _, kit_same _ _, _, rfl, iteF (A := False) ?_⟩
    refine ⟨_, rfl, _, rfl, rfl, false, congrArg V.bl (by rw [decide_eq_true rfl]; rfl), iteF (A := False) ?_⟩
    refine ⟨fun σ' H' => ∃ x3, σ' = [some (.ref a), some (.ref ln), some (.ref lt), some v, some (.str e.nm), x3, some (.str e.nm)] ∧ Off (ln :: lt :: fp) H H' ∧ Unit P w K aC H' a fp ln lt S', ?_, ?_⟩
    · refine ⟨_, rfl, _, rfl, .str e.nm, _, rfl, inL hn2, lays.1, enok, (show 0 ≤ 60 by decide), !decide (e.nm ∈ S.map En.nm), congrArg V.bl (by rw [any_strs]; cases decide (e.nm ∈ S.map En.nm) <;> rfl), ?_⟩
      have of2 : Off (ln :: lt :: fp) H H2 := (Off.of s1).trans (o2.mono fun b hb => List.mem_cons_of_mem _ (List.mem_cons_of_mem _ hb))
      rcases ri with ⟨z, e1⟩ | ⟨z, e1, e2⟩
      · rw [decide_eq_true z]
        subst e1
        exact iteF (A := False) ⟨_, rfl, of2, sh2, hn2, ⟨ts, ht2, hd2⟩, u.ne, u.lf, u.nn, u.ok⟩
      · rw [decide_eq_false z]
        have ne := u.ne
        have tl : ts.length = S.length := by rw [hd.length, List.length_map]
        have ht3 : upd H2 ln (.lst (S.map (fun e => V.str e.nm) ++ [V.str e.nm])) lt = some (.lst ts) := by rw [upd_ne (Ne.symm ne)]; exact ht2
        refine iteT (B := False) ⟨_, rfl, .inl ⟨rfl, _, SqL.of hn2⟩, _, rfl, ln, _, _, rfl, rfl, hn2, lt_line (by rw [List.length_map]; omega), _, rfl, .inl ⟨rfl, _, SqL.of ht3⟩, _, rfl, lt, _, _, rfl, rfl, ht3, lt_line (by omega), _, rfl, ?_, ?_⟩
        · exact (of2.upd List.mem_cons_self).upd (List.mem_cons_of_mem _ List.mem_cons_self)
        · have o3 : Off [ln, lt] H2 (upd (upd H2 ln (.lst (S.map (fun e => V.str e.nm) ++ [V.str e.nm]))) lt (.lst (ts ++ [v]))) := ((Off.refl _ _).upd (by simp)).upd (by simp)
          have n3 : ∀ b ∈ [ln, lt], ∀ xs, ¬ Rd H2 b (.tup xs) := fun b hb xs zz => by
            rcases List.mem_cons.mp hb with q | q
            · subst q
              exact rd_noseq hn2 (fun _ z => (nomatch z)) (fun _ _ z => (nomatch z)) xs zz
            · rw [List.mem_singleton.mp q] at zz
              exact rd_noseq ht2 (fun _ z => (nomatch z)) (fun _ _ z => (nomatch z)) xs zz
          have hv2 : Dt K H2 (Th.leaf ls).dat v := Dt.off u1.sh.noseq.tup o2 _ _ (leaf_key g).1 hv1
          refine ⟨sh2.off n3 o3 (fun b hb q => ?_), ?_, ⟨ts ++ [v], upd_same, ?_⟩, ne, ?_, ?_, ?_⟩
          · rcases List.mem_cons.mp q with q | q
            · exact nfn (by rw [← q]; exact hb)
            · exact nft (by rw [← List.mem_singleton.mp q]; exact hb)
          · rw [upd_ne ne, upd_same, e1, List.map_append]; rfl
          · rw [e1, List.map_append]
            refine DtAll.append (DtAll.off n3 o3 _ _ (txts_of gS) hd2) ⟨v, [], rfl, ?_, rfl⟩
            show Dt K _ e.d v
            rw [ed]
            exact Dt.off n3 o3 _ _ (leaf_key g).1 hv2
          · rw [e1]; exact mem_snoc u.lf ⟨ls, g, ed⟩
          · rw [e1, List.length_append, List.length_singleton]
            refine mem_snoc (fun f hf => by have := u.nn f hf; omega) ?_
            have := next_le u.nn (headL ls)
            rw [e2]
            show (nextOf S (headL ls)).getD 0 < _
            omega
          · rw [e1]; exact mem_snoc u.ok enok
    · rintro σ' H3 ⟨x3, rfl, o3, u3⟩
      have at3 : ∃ dx fs, H3 a = some (.ins aC dx fs) ∧ fs.lookup ("has" : Str) = none ∧ fs.lookup ("thing" : Str) = none := by
        obtain ⟨_, dx, d1, d2, d3, _, _, _, _, h1, _⟩ := u3.sh
        exact ⟨dx, _, h1, rfl, rfl⟩
      obtain ⟨dx3, fs3, h13, l3, l4⟩ := at3
      have hv3 : Dt K H3 (Th.leaf ls).dat v := Dt.off u.notup o3 _ _ (leaf_key g).1 hv
      obtain ⟨s1, s2, ev⟩ := leaf_eqv (u3.lf e he) g
      have kk : Q (.bl true) H3 := k H3 S' o3 u3 (by
        rcases ri with ⟨z, e1⟩ | ⟨z, e1, e2⟩
        · rw [e1]; omega
        · rw [e1, List.length_append, List.length_singleton]; exact Nat.le_refl _) (List.length_pos_of_mem he)
      refine ⟨_, rfl, a, dx3, fs3, rfl, h13, l3, _, rfl, a, fp, S', e.nm, rfl, u3.sh, _, _, rfl, rfl, true, ?_, iteT (B := False) ?_⟩
      · rw [decide_eq_true (List.mem_map.mpr ⟨e, he, rfl⟩)]; rfl
      refine ⟨_, rfl, a, dx3, fs3, rfl, h13, l4, _, rfl, a, fp, S', e, rfl, u3.sh, he, fun t ht' => ⟨_, rfl, e.d, (Th.leaf ls).dat, ht', hv3, s1, s2, ?_⟩⟩
      rw [ev, decide_eq_true ed]
      exact kk
end g_put
end
end An03

set_option Elab.async false
set_option linter.all false
set_option maxRecDepth 100000
set_option maxHeartbeats 4000000
namespace An03
open PySem L2 An
/-! ### what exists -/
def Ex (H : Hp) (X : List Addr) : Prop := ∀ c ∈ X, ∃ o, H c = some o
theorem Ex.same {H H' : Hp} {X : List Addr} (h : Ex H X) (s : Same H H') : Ex H' X := fun c hc => by
  obtain ⟨o, e⟩ := h c hc
  exact ⟨o, s c o e⟩
theorem Ex.not {H : Hp} {X : List Addr} {c : Addr} (h : Ex H X) (n : H c = none) : c ∉ X := fun z => by
  obtain ⟨o, e⟩ := h c z
  rw [n] at e; cases e
theorem Ex.upd {H : Hp} {X : List Addr} {c : Addr} {o : HO} (h : Ex H X) : Ex (L2.upd H c o) X := fun d hd => by
  by_cases q : d = c
  · exact ⟨o, by rw [q]; exact upd_same⟩
  · obtain ⟨u, e⟩ := h d hd
    exact ⟨u, by rw [upd_ne q]; exact e⟩
theorem Ex.cons {H : Hp} {X : List Addr} {c : Addr} {o : HO} (h : Ex H X) : Ex (L2.upd H c o) (c :: X) := fun d hd => by
  rcases List.mem_cons.mp hd with rfl | hd
  · exact ⟨o, upd_same⟩
  · exact h.upd d hd
/-- a list of places, none twice, all of which exist -/
def NdEx (H : Hp) (X : List Addr) : Prop := X.Nodup ∧ Ex H X
theorem NdEx.new {H : Hp} {X : List Addr} {c : Addr} {o : HO} (h : NdEx H X) (n : H c = none) : NdEx (L2.upd H c o) (c :: X) := ⟨List.nodup_cons.mpr ⟨h.2.not n, h.1⟩, h.2.cons⟩
theorem NdEx.app {H H' : Hp} {X fp : List Addr} (h : NdEx H X) (nd : fp.Nodup) (n : ∀ c ∈ fp, H c = none) (s : Same H H') (e : Ex H' fp) : NdEx H' (fp ++ X) := by
  refine ⟨List.nodup_append.mpr ⟨nd, h.1, fun a ha b hb q => ?_⟩, fun c hc => ?_⟩
  · subst q
    exact h.2.not (n a ha) hb
  · rcases List.mem_append.mp hc with z | z
    · exact e c z
    · exact h.2.same s c z
theorem NdEx.count {H : Hp} {X : List Addr} (h : NdEx H X) (c : Addr) : X.count c ≤ 1 := List.nodup_iff_count.mp h.1 c
/-! ### shelves with their lists -/
structure Blk where
  a : Addr
  fp : List Addr
  ln : Addr
  lt : Addr
def Blk.all (b : Blk) : List Addr := b.ln :: b.lt :: b.fp
def UB (P : Program) (w : World) (K : PySem.W.Frag) (C : Addr) (H : Hp) (b : Blk) (S : List En) : Prop := Unit P w K C H b.a b.fp b.ln b.lt S
section
variable {P : Program} {w : World} {K : PySem.W.Frag} {C : Addr} {H H' H0 : Hp} {b : Blk} {S : List En}
theorem ShAt.ex {a : Addr} {fp : List Addr} (h : ShAt P w K C H a fp S) : Ex H fp := fun c hc => by
  obtain ⟨o, e, _⟩ := h.noseq c hc
  exact ⟨o, e⟩
theorem ShAt.nodup {a : Addr} {fp : List Addr} (h : ShAt P w K C H a fp S) : fp.Nodup := by
  obtain ⟨_, _, _, _, _, _, _, _, nd, _⟩ := h
  exact nd
theorem UB.ex (u : UB P w K C H b S) : Ex H b.all := fun c hc => by
  rcases List.mem_cons.mp hc with rfl | hc
  · exact ⟨_, u.hn⟩
  · rcases List.mem_cons.mp hc with rfl | hc
    · obtain ⟨ts, e, _⟩ := u.ht
      exact ⟨_, e⟩
    · exact ShAt.ex u.sh c hc
theorem UB.nodup (u : UB P w K C H b S) : b.all.Nodup := by
  obtain ⟨n1, n2⟩ := u.nfp
  refine List.nodup_cons.mpr ⟨fun z => ?_, List.nodup_cons.mpr ⟨n2, ShAt.nodup u.sh⟩⟩
  rcases List.mem_cons.mp z with z | z
  · exact u.ne z
  · exact n1 z
theorem UB.off {gp : List Addr} (u : UB P w K C H b S) (n : ∀ c ∈ gp, ∀ xs, ¬ Rd H c (.tup xs)) (o : Off gp H H') (dj : ∀ c ∈ b.all, c ∉ gp) : UB P w K C H' b S := by
  obtain ⟨ts, e, d⟩ := u.ht
  exact ⟨u.sh.off n o fun c hc => dj c (List.mem_cons_of_mem _ (List.mem_cons_of_mem _ hc)), o _ _ (dj _ List.mem_cons_self) u.hn, ⟨ts, o _ _ (dj _ (List.mem_cons_of_mem _ List.mem_cons_self)) e, DtAll.off n o _ _ (txts_of u.sh.good) d⟩, u.ne, u.lf, u.nn, u.ok⟩
theorem UB.ins (u : UB P w K C H b S) : ∃ dx d1 d2 d3, H b.a = some (.ins C dx (flds d1 d2 d3)) := by
  obtain ⟨_, dx, d1, d2, d3, _, _, _, _, h1, _⟩ := u.sh
  exact ⟨dx, d1, d2, d3, h1⟩
theorem UB.names (u : UB P w K C H b S) : Dt K H (.list ((S.map En.nm).map .str)) (.ref b.ln) ∧ PyData.canLayAll0 ((S.map En.nm).map .str) = true := by
  refine ⟨⟨b.ln, _, rfl, SqL.of (by rw [u.hn, List.map_map]; rfl), DtAll.strs (S.map En.nm)⟩, (lay_strs (S.map En.nm) fun p hp => ?_).1⟩
  obtain ⟨f, hf, rfl⟩ := List.mem_map.mp hp
  exact u.ok f hf
theorem new_facts {x dx : Addr} {o1 o2 : HO} {fp : List Addr} (nx : H x = none) (ndx : H dx = none) (ne : dx ≠ x) (hfp : ∀ c ∈ fp, c = x ∨ c = dx ∨ (L2.upd (L2.upd H dx o1) x o2) c = none) (o : Off [x] (L2.upd (L2.upd H dx o1) x o2) H') : Same H H' ∧ ∀ c ∈ fp, H c = none := by
  have h1 : Same H (L2.upd (L2.upd H dx o1) x o2) := (same_upd ndx).trans (same_upd (by rw [upd_ne (Ne.symm ne)]; exact nx))
  refine ⟨fun c u e => o c u (fun z => ?_) (h1 c u e), fun c hc => ?_⟩
  · rw [List.mem_singleton.mp z, nx] at e; cases e
  · rcases hfp c hc with z | z | z
    · rw [z]; exact nx
    · rw [z]; exact ndx
    · exact h1.free z
/-- an empty shelf and two empty lists -/
theorem UB.empty {a : Addr} {fp : List Addr} {ln lt : Addr} (sh : ShAt P w K C H a fp []) (h1 : H ln = some (.lst [])) (h2 : H lt = some (.lst [])) (ne : ln ≠ lt) : UB P w K C H ⟨a, fp, ln, lt⟩ [] :=
  ⟨sh, h1, ⟨[], h2, rfl⟩, ne, fun e he => (nomatch he), fun e he => (nomatch he), fun e he => (nomatch he)⟩
/-- another shelf with lists that hold the same -/
theorem UB.copy {a : Addr} {fp : List Addr} {ln lt : Addr} {ts : List V} (u : UB P w K C H b S) (sh : ShAt P w K C H a fp S) (h1 : H ln = some (.lst (S.map fun e => V.str e.nm))) (h2 : H lt = some (.lst ts)) (h3 : H b.lt = some (.lst ts)) (ne : ln ≠ lt) : UB P w K C H ⟨a, fp, ln, lt⟩ S := by
  obtain ⟨ts', e, d⟩ := u.ht
  rw [h3] at e
  cases e
  exact ⟨sh, h1, ⟨_, h2, d⟩, ne, u.lf, u.nn, u.ok⟩
/-! ### three of them -/
structure Wd (P : Program) (w : World) (K : PySem.W.Frag) (C : Addr) (H0 H : Hp) (B : Nat → Blk) (SS : Nat → List En) (f0 p4 p5 : Addr) (q : Nat → Addr) : Prop where
  same : Same H0 H
  u : ∀ i, i < 3 → UB P w K C H (B i) (SS i)
  fr : ∀ i, i < 3 → ∀ c ∈ (B i).all, H0 c = none
  dj : ∀ i, i < 3 → ∀ j, j < 3 → i ≠ j → ∀ c ∈ (B i).all, c ∉ (B j).all
  hf : H f0 = some (.lst [.ref (B 2).ln, .ref (B 2).lt])
  h4 : H p4 = some (.lst [.ref (B 0).a, .ref (B 1).a])
  h5 : H p5 = some (.lst [.ref (q 0), .ref (q 1)])
  hq : ∀ i, i < 2 → H (q i) = some (.lst [.ref (B i).ln, .ref (B i).lt])
  out : ∀ i, i < 3 → ∀ l ∈ [f0, p4, p5, q 0, q 1], l ∉ (B i).all
theorem Wd.ins {B : Nat → Blk} {SS : Nat → List En} {f0 p4 p5 : Addr} {q : Nat → Addr} (W : Wd P w K C H0 H B SS f0 p4 p5 q) (s : Same H H') : Wd P w K C H0 H' B SS f0 p4 p5 q :=
  ⟨W.same.trans s, fun i hi => (W.u i hi).same s, W.fr, W.dj, s _ _ W.hf, s _ _ W.h4, s _ _ W.h5, fun i hi => s _ _ (W.hq i hi), W.out⟩
theorem Wd.put {B : Nat → Blk} {SS : Nat → List En} {f0 p4 p5 : Addr} {q : Nat → Addr} (W : Wd P w K C H0 H B SS f0 p4 p5 q) {i : Nat} (hi : i < 3) {S' : List En} (o : Off (B i).all H H') (u : UB P w K C H' (B i) S') :
    Wd P w K C H0 H' B (fun j => if j = i then S' else SS j) f0 p4 p5 q := by
  have nt := (W.u i hi).notup
  have ko : ∀ l ∈ [f0, p4, p5, q 0, q 1], ∀ o', H l = some o' → H' l = some o' := fun l hl o' e => o l o' (W.out i hi l hl) e
  refine ⟨fun c x e => o c x (fun z => ?_) (W.same c x e), fun j hj => ?_, W.fr, W.dj, ko _ (by simp) _ W.hf, ko _ (by simp) _ W.h4, ko _ (by simp) _ W.h5, fun j hj => ko _ ?_ _ (W.hq j hj), W.out⟩
  · rw [W.fr i hi c z] at e; cases e
  · by_cases z : j = i
    · subst z
      show UB P w K C H' (B j) (if j = j then S' else SS j)
      rw [if_pos rfl]; exact u
    · show UB P w K C H' (B j) (if j = i then S' else SS j)
      rw [if_neg z]
      exact (W.u j hj).off nt o (W.dj j hj i hi z)
  · have : j = 0 ∨ j = 1 := by omega
    rcases this with rfl | rfl <;> simp
def three {α : Type} (x y z : α) : Nat → α
  | 0 => x
  | 1 => y
  | _ => z
def two {α : Type} (x y : α) : Nat → α
  | 0 => x
  | _ => y
theorem not_by {X Y : List Addr} (h : ∀ c, X.count c + Y.count c ≤ 1) : ∀ c ∈ X, c ∉ Y := fun c h1 h2 => by
  have := h c
  have h1 := List.count_pos_iff.mpr h1
  have h2 := List.count_pos_iff.mpr h2
  omega
theorem Wd.of {b0 b1 b2 : Blk} {S0 S1 S2 : List En} {f0 p4 p5 q0 q1 : Addr} (same : Same H0 H) (u0 : UB P w K C H b0 S0) (u1 : UB P w K C H b1 S1) (u2 : UB P w K C H b2 S2)
    (fr0 : ∀ c ∈ b0.all, H0 c = none) (fr1 : ∀ c ∈ b1.all, H0 c = none) (fr2 : ∀ c ∈ b2.all, H0 c = none)
    (hL : ∀ c, b0.all.count c + b1.all.count c + b2.all.count c + [f0, p4, p5, q0, q1].count c ≤ 1)
    (hf : H f0 = some (.lst [.ref b2.ln, .ref b2.lt])) (h4 : H p4 = some (.lst [.ref b0.a, .ref b1.a])) (h5 : H p5 = some (.lst [.ref q0, .ref q1]))
    (hq0 : H q0 = some (.lst [.ref b0.ln, .ref b0.lt])) (hq1 : H q1 = some (.lst [.ref b1.ln, .ref b1.lt])) :
    Wd P w K C H0 H (three b0 b1 b2) (three S0 S1 S2) f0 p4 p5 (two q0 q1) := by
  refine ⟨same, fun i hi => ?_, fun i hi => ?_, fun i hi j hj ne => ?_, hf, h4, h5, fun i hi => ?_, fun i hi l hl => ?_⟩
  · have : i = 0 ∨ i = 1 ∨ i = 2 := by omega
    rcases this with rfl | rfl | rfl
    · exact u0
    · exact u1
    · exact u2
  · have : i = 0 ∨ i = 1 ∨ i = 2 := by omega
    rcases this with rfl | rfl | rfl
    · exact fr0
    · exact fr1
    · exact fr2
  · have h1 : i = 0 ∨ i = 1 ∨ i = 2 := by omega
    have h2 : j = 0 ∨ j = 1 ∨ j = 2 := by omega
    rcases h1 with rfl | rfl | rfl <;> rcases h2 with rfl | rfl | rfl <;> first | exact absurd rfl ne | exact not_by fun c => by have := hL c; simp only [three]; omega
  · have : i = 0 ∨ i = 1 := by omega
    rcases this with rfl | rfl
    · exact hq0
    · exact hq1
  · have h1 : i = 0 ∨ i = 1 ∨ i = 2 := by omega
    rcases h1 with rfl | rfl | rfl <;> exact not_by (X := [f0, p4, p5, q0, q1]) (fun c => by have := hL c; simp only [three]; omega) l hl
theorem pick2 {f : Nat → Addr} {z : Int} (h0 : 0 ≤ z) (h1 : z < 2) : atI [V.ref (f 0), V.ref (f 1)] z = some (.ref (f z.toNat)) := by
  have : z = 0 ∨ z = 1 := by omega
  rcases this with rfl | rfl <;> rfl
theorem last_nm {S : List En} (h : 0 < S.length) : ∃ e ∈ S, atI (S.map fun e => V.str e.nm) (-1) = some (V.str e.nm) := by
  have hi : S.length - 1 < S.length := by omega
  refine ⟨S[S.length - 1], List.getElem_mem hi, ?_⟩
  have e : ixN (S.map fun e => V.str e.nm).length (-1) = some (S.length - 1) := by
    unfold ixN
    rw [if_neg (by decide), List.length_map, if_pos (by omega)]
    congr 1
    omega
  unfold atI
  rw [e]
  show (S.map fun e => V.str e.nm)[S.length - 1]? = _
  rw [List.getElem?_map, List.getElem?_eq_getElem hi]; rfl
end
end An03

set_option Elab.async false
set_option linter.all false
set_option maxRecDepth 100000
set_option maxHeartbeats 4000000
namespace An03
open PySem L2 An
seal L2.PS L2.PSs L2.PE L2.PT L2.PW L2.PA L2.PG L2.PGs L2.PI L2.PFi L2.PC
def spLaw (K : PySem.W.Frag) : Sp := fun vs H Q _ => ∃ (a : Addr) (ns : List Int), vs = [.ref a] ∧ SqL K H a (ns.map V.int) ∧ ns.length ≤ 63 ∧ ∀ H', Q (.bl true) H'
section
variable {P : Program} {w : World} {K : PySem.W.Frag} {mg : Str → Option Value} {base : Heap} {t1 t2 t3 t4 : Tok} {aL aC aN aT : Addr}
/-- the first shelf alone -/
structure W0 (P : Program) (w : World) (K : PySem.W.Frag) (C : Addr) (H0 H : Hp) (b : Blk) (S : List En) (f0 : Addr) : Prop where
  same : Same H0 H
  u : UB P w K C H b S
  fr : ∀ c ∈ b.all, H0 c = none
  hf : H f0 = some (.lst [.ref b.ln, .ref b.lt])
  out : f0 ∉ b.all
theorem W0.ins {C : Addr} {H0 H H' : Hp} {b : Blk} {S : List En} {f0 : Addr} (W : W0 P w K C H0 H b S f0) (s : Same H H') : W0 P w K C H0 H' b S f0 := ⟨W.same.trans s, W.u.same s, W.fr, s _ _ W.hf, W.out⟩
theorem W0.put {C : Addr} {H0 H H' : Hp} {b : Blk} {S S' : List En} {f0 : Addr} (W : W0 P w K C H0 H b S f0) (o : Off b.all H H') (u : UB P w K C H' b S') : W0 P w K C H0 H' b S' f0 :=
  ⟨fun c x e => o c x (fun z => by rw [W.fr c z] at e; cases e) (W.same c x e), u, W.fr, o _ _ W.out W.hf, W.out⟩
namespace g_law
abbrev st : Stmt := top 44
theorem sc : FnScope ["_law_script", "_law_base", "_law_first", "_law_cell", "_law_shelves", "_law_tables", "_law_turn", "_law_k", "_law_at", "_law_thing", "_law_other", "_law_told"] ["_law_script"] (defScope st) := ⟨rfl, rfl, rfl, by decide +kernel, rfl, by decide +kernel, by decide +kernel⟩
theorem ok {f : Addr} {fd : FuncData} (F : Fun K "law" "law" st f fd) (T : Txt P w K mg t1 t2 t3 t4 aL aC aN aT) (M_Shelf : Mak P w K mg base aC 5 "Shelf" ["self", "base"] (spInit P w K aC)) (C__law_put : Cal P w K mg base 8 "_law_put" ["_law_shelf", "_law_names", "_law_things", "_law_thing"] (spPutL P w K aC))
    (C__law_leaf_by : Cal P w K mg base 1 "_law_leaf_by" ["_law_cell"] (spLeafBy K)) (C__law_kin_by : Cal P w K mg base 1 "_law_kin_by" ["_law_cell", "_law_turn"] (spKinBy K)) (C__law_cell_at : Cal P w K mg base 1 "_law_cell_at" ["_law_script", "_law_k"] (spCellA K))
    (C__law_listed : Cal P w K mg base 1 "_law_listed" ["_law_found", "_law_due_here"] (spListed K)) (M_has : Met P w K mg base aC 2 "has" ["self", "name"] (spHas P w K aC)) (M_thing : Met P w K mg base aC 4 "thing" ["self", "name"] (spThing P w K aC))
    (M_names : Met P w K mg base aC 1 "names" ["self"] (spNames P w K aC)) : FnOk P w K mg base CX0 9 f fd ["_law_script"] (spLaw K) := by
  refine F.ok sc (fun vs H Q E h => ?_) (fun cdv A outer s H vs Q E hr h => ?_)
  · obtain ⟨a, ns, rfl, _⟩ := h
    rfl
  · obtain ⟨a, ns, rfl, ha, hlen, kQ⟩ := h
    refine ⟨_, (pss_cons (ps_set (i := 1) sc.nd rfl (Or.inl rfl) (pe_makC M_Shelf (hr.mono (by decide)) (pa_cons pe_non pa_nil)))
      (pss_cons (ps_set (i := 2) sc.nd rfl (Or.inl rfl) (pe_lst (pa_cons (pe_lst pa_nil) (pa_cons (pe_lst pa_nil) pa_nil))))
      (pss_cut (ps_for PassesOwn.never rfl (pi_list (pe_slice (sl_list : SlR _ (rSlL K)) (pv 0) po_none (po_some pe_int))) (pg_name (i := 3) sc.nd rfl (Or.inl rfl))
        (pss_one (ps_if (pt_not (pt_truthK (K := K) (pe_callC C__law_put (hr.mono (by decide)) (pa_cons (pv 1) (pa_cons (pe_ix (ix_list : IxR _ (rIxL K)) (pv 2) pe_int (fun _ _ => rfl)) (pa_cons (pe_ix (ix_list : IxR _ (rIxL K)) (pv 2) pe_int (fun _ _ => rfl)) (pa_cons (pe_callC C__law_leaf_by (hr.mono (by decide)) (pa_cons (pv 3) pa_nil)) pa_nil))))) (fun _ => rfl)))
          (pss_one (ps_ret pe_bl))
          pss_nil)))
      (pss_cons (ps_set (i := 4) sc.nd rfl (Or.inl rfl) (pe_lst (pa_cons (pe_makC M_Shelf (hr.mono (by decide)) (pa_cons (pv 1) pa_nil)) (pa_cons (pe_makC M_Shelf (hr.mono (by decide)) (pa_cons pe_non pa_nil)) pa_nil))))
      (pss_cons (ps_set (i := 5) sc.nd rfl (Or.inl rfl) (pe_lst (pa_cons (pe_lst (pa_cons (pe_callTy call_list_of (by rfl) T.list PyProof.Rows.boot_list (pa_cons (pe_ix (ix_list : IxR _ (rIxL K)) (pv 2) pe_int (fun _ _ => rfl)) pa_nil)) (pa_cons (pe_callTy call_list_of (by rfl) T.list PyProof.Rows.boot_list (pa_cons (pe_ix (ix_list : IxR _ (rIxL K)) (pv 2) pe_int (fun _ _ => rfl)) pa_nil)) pa_nil))) (pa_cons (pe_lst (pa_cons (pe_lst pa_nil) (pa_cons (pe_lst pa_nil) pa_nil))) pa_nil))))
      (pss_cut (ps_if (pt_cmpR op_eq (pe_op op_mod (pe_callC C__law_cell_at (hr.mono (by decide)) (pa_cons (pv 0) (pa_cons pe_int pa_nil))) pe_int) pe_int (nomark _))
        (pss_cons (ps_asg (pe_makC M_Shelf (hr.mono (by decide)) (pa_cons (pv 1) pa_nil)) (pg_sub (pv 4) pe_int set_list))
        (pss_one (ps_asg (pe_lst (pa_cons (pe_callTy call_list_of (by rfl) T.list PyProof.Rows.boot_list (pa_cons (pe_ix (ix_list : IxR _ (rIxL K)) (pv 2) pe_int (fun _ _ => rfl)) pa_nil)) (pa_cons (pe_callTy call_list_of (by rfl) T.list PyProof.Rows.boot_list (pa_cons (pe_ix (ix_list : IxR _ (rIxL K)) (pv 2) pe_int (fun _ _ => rfl)) pa_nil)) pa_nil))) (pg_sub (pv 5) pe_int set_list))))
        pss_nil)
      (pss_cut (ps_if (pt_cmpR op_eq (pe_op op_mod (pe_callC C__law_cell_at (hr.mono (by decide)) (pa_cons (pv 0) (pa_cons pe_int pa_nil))) pe_int) pe_int (nomark _))
        (pss_one (ps_for PassesOwn.never rfl (pi_range1 rfl T.range (pa_cons pe_int pa_nil)) (pg_name (i := 6) sc.nd rfl (Or.inl rfl))
          (pss_one (ps_if (pt_not (pt_truthK (K := K) (pe_callC C__law_put (hr.mono (by decide)) (pa_cons (pe_ix (ix_list : IxR _ (rIxL K)) (pv 4) pe_int (fun _ _ => rfl)) (pa_cons (pe_ix (ix_list : IxR _ (rIxL K)) (pe_ix (ix_list : IxR _ (rIxL K)) (pv 5) pe_int (fun _ _ => rfl)) pe_int (fun _ _ => rfl)) (pa_cons (pe_ix (ix_list : IxR _ (rIxL K)) (pe_ix (ix_list : IxR _ (rIxL K)) (pv 5) pe_int (fun _ _ => rfl)) pe_int (fun _ _ => rfl)) (pa_cons (pe_callC C__law_kin_by (hr.mono (by decide)) (pa_cons (pe_op op_fdiv (pe_callC C__law_cell_at (hr.mono (by decide)) (pa_cons (pv 0) (pa_cons pe_int pa_nil))) pe_int) (pa_cons (pv 6) pa_nil))) pa_nil))))) (fun _ => rfl)))
            (pss_one (ps_ret pe_bl))
            pss_nil))))
        pss_nil)
      (pss_cut (ps_for PassesOwn.never rfl (pi_range2 rfl T.range (pa_cons pe_int (pa_cons (pe_callB call_len_seq (by rfl) T.len PySem.boot_len (pa_cons (pv 0) pa_nil)) pa_nil))) (pg_name (i := 7) sc.nd rfl (Or.inl rfl))
        (pss_cons (ps_set (i := 8) sc.nd rfl (Or.inl rfl) (pe_op op_mod (pe_ix (ix_list : IxR _ (rIxL K)) (pv 0) (pv 7) (fun _ _ => rfl)) pe_int))
        (pss_cons (ps_set (i := 9) sc.nd rfl (Or.inl rfl) (pe_callC C__law_leaf_by (hr.mono (by decide)) (pa_cons (pe_op op_fdiv (pe_ix (ix_list : IxR _ (rIxL K)) (pv 0) (pv 7) (fun _ _ => rfl)) pe_int) pa_nil)))
        (pss_cons (ps_if (pt_not (pt_truthK (K := K) (pe_callC C__law_put (hr.mono (by decide)) (pa_cons (pe_ix (ix_list : IxR _ (rIxL K)) (pv 4) (pv 8) (fun _ _ => rfl)) (pa_cons (pe_ix (ix_list : IxR _ (rIxL K)) (pe_ix (ix_list : IxR _ (rIxL K)) (pv 5) (pv 8) (fun _ _ => rfl)) pe_int (fun _ _ => rfl)) (pa_cons (pe_ix (ix_list : IxR _ (rIxL K)) (pe_ix (ix_list : IxR _ (rIxL K)) (pv 5) (pv 8) (fun _ _ => rfl)) pe_int (fun _ _ => rfl)) (pa_cons (pv 9) pa_nil))))) (fun _ => rfl)))
          (pss_one (ps_ret pe_bl))
          pss_nil)
        (pss_cons (ps_if (pt_not (pt_truthK (K := K) (pe_callC C__law_put (hr.mono (by decide)) (pa_cons (pe_ix (ix_list : IxR _ (rIxL K)) (pv 4) (pv 8) (fun _ _ => rfl)) (pa_cons (pe_ix (ix_list : IxR _ (rIxL K)) (pe_ix (ix_list : IxR _ (rIxL K)) (pv 5) (pv 8) (fun _ _ => rfl)) pe_int (fun _ _ => rfl)) (pa_cons (pe_ix (ix_list : IxR _ (rIxL K)) (pe_ix (ix_list : IxR _ (rIxL K)) (pv 5) (pv 8) (fun _ _ => rfl)) pe_int (fun _ _ => rfl)) (pa_cons (pe_ix (ix_list : IxR _ (rIxL K)) (pe_ix (ix_list : IxR _ (rIxL K)) (pe_ix (ix_list : IxR _ (rIxL K)) (pv 5) (pv 8) (fun _ _ => rfl)) pe_int (fun _ _ => rfl)) pe_int (fun _ _ => rfl)) pa_nil))))) (fun _ => rfl)))
          (pss_one (ps_ret pe_bl))
          pss_nil)
        (pss_cons (ps_set (i := 10) sc.nd rfl (Or.inl rfl) (pe_ix (ix_list : IxR _ (rIxL K)) (pe_ix (ix_list : IxR _ (rIxL K)) (pv 5) (pe_op op_sub pe_int (pv 8)) (fun _ _ => rfl)) pe_int (fun _ _ => rfl)))
        (pss_one (ps_if (pt_cmpR op_ne (pe_metC (pe_ix (ix_list : IxR _ (rIxL K)) (pv 4) (pe_op op_sub pe_int (pv 8)) (fun _ _ => rfl)) T.cls M_has (hr.mono (by decide)) (pa_cons (pe_ix (ix_list : IxR _ (rIxL K)) (pe_ix (ix_list : IxR _ (rIxL K)) (pe_ix (ix_list : IxR _ (rIxL K)) (pv 5) (pv 8) (fun _ _ => rfl)) pe_int (fun _ _ => rfl)) (pe_un un_neg pe_int) (fun _ _ => rfl)) pa_nil)) (pe_cmpR (op_inD (K := K) hr.units) (pe_ix (ix_list : IxR _ (rIxL K)) (pe_ix (ix_list : IxR _ (rIxL K)) (pe_ix (ix_list : IxR _ (rIxL K)) (pv 5) (pv 8) (fun _ _ => rfl)) pe_int (fun _ _ => rfl)) (pe_un un_neg pe_int) (fun _ _ => rfl)) (pv 10) (by with_unfolding_all rfl)) (nomark _))
          (pss_one (ps_ret pe_bl))
          pss_nil))))))))
      (pss_cut (ps_for PassesOwn.never rfl (pi_range1 rfl T.range (pa_cons pe_int pa_nil)) (pg_name (i := 8) sc.nd rfl (Or.inl rfl))
        (pss_cons (ps_set (i := 11) sc.nd rfl (Or.inl rfl) (pe_metC0 (pe_ix (ix_list : IxR _ (rIxL K)) (pv 4) (pv 8) (fun _ _ => rfl)) T.cls M_names (hr.mono (by decide))))
        (pss_cons (ps_if (pt_not (pt_truthK (K := K) (pe_callC C__law_listed (hr.mono (by decide)) (pa_cons (pv 11) (pa_cons (pe_ix (ix_list : IxR _ (rIxL K)) (pe_ix (ix_list : IxR _ (rIxL K)) (pv 5) (pv 8) (fun _ _ => rfl)) pe_int (fun _ _ => rfl)) pa_nil))) (fun _ => rfl)))
          (pss_one (ps_ret pe_bl))
          pss_nil)
        (pss_cons (ps_expr (pe_bm PySem.F.plainAttrs_list PySem.F.slot_list_append PySem.F.type_list_append mt_append (pv 11) (pa_cons pe_str pa_nil)))
        (pss_cons (ps_if (pt_not (pt_truthK (K := K) (pe_callC C__law_listed (hr.mono (by decide)) (pa_cons (pe_metC0 (pe_ix (ix_list : IxR _ (rIxL K)) (pv 4) (pv 8) (fun _ _ => rfl)) T.cls M_names (hr.mono (by decide))) (pa_cons (pe_ix (ix_list : IxR _ (rIxL K)) (pe_ix (ix_list : IxR _ (rIxL K)) (pv 5) (pv 8) (fun _ _ => rfl)) pe_int (fun _ _ => rfl)) pa_nil))) (fun _ => rfl)))
          (pss_one (ps_ret pe_bl))
          pss_nil)
        (pss_one (ps_for PassesOwn.never rfl (pi_range1 rfl T.range (pa_cons (pe_callB call_len_seq (by rfl) T.len PySem.boot_len (pa_cons (pe_ix (ix_list : IxR _ (rIxL K)) (pe_ix (ix_list : IxR _ (rIxL K)) (pv 5) (pv 8) (fun _ _ => rfl)) pe_int (fun _ _ => rfl)) pa_nil)) pa_nil)) (pg_name (i := 7) sc.nd rfl (Or.inl rfl))
          (pss_one (ps_if (pt_cmpR (op_neD hr.units) (pe_metC (pe_ix (ix_list : IxR _ (rIxL K)) (pv 4) (pv 8) (fun _ _ => rfl)) T.cls M_thing (hr.mono (by decide)) (pa_cons (pe_ix (ix_list : IxR _ (rIxL K)) (pe_ix (ix_list : IxR _ (rIxL K)) (pe_ix (ix_list : IxR _ (rIxL K)) (pv 5) (pv 8) (fun _ _ => rfl)) pe_int (fun _ _ => rfl)) (pv 7) (fun _ _ => rfl)) pa_nil)) (pe_ix (ix_list : IxR _ (rIxL K)) (pe_ix (ix_list : IxR _ (rIxL K)) (pe_ix (ix_list : IxR _ (rIxL K)) (pv 5) (pv 8) (fun _ _ => rfl)) pe_int (fun _ _ => rfl)) (pv 7) (fun _ _ => rfl)) (nomark _))
            (pss_one (ps_ret pe_bl))
            pss_nil)))))))))
      (pss_one (ps_ret (pe_callC C__law_listed (hr.mono (by decide)) (pa_cons (pe_metC0 (pv 1) T.cls M_names (hr.mono (by decide))) (pa_cons (pe_ix (ix_list : IxR _ (rIxL K)) (pv 2) pe_int (fun _ _ => rfl)) pa_nil)))))))))))))), ?_⟩
    -- the first shelf
    refine fun x dx nx ndx ne => ⟨x, dx, .non, [], rfl, upd_same, by rw [upd_ne ne]; exact upd_same, ne, .inl ⟨rfl, rfl⟩, fun fp0 H1 hfp off0 sh => ⟨rfl, ?_⟩⟩
    obtain ⟨s1, fr1⟩ := new_facts nx ndx ne hfp off0
    refine ⟨lineN 0, fun ln0 n2 => ⟨lineN 0, fun lt0 n3 => ⟨lineN 2, fun f0 n4 => ?_⟩⟩⟩
    have W1 : W0 P w K aC H (upd (upd (upd H1 ln0 (.lst [])) lt0 (.lst [])) f0 (.lst [V.ref ln0, V.ref lt0])) ⟨x, fp0, ln0, lt0⟩ [] f0 := by
      have q1 := same_upd (o := .lst []) n2
      have q2 := same_upd (o := .lst []) n3
      have q3 := same_upd (o := .lst [V.ref ln0, V.ref lt0]) n4
      have d1 : ln0 ≠ lt0 := ne_of_none upd_same n3
      have u3 : UB P w K aC (upd (upd H1 ln0 (.lst [])) lt0 (.lst [])) ⟨x, fp0, ln0, lt0⟩ [] := UB.empty (sh.same (q1.trans q2)) (q2 _ _ upd_same) upd_same d1
      refine ⟨((s1.trans q1).trans q2).trans q3, u3.same q3, fun c hc => ?_, upd_same, u3.ex.not n4⟩
      rcases List.mem_cons.mp hc with z | hc
      · rw [z]; exact s1.free n2
      · rcases List.mem_cons.mp hc with z | hc
        · rw [z]; exact (s1.trans q1).free n3
        · exact fr1 c hc
    obtain ⟨H4, e4⟩ : ∃ H4, H4 = upd (upd (upd H1 ln0 (.lst [])) lt0 (.lst [])) f0 (.lst [V.ref ln0, V.ref lt0]) := ⟨_, rfl⟩
    rw [← e4] at W1 ⊢
    clear e4
    obtain ⟨b0, eb⟩ : ∃ b : Blk, b = ⟨x, fp0, ln0, lt0⟩ := ⟨_, rfl⟩
    have ex : x = b0.a := by rw [eb]
    rw [← eb] at W1
    rw [ex]
    clear ex eb
    refine ⟨fun σ' H' => ∃ o3 S, σ' = [some (.ref a), some (.ref b0.a), some (.ref f0), o3, none, none, none, none, none, none, none, none] ∧ W0 P w K aC H H' b0 S f0 ∧ S.length ≤ 4, ?_, ?_⟩
    · refine ⟨_, rfl, _, rfl, a, _, rfl, W1.same.seq ha, fun l nl => ?_⟩
      rw [cut_to (by decide), ← List.map_take]
      obtain ⟨ms, em⟩ : ∃ ms, ms = ns.take (Int.toNat 4) := ⟨_, rfl⟩
      have ml : ms.length ≤ 4 := by rw [em, List.length_take]; exact Nat.min_le_left _ _
      rw [← em]
      have lb := W1.u.ex.not nl
      have W2 := W1.ins (same_upd (o := .lst (ms.map V.int)) nl)
      refine ⟨l, rfl, ⟨_, SqL.of upd_same⟩, for_list (K := K) (a := l) (xs := ms.map V.int) (fun i σ H' => ∃ o3 S, σ = [some (.ref a), some (.ref b0.a), some (.ref f0), o3, none, none, none, none, none, none, none, none] ∧ W0 P w K aC H H' b0 S f0 ∧ H' l = some (.lst (ms.map V.int)) ∧ S.length ≤ i) ⟨none, [], rfl, W2, upd_same, Nat.zero_le _⟩ (fun i σ H' _ ⟨_, _, _, _, e, _⟩ => SqL.of e) ?_ ?_⟩
      · rintro i y σ H' hy ⟨o3, S, rfl, W, hl, Sl⟩
        have hi : i < ms.length := by
          have := (List.getElem?_eq_some_iff.mp hy).1
          rwa [List.length_map] at this
        rw [List.getElem?_map, List.getElem?_eq_getElem hi] at hy
        have hy : V.int ms[i] = y := Option.some.inj hy
        subst hy
        refine ⟨_, rfl, _, rfl, f0, _, _, _, rfl, rfl, SqL.of W.hf, rfl, _, rfl, f0, _, _, _, rfl, rfl, SqL.of W.hf, rfl, _, rfl, _, rfl, fun v ls H2 s2 hv g => ?_⟩
        have W' := W.ins s2
        refine ⟨b0.a, b0.ln, b0.lt, b0.fp, S, v, ls, rfl, W'.u, hv, g, by omega, fun H3 S' o u l1 l2 => ⟨_, rfl, iteF (A := False) ⟨_, S', rfl, W'.put o u, o _ _ lb (s2 _ _ hl), by omega⟩⟩⟩
      · rintro σ H' ⟨o3, S, rfl, W, hl, Sl⟩
        rw [List.length_map] at Sl
        exact ⟨o3, S, rfl, W, by omega⟩
    rintro σ H5 ⟨o3, S0, rfl, W, Sl⟩
    -- two shelves more
    refine ⟨_, rfl, fun x1 dx1 nx1 ndx1 ne1 => ⟨x1, dx1, .ref b0.a, S0, rfl, upd_same, by rw [upd_ne ne1]; exact upd_same, ne1, .inr ⟨b0.a, b0.fp, rfl, W.u.sh.same ((same_upd ndx1).trans (same_upd (by rw [upd_ne (Ne.symm ne1)]; exact nx1))), (ShAt.ex W.u.sh).not nx1, (ShAt.ex W.u.sh).not ndx1, by omega⟩, fun fp1 H6 hfp1 off1 sh1 => ⟨rfl, ?_⟩⟩⟩
    obtain ⟨s6, fr6⟩ := new_facts nx1 ndx1 ne1 hfp1 off1
    refine fun x2 dx2 nx2 ndx2 ne2 => ⟨x2, dx2, .non, [], rfl, upd_same, by rw [upd_ne ne2]; exact upd_same, ne2, .inl ⟨rfl, rfl⟩, fun fp2 H7 hfp2 off2 sh2 => ⟨rfl, lineN 2, fun p4 n4 => ?_⟩⟩
    obtain ⟨s7, fr7⟩ := new_facts nx2 ndx2 ne2 hfp2 off2
    clear hfp1 off1 hfp2 off2 nx1 ndx1 ne1 nx2 ndx2 ne2
    have N0 : NdEx H5 (f0 :: b0.all) := ⟨List.nodup_cons.mpr ⟨W.out, W.u.nodup⟩, fun c hc => by
      rcases List.mem_cons.mp hc with z | z
      · rw [z]; exact ⟨_, W.hf⟩
      · exact W.u.ex c z⟩
    have N1 := N0.app (ShAt.nodup sh1) fr6 s6 (ShAt.ex sh1)
    have N2 := N1.app (ShAt.nodup sh2) fr7 s7 (ShAt.ex sh2)
    have N3 := N2.new (o := .lst [V.ref x1, V.ref x2]) n4
    have s8 := same_upd (o := .lst [V.ref x1, V.ref x2]) n4
    have sh1 := sh1.same (s7.trans s8)
    have sh2 := sh2.same s8
    have W8 := W.ins ((s6.trans s7).trans s8)
    have s58 := (s6.trans s7).trans s8
    have h4 : upd H7 p4 (.lst [V.ref x1, V.ref x2]) p4 = some (.lst [V.ref x1, V.ref x2]) := upd_same
    show gName 4 (V.ref p4) _ (upd H7 p4 (.lst [V.ref x1, V.ref x2])) _
    generalize upd H7 p4 (.lst [V.ref x1, V.ref x2]) = H8 at N3 s8 sh1 sh2 W8 h4 s58
    obtain ⟨ts, ht8, hd8⟩ := W8.u.ht
    refine ⟨_, rfl, f0, _, _, _, rfl, rfl, SqL.of W8.hf, rfl, b0.ln, _, rfl, .inl (SqL.of W8.u.hn), fun ln1 m1 => ?_⟩
    have r1 := same_upd (o := .lst (S0.map fun e => V.str e.nm)) m1
    refine ⟨_, rfl, f0, _, _, _, rfl, rfl, SqL.of (r1 _ _ W8.hf), rfl, b0.lt, _, rfl, .inl (SqL.of (r1 _ _ ht8)), fun lt1 m2 => ⟨lineN 2, fun q0 m3 => ⟨lineN 0, fun ln2 m4 => ⟨lineN 0, fun lt2 m5 => ⟨lineN 2, fun q1 m6 => ⟨lineN 2, fun p5 m7 => ?_⟩⟩⟩⟩⟩⟩
    have r2 := same_upd (o := .lst ts) m2
    have r3 := same_upd (o := .lst [V.ref ln1, V.ref lt1]) m3
    have r4 := same_upd (o := .lst []) m4
    have r5 := same_upd (o := .lst []) m5
    have r6 := same_upd (o := .lst [V.ref ln2, V.ref lt2]) m6
    have r7 := same_upd (o := .lst [V.ref q0, V.ref q1]) m7
    have N10 := ((((((N3.new (o := .lst (S0.map fun e => V.str e.nm)) m1).new (o := .lst ts) m2).new (o := .lst [V.ref ln1, V.ref lt1]) m3).new (o := .lst []) m4).new (o := .lst []) m5).new (o := .lst [V.ref ln2, V.ref lt2]) m6).new (o := .lst [V.ref q0, V.ref q1]) m7
    have v6 := r7
    have v5 := r6.trans v6
    have v4 := r5.trans v5
    have v3 := r4.trans v4
    have v2 := r3.trans v3
    have v1 := r2.trans v2
    have v0 := r1.trans v1
    have g1 := v1 _ _ upd_same
    have g2 := v2 _ _ upd_same
    have g3 := v3 _ _ upd_same
    have g4 := v4 _ _ upd_same
    have g5 := v5 _ _ upd_same
    have g6 := v6 _ _ upd_same
    have g7 : upd (upd (upd (upd (upd (upd (upd H8 ln1 (.lst (S0.map fun e => V.str e.nm))) lt1 (.lst ts)) q0 (.lst [V.ref ln1, V.ref lt1])) ln2 (.lst [])) lt2 (.lst [])) q1 (.lst [V.ref ln2, V.ref lt2])) p5 (.lst [V.ref q0, V.ref q1]) p5 = some (.lst [V.ref q0, V.ref q1]) := upd_same
    have k1 : H8 lt1 = none := r1.free m2
    have k2 : H8 ln2 = none := ((r1.trans r2).trans r3).free m4
    have k3 : H8 lt2 = none := (((r1.trans r2).trans r3).trans r4).free m5
    have f5 : H p5 = none := W8.same.free ((((((r1.trans r2).trans r3).trans r4).trans r5).trans r6).free m7)
    have f4 : H p4 = none := (W.same.trans (s6.trans s7)).free n4
    clear r1 r2 r3 r4 r5 r6 r7 v1 v2 v3 v4 v5 v6
    show gName 5 (V.ref p5) _ (upd (upd (upd (upd (upd (upd (upd H8 ln1 (.lst (S0.map fun e => V.str e.nm))) lt1 (.lst ts)) q0 (.lst [V.ref ln1, V.ref lt1])) ln2 (.lst [])) lt2 (.lst [])) q1 (.lst [V.ref ln2, V.ref lt2])) p5 (.lst [V.ref q0, V.ref q1])) _
    obtain ⟨H9, e9⟩ : ∃ H9, H9 = upd (upd (upd (upd (upd (upd (upd H8 ln1 (.lst (S0.map fun e => V.str e.nm))) lt1 (.lst ts)) q0 (.lst [V.ref ln1, V.ref lt1])) ln2 (.lst [])) lt2 (.lst [])) q1 (.lst [V.ref ln2, V.ref lt2])) p5 (.lst [V.ref q0, V.ref q1]) := ⟨_, rfl⟩
    rw [← e9] at N10 v0 g1 g2 g3 g4 g5 g6 g7 ⊢
    clear e9 m2 m3 m4 m5 m6 m7
    have W9 := W8.ins v0
    have cnt := N10.count
    have n12 : ln1 ≠ lt1 := fun z => by
      have := N10.1
      simp [z] at this
    have n34 : ln2 ≠ lt2 := fun z => by
      have := N10.1
      simp [z] at this
    have D1 : Wd P w K aC H H9 (three ⟨x1, fp1, ln1, lt1⟩ ⟨x2, fp2, ln2, lt2⟩ b0) (three S0 [] S0) f0 p4 p5 (two q0 q1) := by
      refine Wd.of W9.same (UB.copy W9.u (sh1.same v0) g1 g2 (v0 _ _ ht8) n12) (UB.empty (sh2.same v0) g4 g5 n34) W9.u (fun c hc => ?_) (fun c hc => ?_) W9.fr (fun c => ?_) W9.hf (v0 _ _ h4) g7 g3 g6
      · rcases List.mem_cons.mp hc with z | hc
        · rw [z]; exact W8.same.free m1
        · rcases List.mem_cons.mp hc with z | hc
          · rw [z]; exact W8.same.free k1
          · exact W.same.free (fr6 c hc)
      · rcases List.mem_cons.mp hc with z | hc
        · rw [z]; exact W8.same.free k2
        · rcases List.mem_cons.mp hc with z | hc
          · rw [z]; exact W8.same.free k3
          · exact (W.same.trans s6).free (fr7 c hc)
      · have := cnt c
        simp only [List.count_append, List.count_cons, Blk.all, List.count_nil] at this ⊢
        omega
    have M1 := D1.same.seq ha
    refine ⟨fun σ' H' => ∃ B SS q, σ' = [some (.ref a), some (.ref b0.a), some (.ref f0), o3, some (.ref p4), some (.ref p5), none, none, none, none, none, none] ∧ Wd P w K aC H H' B SS f0 p4 p5 q ∧ B 2 = b0 ∧ ∀ i, i < 3 → (SS i).length ≤ 4, ?_, ?_⟩
    · refine ⟨_, rfl, a, ns, 0, rfl, M1, by decide, fun z => ⟨_, _, rfl, rfl, (by show (0 : Int) < 2; decide), rfl, _, rfl, ite2 (fun _ => ?_) (fun _ => ?_)⟩⟩
      · refine ⟨_, rfl, fun x3 dx3 nx3 ndx3 ne3 => ⟨x3, dx3, .ref b0.a, S0, rfl, upd_same, by rw [upd_ne ne3]; exact upd_same, ne3, .inr ⟨b0.a, b0.fp, rfl, W9.u.sh.same ((same_upd ndx3).trans (same_upd (by rw [upd_ne (Ne.symm ne3)]; exact nx3))), (ShAt.ex W9.u.sh).not nx3, (ShAt.ex W9.u.sh).not ndx3, by omega⟩, fun fp3 H10 hfp3 off3 sh3 => ⟨rfl, ?_⟩⟩⟩
        obtain ⟨s10, fr10⟩ := new_facts nx3 ndx3 ne3 hfp3 off3
        clear hfp3 off3 nx3 ndx3 ne3
        have N11 := N10.app (ShAt.nodup sh3) fr10 s10 (ShAt.ex sh3)
        have W10 := W9.ins s10
        have D10 := D1.ins s10
        have cnt3 := N11.count
        have np0 : ∀ c ∈ f0 :: q0 :: b0.all, c ∉ [p4, p5] := not_by fun c => by
          have := cnt3 c
          simp only [List.count_append, List.count_cons, Blk.all, List.count_nil] at this ⊢
          omega
        have np1 : ∀ c ∈ (Blk.mk x1 fp1 ln1 lt1).all, c ∉ [p4, p5] := not_by fun c => by
          have := cnt3 c
          simp only [List.count_append, List.count_cons, Blk.all, List.count_nil] at this ⊢
          omega
        have np3 : ∀ c ∈ fp3, c ∉ [p4, p5] := not_by fun c => by
          have := cnt3 c
          simp only [List.count_append, List.count_cons, Blk.all, List.count_nil] at this ⊢
          omega
        have n45 : p4 ≠ p5 := fun z => by
          have := cnt3 p4
          simp only [List.count_append, List.count_cons, Blk.all, List.count_nil, z] at this
          simp at this
          omega
        refine ⟨_, rfl, p4, _, _, 1, rfl, rfl, D10.h4, rfl, ?_⟩
        have n10 : ∀ b ∈ [p4, p5], ∀ xs, ¬ Rd H10 b (.tup xs) := fun b hb xs zz => by
          rcases List.mem_cons.mp hb with q | q
          · rw [q] at zz
            exact rd_noseq D10.h4 (fun _ z => (nomatch z)) (fun _ _ z => (nomatch z)) xs zz
          · rw [List.mem_singleton.mp q] at zz
            exact rd_noseq D10.h5 (fun _ z => (nomatch z)) (fun _ _ z => (nomatch z)) xs zz
        have O1 : Off [p4, p5] H10 (upd H10 p4 (.lst [V.ref x1, V.ref x3])) := (Off.refl _ _).upd (by simp)
        have N11b : NdEx (upd H10 p4 (.lst [V.ref x1, V.ref x3])) _ := ⟨N11.1, N11.2.upd⟩
        have hp4 : upd H10 p4 (.lst [V.ref x1, V.ref x3]) p4 = some (.lst [V.ref x1, V.ref x3]) := upd_same
        have hp5 : upd H10 p4 (.lst [V.ref x1, V.ref x3]) p5 = some (.lst [V.ref q0, V.ref q1]) := by rw [upd_ne (Ne.symm n45)]; exact D10.h5
        have hnone : ∀ c, upd H10 p4 (.lst [V.ref x1, V.ref x3]) c = none → H10 c = none := fun c z => by
          by_cases q : c = p4
          · rw [q, hp4] at z; cases z
          · rw [upd_ne q] at z; exact z
        have ht10 := s10 _ _ (v0 _ _ ht8)
        refine (?_ : (fun H11 => _) (upd H10 p4 (.lst [V.ref x1, V.ref x3])))
        generalize upd H10 p4 (.lst [V.ref x1, V.ref x3]) = H11 at O1 N11b hp4 hp5 hnone
        have hf11 := O1 _ _ (np0 _ (by simp)) W10.hf
        have hn11 := O1 _ _ (np0 _ (by simp [Blk.all])) W10.u.hn
        have ht11 := O1 _ _ (np0 b0.lt (by simp [Blk.all])) ht10
        refine ⟨_, rfl, f0, _, _, _, rfl, rfl, SqL.of hf11, rfl, b0.ln, _, rfl, .inl (SqL.of hn11), fun ln3 j1 => ?_⟩
        have c1 := same_upd (o := .lst (S0.map fun e => V.str e.nm)) j1
        refine ⟨_, rfl, f0, _, _, _, rfl, rfl, SqL.of (c1 _ _ hf11), rfl, b0.lt, _, rfl, .inl (SqL.of (c1 _ _ ht11)), fun lt3 j2 => ⟨lineN 2, fun q3 j3 => ?_⟩⟩
        have c2 := same_upd (o := .lst ts) j2
        have c3 := same_upd (o := .lst [V.ref ln3, V.ref lt3]) j3
        refine ⟨_, rfl, p5, _, _, 1, rfl, rfl, c3 _ _ (c2 _ _ (c1 _ _ hp5)), rfl, ?_⟩
        have N12 := ((N11b.new (o := .lst (S0.map fun e => V.str e.nm)) j1).new (o := .lst ts) j2).new (o := .lst [V.ref ln3, V.ref lt3]) j3
        have cnt4 := N12.count
        have y1 : H11 lt3 = none := c1.free j2
        have y2 : H11 q3 = none := (c1.trans c2).free j3
        have z1 := c3 _ _ (c2 _ _ (upd_same (H := H11) (a := ln3) (o := .lst (S0.map fun e => V.str e.nm))))
        have z2 := c3 _ _ (upd_same (H := upd H11 ln3 (.lst (S0.map fun e => V.str e.nm))) (a := lt3) (o := .lst ts))
        have z3 : upd (upd (upd H11 ln3 (.lst (S0.map fun e => V.str e.nm))) lt3 (.lst ts)) q3 (.lst [V.ref ln3, V.ref lt3]) q3 = some (.lst [V.ref ln3, V.ref lt3]) := upd_same
        have z4 := c3 _ _ (c2 _ _ (c1 _ _ hp4))
        have O4 : Off [p4, p5] H10 (upd (upd (upd (upd H11 ln3 (.lst (S0.map fun e => V.str e.nm))) lt3 (.lst ts)) q3 (.lst [V.ref ln3, V.ref lt3])) p5 (.lst [V.ref q0, V.ref q3])) := (((O1.new j1).new j2).new j3).upd (by simp)
        have e1 : ln3 ≠ p5 := Ne.symm (ne_of_none hp5 j1)
        have e2 : lt3 ≠ p5 := Ne.symm (ne_of_none hp5 y1)
        have e3 : q3 ≠ p5 := Ne.symm (ne_of_none hp5 y2)
        have e5 : ln3 ≠ lt3 := fun z => by
          have := N12.1
          simp [z] at this
        have uA : UB P w K aC _ ⟨x1, fp1, ln1, lt1⟩ S0 := UB.off (D10.u 0 (by decide)) n10 O4 np1
        have uB : UB P w K aC _ b0 S0 := UB.off W10.u n10 O4 (fun c hc => np0 c (List.mem_cons_of_mem _ (List.mem_cons_of_mem _ hc)))
        have sC := sh3.off n10 O4 np3
        have SSl : ∀ i, i < 3 → (three S0 S0 S0 i).length ≤ 4 := fun i hi => by
          have : i = 0 ∨ i = 1 ∨ i = 2 := by omega
          rcases this with rfl | rfl | rfl <;> exact Sl
        refine ⟨three ⟨x1, fp1, ln1, lt1⟩ ⟨x3, fp3, ln3, lt3⟩ b0, three S0 S0 S0, two q0 q3, rfl, Wd.of ?_ uA (UB.copy (ts := ts) uB sC ?_ ?_ ?_ e5) uB (D1.fr 0 (by decide)) (fun c hc => ?_) W9.fr (fun c => ?_) ?_ ?_ upd_same ?_ ?_, rfl, SSl⟩
        · intro c u e
          refine O4 c u (fun z => ?_) (D10.same c u e)
          rcases List.mem_cons.mp z with q | q
          · rw [q, f4] at e; cases e
          · rw [List.mem_singleton.mp q, f5] at e; cases e
        · rw [upd_ne e1]; exact z1
        · rw [upd_ne e2]; exact z2
        · exact O4 _ _ (np0 b0.lt (by simp [Blk.all])) ht10
        · rcases List.mem_cons.mp hc with z | hc
          · rw [z]; exact D10.same.free (hnone _ j1)
          · rcases List.mem_cons.mp hc with z | hc
            · rw [z]; exact D10.same.free (hnone _ y1)
            · exact D1.same.free (fr10 c hc)
        · have := cnt4 c
          simp only [List.count_append, List.count_cons, Blk.all, List.count_nil] at this ⊢
          omega
        · exact O4 _ _ (np0 f0 (by simp)) W10.hf
        · rw [upd_ne n45]; exact z4
        · exact O4 _ _ (np0 q0 (by simp)) (D10.hq 0 (by decide))
        · rw [upd_ne e3]; exact z3
      · refine ⟨_, _, _, rfl, D1, rfl, fun i hi => ?_⟩
        have : i = 0 ∨ i = 1 ∨ i = 2 := by omega
        rcases this with rfl | rfl | rfl
        · exact Sl
        · exact Nat.zero_le _
        · exact Sl
    · rintro σ H10 ⟨B, SS, q, rfl, D, B2, Sl⟩
      -- thirteen more
      refine ⟨fun σ' H' => ∃ o6 SS, σ' = [some (.ref a), some (.ref b0.a), some (.ref f0), o3, some (.ref p4), some (.ref p5), o6, none, none, none, none, none] ∧ Wd P w K aC H H' B SS f0 p4 p5 q ∧ ∀ i, i < 3 → (SS i).length ≤ 17, ?_, ?_⟩
      · refine ⟨_, rfl, a, ns, 1, rfl, D.same.seq ha, by decide, fun z => ⟨_, _, rfl, rfl, (by show (0 : Int) < 4; decide), rfl, _, rfl, ite2 (fun _ => ?_) (fun _ => ?_)⟩⟩
        · refine ⟨_, rfl, by decide, by decide, for_range (lo := 0) (n := Int.toNat 13) (fun i σ H' => ∃ o6 SS, σ = [some (.ref a), some (.ref b0.a), some (.ref f0), o3, some (.ref p4), some (.ref p5), o6, none, none, none, none, none] ∧ Wd P w K aC H H' B SS f0 p4 p5 q ∧ ∀ j, j < 3 → (SS j).length ≤ 4 + i) ⟨none, SS, rfl, D, Sl⟩ ?_ ?_⟩
          · rintro i σ H' hi ⟨o6, SS, rfl, D, Sl⟩
            have hi : i < 13 := hi
            have hq := D.hq 1 (by decide)
            refine ⟨_, rfl, p4, _, _, _, rfl, rfl, SqL.of D.h4, rfl, _, rfl, p5, _, _, _, rfl, rfl, SqL.of D.h5, rfl, q 1, _, _, _, rfl, rfl, SqL.of hq, rfl, _, rfl, p5, _, _, _, rfl, rfl, SqL.of D.h5, rfl, q 1, _, _, _, rfl, rfl, SqL.of hq, rfl, _, rfl, a, ns, 1, rfl, D.same.seq ha, by decide, fun z2 => ⟨_, _, rfl, rfl, ⟨by decide, by decide⟩, _, rfl, z2 / 4, i, congrArg (fun t : Int => [V.int (z2 / 4), V.int t]) (Int.zero_add _), hi, fun v ls H2 s2 hv g => ?_⟩⟩
            have D' := D.ins s2
            have l1 := Sl 1 (by decide)
            refine ⟨(B 1).a, (B 1).ln, (B 1).lt, (B 1).fp, SS 1, v, ls, rfl, D'.u 1 (by decide), hv, g, by omega, fun H3 S' o u l1 l2 => ⟨_, rfl, iteF (A := False) ⟨_, _, rfl, D'.put (by decide) o u, fun j hj => ?_⟩⟩⟩
            have := Sl j hj
            have l0 := Sl 1 (by decide)
            show (if j = 1 then S' else SS j).length ≤ _
            split <;> omega
          · rintro σ H' ⟨o6, SS, rfl, D, Sl⟩
            exact ⟨o6, SS, rfl, D, Sl⟩
        · exact ⟨none, SS, rfl, D, fun i hi => by have := Sl i hi; omega⟩
      · rintro σ H11 ⟨o6, SS, rfl, D, Sl⟩
        -- the other cells
        refine ⟨fun σ' H' => ∃ o7 o8 o9 o10 SS, σ' = [some (.ref a), some (.ref b0.a), some (.ref f0), o3, some (.ref p4), some (.ref p5), o6, o7, o8, o9, o10, none] ∧ Wd P w K aC H H' B SS f0 p4 p5 q, ?_, ?_⟩
        · refine ⟨_, rfl, a, _, rfl, .inl (D.same.seq ha), 4, _, rfl, ?_, for_range (lo := 4) (n := ((((ns.map V.int).length : Nat) : Int) - 4).toNat) (fun i σ H' => ∃ o7 o8 o9 o10 SS, σ = [some (.ref a), some (.ref b0.a), some (.ref f0), o3, some (.ref p4), some (.ref p5), o6, o7, o8, o9, o10, none] ∧ Wd P w K aC H H' B SS f0 p4 p5 q ∧ ∀ j, j < 3 → (SS j).length ≤ 17 + 2 * i) ⟨none, none, none, none, SS, rfl, D, Sl⟩ ?_ ?_⟩
          · rw [List.length_map]
            exact ⟨by decide, by decide, by omega, by omega⟩
          · rintro i σ H' hi ⟨o7, o8, o9, o10, SS, rfl, D, Sl⟩
            rw [List.length_map] at hi
            obtain ⟨n, _, hn⟩ := at_map (f := V.int) (xs := ns) (i := 4 + (i : Int)) (by omega) (by omega)
            have M := D.same.seq ha
            refine ⟨_, rfl, _, rfl, a, _, _, _, rfl, rfl, M, hn, _, _, rfl, rfl, (by show (0 : Int) < 2; decide), ?_⟩
            refine ⟨_, rfl, _, rfl, a, _, _, _, rfl, rfl, M, hn, _, _, rfl, rfl, ⟨by decide, by decide⟩, _, rfl, fun v ls H2 s2 hv g => ?_⟩
            have z0 : 0 ≤ n % 2 := by omega
            have z1 : n % 2 < 2 := by omega
            have z2 : 0 ≤ 1 - n % 2 := by omega
            have z3 : 1 - n % 2 < 2 := by omega
            have j3 : (n % 2).toNat < 3 := by omega
            have j2 : (n % 2).toNat < 2 := by omega
            have i3 : (1 - n % 2).toNat < 3 := by omega
            have i2 : (1 - n % 2).toNat < 2 := by omega
            have D2 := D.ins s2
            have hq2 := D2.hq _ j2
            have l0 := Sl _ j3
            show tSeq _ _ _ _ H2
            refine ⟨_, rfl, _, rfl, p4, _, _, _, rfl, rfl, SqL.of D2.h4, pick2 (f := fun i => (B i).a) z0 z1, ?_⟩
            refine ⟨_, rfl, _, rfl, p5, _, _, _, rfl, rfl, SqL.of D2.h5, pick2 (f := q) z0 z1, q (n % 2).toNat, _, _, _, rfl, rfl, SqL.of hq2, rfl, ?_⟩
            refine ⟨_, rfl, _, rfl, p5, _, _, _, rfl, rfl, SqL.of D2.h5, pick2 (f := q) z0 z1, q (n % 2).toNat, _, _, _, rfl, rfl, SqL.of hq2, rfl, ?_⟩
            refine ⟨_, rfl, (B (n % 2).toNat).a, (B (n % 2).toNat).ln, (B (n % 2).toNat).lt, (B (n % 2).toNat).fp, SS (n % 2).toNat, v, ls, rfl, D2.u _ j3, hv, g, by omega, fun H3 S3 of3 u3 l1 l2 => ⟨_, rfl, iteF (A := False) ?_⟩⟩
            have D3 := D2.put j3 of3 u3
            have hq3 := D3.hq _ j2
            obtain ⟨ts, ht3, hd3⟩ := u3.ht
            have tl : ts.length = S3.length := by rw [hd3.length, List.length_map]
            have t0 : 0 < ts.length := by omega
            obtain ⟨d, e1, e2⟩ := hd3.get (List.getElem?_eq_getElem t0)
            have hm : S3[0]? = some S3[0] := List.getElem?_eq_getElem l2
            rw [List.getElem?_map, hm] at e1
            have e1 : S3[0].d = d := Option.some.inj e1
            obtain ⟨ls3, g3, ed3⟩ := u3.lf _ (List.getElem_mem l2)
            rw [← e1, ed3] at e2
            show tSeq _ _ _ _ H3
            refine ⟨_, rfl, _, rfl, p4, _, _, _, rfl, rfl, SqL.of D3.h4, pick2 (f := fun i => (B i).a) z0 z1, ?_⟩
            refine ⟨_, rfl, _, rfl, p5, _, _, _, rfl, rfl, SqL.of D3.h5, pick2 (f := q) z0 z1, q (n % 2).toNat, _, _, _, rfl, rfl, SqL.of hq3, rfl, ?_⟩
            refine ⟨_, rfl, _, rfl, p5, _, _, _, rfl, rfl, SqL.of D3.h5, pick2 (f := q) z0 z1, q (n % 2).toNat, _, _, _, rfl, rfl, SqL.of hq3, rfl, ?_⟩
            refine ⟨_, rfl, _, rfl, p5, _, _, _, rfl, rfl, SqL.of D3.h5, pick2 (f := q) z0 z1, q (n % 2).toNat, _, _, _, rfl, rfl, SqL.of hq3, rfl, (B (n % 2).toNat).lt, _, _, _, rfl, rfl, SqL.of ht3, atI_of (n := 0) rfl (List.getElem?_eq_getElem t0), ?_⟩
            refine ⟨(B (n % 2).toNat).a, (B (n % 2).toNat).ln, (B (n % 2).toNat).lt, (B (n % 2).toNat).fp, S3, ts[0], ls3, rfl, u3, e2, g3, by omega, fun H4 S4 of4 u4 l3 l4 => ⟨_, rfl, iteF (A := False) ?_⟩⟩
            have D4 := D3.put j3 of4 u4
            have hq4 := D4.hq _ j2
            have u4 : UB P w K aC H4 (B (n % 2).toNat) S4 := u4
            have hne : (1 - n % 2).toNat ≠ (n % 2).toNat := by omega
            have uI : UB P w K aC H4 (B (1 - n % 2).toNat) (SS (1 - n % 2).toNat) := by
              have := D4.u _ i3
              simpa only [if_neg hne] using this
            obtain ⟨e, he, hlast⟩ := last_nm l4
            obtain ⟨dx, d1, d2, d3, hins⟩ := uI.ins
            show tSeq _ _ _ _ H4
            refine ⟨_, rfl, _, rfl, _, _, rfl, rfl, p5, _, _, _, rfl, rfl, SqL.of D4.h5, pick2 (f := q) z2 z3, q (1 - n % 2).toNat, _, _, _, rfl, rfl, SqL.of (D4.hq _ i2), rfl, ?_⟩
            refine ⟨_, rfl, _, rfl, _, _, rfl, rfl, p4, _, _, _, rfl, rfl, SqL.of D4.h4, pick2 (f := fun i => (B i).a) z2 z3, (B (1 - n % 2).toNat).a, dx, _, rfl, hins, rfl, ?_⟩
            refine ⟨_, rfl, _, rfl, p5, _, _, _, rfl, rfl, SqL.of D4.h5, pick2 (f := q) z0 z1, q (n % 2).toNat, _, _, _, rfl, rfl, SqL.of hq4, rfl, _, rfl, (B (n % 2).toNat).ln, _, _, _, rfl, rfl, SqL.of u4.hn, hlast, ?_⟩
            refine ⟨(B (1 - n % 2).toNat).a, (B (1 - n % 2).toNat).fp, SS (1 - n % 2).toNat, e.nm, rfl, uI.sh, ?_⟩
            refine ⟨_, rfl, _, rfl, p5, _, _, _, rfl, rfl, SqL.of D4.h5, pick2 (f := q) z0 z1, q (n % 2).toNat, _, _, _, rfl, rfl, SqL.of hq4, rfl, _, rfl, (B (n % 2).toNat).ln, _, _, _, rfl, rfl, SqL.of u4.hn, hlast, _, rfl, .str e.nm, _, rfl, uI.names.1, uI.names.2, u4.ok e he, (show 0 ≤ 60 by decide), rfl, false, ?_, iteF (A := False) ?_⟩
            · refine congrArg V.bl ?_
              rw [any_strs]
              cases decide (e.nm ∈ (SS (1 - n % 2).toNat).map En.nm) <;> rfl
            · refine ⟨_, _, _, _, _, rfl, D4, fun k hk => ?_⟩
              have := Sl k hk
              show (if k = (n % 2).toNat then S4 else if k = (n % 2).toNat then S3 else SS k).length ≤ _
              split
              · omega
              · omega
          · rintro σ H' ⟨o7, o8, o9, o10, SS, rfl, D, Sl⟩
            exact ⟨o7, o8, o9, o10, SS, rfl, D⟩
        · rintro σ H12 ⟨o7, o8, o9, o10, SS, rfl, D⟩
          -- all names
          refine ⟨fun σ' H' => ∃ o7 o8 o11, σ' = [some (.ref a), some (.ref b0.a), some (.ref f0), o3, some (.ref p4), some (.ref p5), o6, o7, o8, o9, o10, o11] ∧ Wd P w K aC H H' B SS f0 p4 p5 q, ?_, ?_⟩
          · refine ⟨_, rfl, by decide, by decide, for_range (lo := 0) (n := Int.toNat 2) (fun i σ H' => ∃ o7 o8 o11, σ = [some (.ref a), some (.ref b0.a), some (.ref f0), o3, some (.ref p4), some (.ref p5), o6, o7, o8, o9, o10, o11] ∧ Wd P w K aC H H' B SS f0 p4 p5 q) ⟨o7, o8, none, rfl, D⟩ ?_ ?_⟩
            · rintro i σ H' hi ⟨o7, o8, o11, rfl, D⟩
              have hi : i < 2 := hi
              obtain ⟨z, ez⟩ : ∃ z : Int, z = 0 + (i : Int) := ⟨_, rfl⟩
              have z0 : 0 ≤ z := by omega
              have z1 : z < 2 := by omega
              have j2 : z.toNat < 2 := by omega
              have j3 : z.toNat < 3 := by omega
              rw [← ez]
              have u := D.u _ j3
              have hn : H' (B z.toNat).ln = some (.lst (((SS z.toNat).map En.nm).map V.str)) := by rw [u.hn, List.map_map]; rfl
              have enm : (SS z.toNat).map (fun e => V.str e.nm) = ((SS z.toNat).map En.nm).map V.str := by rw [List.map_map]; rfl
              have okn : ∀ p ∈ (SS z.toNat).map En.nm, PyData.strOk p = true := fun p hp => by
                obtain ⟨f, hf, rfl⟩ := List.mem_map.mp hp
                exact u.ok f hf
              obtain ⟨dx, d1, d2, d3, hins⟩ := u.ins
              have hl := u.sh.good.len
              refine ⟨_, rfl, _, rfl, p4, _, _, _, rfl, rfl, SqL.of D.h4, pick2 (f := fun i => (B i).a) z0 z1, (B z.toNat).a, dx, _, rfl, hins, rfl, (B z.toNat).a, (B z.toNat).fp, SS z.toNat, rfl, u.sh, fun l nl => ?_⟩
              have D1 := D.ins (same_upd (o := .lst ((SS z.toNat).map fun e => V.str e.nm)) nl)
              have w1 := same_upd (o := .lst ((SS z.toNat).map fun e => V.str e.nm)) nl
              refine ⟨_, rfl, _, rfl, _, rfl, p5, _, _, _, rfl, rfl, SqL.of D1.h5, pick2 (f := q) z0 z1, q z.toNat, _, _, _, rfl, rfl, SqL.of (D1.hq _ j2), rfl, l, (B z.toNat).ln, _, rfl, by rw [upd_same, enm], w1 _ _ hn, okn, _, rfl, iteF (A := False) ?_⟩
              refine ⟨_, rfl, .inl ⟨rfl, _, SqL.of upd_same⟩, l, _, _, rfl, rfl, upd_same, lt_line (by rw [List.length_map]; omega), ?_⟩
              have w2 : Same H' (upd (upd H' l (.lst ((SS z.toNat).map fun e => V.str e.nm))) l (.lst ((SS z.toNat).map (fun e => V.str e.nm) ++ [V.str "x"]))) := An.Same.updF w1 nl
              have D2 := D.ins w2
              obtain ⟨H2, e2⟩ : ∃ H2, H2 = upd (upd H' l (.lst ((SS z.toNat).map fun e => V.str e.nm))) l (.lst ((SS z.toNat).map (fun e => V.str e.nm) ++ [V.str "x"])) := ⟨_, rfl⟩
              show tSeq _ _ _ _ (upd (upd H' l (.lst ((SS z.toNat).map fun e => V.str e.nm))) l (.lst ((SS z.toNat).map (fun e => V.str e.nm) ++ [V.str "x"])))
              rw [← e2] at w2 D2 ⊢
              clear e2
              refine ⟨_, rfl, _, rfl, p4, _, _, _, rfl, rfl, SqL.of D2.h4, pick2 (f := fun i => (B i).a) z0 z1, (B z.toNat).a, dx, _, rfl, w2 _ _ hins, rfl, (B z.toNat).a, (B z.toNat).fp, SS z.toNat, rfl, u.sh.same w2, fun l2 nl2 => ?_⟩
              have w3 := same_upd (o := .lst ((SS z.toNat).map fun e => V.str e.nm)) nl2
              have D3 := D2.ins w3
              refine ⟨_, rfl, _, rfl, p5, _, _, _, rfl, rfl, SqL.of D3.h5, pick2 (f := q) z0 z1, q z.toNat, _, _, _, rfl, rfl, SqL.of (D3.hq _ j2), rfl, l2, (B z.toNat).ln, _, rfl, by rw [upd_same, enm], w3 _ _ (w2 _ _ hn), okn, _, rfl, iteF (A := False) ?_⟩
              have w4 := w2.trans w3
              show tNext _ _ (upd H2 l2 (.lst ((SS z.toNat).map fun e => V.str e.nm)))
              generalize upd H2 l2 (.lst ((SS z.toNat).map fun e => V.str e.nm)) = H3 at w3 w4 D3
              have u3 := D3.u _ j3
              have hq3 := D3.hq _ j2
              obtain ⟨ts, ht3, hd3⟩ := u3.ht
              have tl : ts.length = (SS z.toNat).length := by rw [hd3.length, List.length_map]
              have hins3 := w4 _ _ hins
              refine ⟨_, rfl, _, rfl, p5, _, _, _, rfl, rfl, SqL.of D3.h5, pick2 (f := q) z0 z1, q z.toNat, _, _, _, rfl, rfl, SqL.of hq3, rfl, (B z.toNat).ln, _, rfl, .inl (SqL.of u3.hn), _, rfl, by rw [List.length_map]; omega, by rw [List.length_map]; omega, for_range (lo := 0) (n := (((SS z.toNat).map (fun e : En => V.str e.nm)).length : Int).toNat) (fun k σ H4 => ∃ o7, σ = [some (.ref a), some (.ref b0.a), some (.ref f0), o3, some (.ref p4), some (.ref p5), o6, o7, some (.int z), o9, o10, some (.ref l)] ∧ H4 = H3) ⟨_, rfl, rfl⟩ ?_ ?_⟩
              · rintro k σ H4 hk ⟨o7, rfl, rfl⟩
                rw [List.length_map] at hk
                have hk' : k < (SS z.toNat).length := by omega
                obtain ⟨e, ee⟩ : ∃ e, e = (SS z.toNat)[k] := ⟨_, rfl⟩
                have qe : (SS z.toNat)[k]? = some e := by rw [ee]; exact List.getElem?_eq_getElem hk'
                have he := List.mem_of_getElem? qe
                have qt : ts[k]? = some ts[k] := List.getElem?_eq_getElem (by omega)
                obtain ⟨d, y1, y2⟩ := hd3.get qt
                rw [List.getElem?_map, qe] at y1
                have y1 : e.d = d := Option.some.inj y1
                subst y1
                have hnk : atI ((SS z.toNat).map fun e => V.str e.nm) (0 + (k : Int)) = some (V.str e.nm) := atI_of (n := k) (by omega) (by rw [List.getElem?_map, qe]; rfl)
                have htk : atI ts (0 + (k : Int)) = some ts[k] := atI_of (n := k) (by omega) qt
                obtain ⟨ls, gl, ed⟩ := u3.lf e he
                have shp : SeqAt.shaped e.d = true := by rw [ed]; exact shaped_dat (leaf_good gl)
                have ev : PyData.eqv e.d e.d = true := by
                  rw [eqv_dec _ _ (u3.sh.good.ent e he).key.1 (u3.sh.good.ent e he).key.1]
                  exact decide_eq_true rfl
                refine ⟨_, rfl, _, rfl, p4, _, _, _, rfl, rfl, SqL.of D3.h4, pick2 (f := fun i => (B i).a) z0 z1, (B z.toNat).a, dx, _, rfl, hins3, rfl, ?_⟩
                refine ⟨_, rfl, _, rfl, p5, _, _, _, rfl, rfl, SqL.of D3.h5, pick2 (f := q) z0 z1, q z.toNat, _, _, _, rfl, rfl, SqL.of hq3, rfl, _, rfl, (B z.toNat).ln, _, _, _, rfl, rfl, SqL.of u3.hn, hnk, ?_⟩
                refine ⟨(B z.toNat).a, (B z.toNat).fp, SS z.toNat, e, rfl, u3.sh, he, fun t ht => ?_⟩
                refine ⟨_, rfl, _, rfl, p5, _, _, _, rfl, rfl, SqL.of D3.h5, pick2 (f := q) z0 z1, q z.toNat, _, _, _, rfl, rfl, SqL.of hq3, rfl, _, rfl, (B z.toNat).lt, _, _, _, rfl, rfl, SqL.of ht3, htk, e.d, e.d, ht, y2, shp, shp, false, congrArg V.bl (by rw [ev]; rfl), iteF (A := False) ⟨_, rfl, rfl⟩⟩
              · rintro σ H4 ⟨o7, rfl, rfl⟩
                exact ⟨_, _, _, rfl, D3⟩
            · rintro σ H' ⟨o7, o8, o11, rfl, D⟩
              exact ⟨o7, o8, o11, rfl, D⟩
          · rintro σ H13 ⟨o7, o8, o11, rfl, D⟩
            have hb := D.u 2 (by decide)
            have hf := D.hf
            rw [B2] at hb hf
            obtain ⟨dx, d1, d2, d3, hins⟩ := hb.ins
            refine ⟨_, rfl, b0.a, dx, _, rfl, hins, rfl, b0.a, b0.fp, SS 2, rfl, hb.sh, fun l nl => ?_⟩
            have w1 := same_upd (o := .lst ((SS 2).map fun e => V.str e.nm)) nl
            refine ⟨_, rfl, f0, _, _, _, rfl, rfl, SqL.of (w1 _ _ hf), rfl, l, b0.ln, (SS 2).map En.nm, rfl, by rw [upd_same, List.map_map]; rfl, w1 _ _ (by rw [hb.hn, List.map_map]; rfl), fun p hp => ?_, kQ _⟩
            obtain ⟨f, hf, rfl⟩ := List.mem_map.mp hp
            exact hb.ok f hf
end g_law
end
end An03

namespace An03
open PySem L2 An
theorem kd_of {P : Program} {w : World} {K : PySem.W.Frag} {a : Addr} {t1 u1 t2 u2 t3 u3 : Tok} {n : Nat} (h : K.lookup a = some { cls := .type "dict", data := .dict #[⟨PyData.keyHash w.params "leaf", .str "leaf" t1, .str "L" u1⟩, ⟨PyData.keyHash w.params "tree", .str "tree" t2, .str "T" u2⟩, ⟨PyData.keyHash w.params "note", .str "note" t3, .str "N" u3⟩] n }) :
    KD P w K a lettersKvs := by
  intro hp X
  refine ⟨[(Sum.inr "leaf", .str "L" u1), (Sum.inr "tree", .str "T" u2), (Sum.inr "note", .str "N" u3)], .cons ⟨rfl, u1, rfl⟩ (.cons ⟨rfl, u2, rfl⟩ (.cons ⟨rfl, u3, rfl⟩ .nil)), _, _, n, X a _ h, ⟨rfl, rfl, rfl⟩, rfl, ?_, ?_, ?_⟩
  · intro e he
    have he : e ∈ [(⟨PyData.keyHash w.params "leaf", .str "leaf" t1, .str "L" u1⟩ : DictEntry), ⟨PyData.keyHash w.params "tree", .str "tree" t2, .str "T" u2⟩, ⟨PyData.keyHash w.params "note", .str "note" t3, .str "N" u3⟩] := by simpa using he
    rcases List.mem_cons.mp he with z | z
    · subst z; exact ⟨Sum.inr "leaf", keyIs_str _ t1, rfl⟩
    · rcases List.mem_cons.mp z with z | z
      · subst z; exact ⟨Sum.inr "tree", keyIs_str _ t2, rfl⟩
      · rw [List.mem_singleton.mp z]; exact ⟨Sum.inr "note", keyIs_str _ t3, rfl⟩
  · exact .cons (keyIs_str _ t1) rfl (.cons (keyIs_str _ t2) rfl (.cons (keyIs_str _ t3) rfl .nil))
  · show ([Sum.inr "leaf", Sum.inr "tree", Sum.inr "note"] : List Key).Nodup
    decide +kernel
set_option maxHeartbeats 0 in
theorem all_mk {l : PySem.W.OpenLaw} {w : World} {K : PySem.W.Frag} {h : Heap} {mg : Str → Option Value} {fa : Addr} {t1 t2 t3 t4 : Tok} {aL aC aN aT : Addr} (X : K.In h) (G : h.Ns mainGlobals mg) (hfa : mg "law" = some (.ref fa))
    (z_len : PySem.W.nsIn K mainGlobals "len" = some none)
    (z_all : PySem.W.nsIn K mainGlobals "all" = some none)
    (z_ord : PySem.W.nsIn K mainGlobals "ord" = some none)
    (z_isinstance : PySem.W.nsIn K mainGlobals "isinstance" = some none)
    (z_str : PySem.W.nsIn K mainGlobals "str" = some none)
    (z_tuple : PySem.W.nsIn K mainGlobals "tuple" = some none)
    (z_list : PySem.W.nsIn K mainGlobals "list" = some none)
    (z_max : PySem.W.nsIn K mainGlobals "max" = some none)
    (z_int : PySem.W.nsIn K mainGlobals "int" = some none)
    (z_bool : PySem.W.nsIn K mainGlobals "bool" = some none)
    (z_range : PySem.W.nsIn K mainGlobals "range" = some none)
    (z_LONGEST_LINE : PySem.W.nsIn K mainGlobals "LONGEST_LINE" = some (some (.int 20 t1)))
    (z_PERCENT : PySem.W.nsIn K mainGlobals "PERCENT" = some (some (.int 37 t2)))
    (z_DIGEST_FACTOR : PySem.W.nsIn K mainGlobals "DIGEST_FACTOR" = some (some (.int 31 t3)))
    (z_DIGEST_BOUND : PySem.W.nsIn K mainGlobals "DIGEST_BOUND" = some (some (.int 97 t4)))
    (z_LETTERS : PySem.W.nsIn K mainGlobals "LETTERS" = some (some (.ref aL)))
    (z_NoName : PySem.W.nsIn K mainGlobals "NoName" = some (some (.ref aN)))
    (z_NoThing : PySem.W.nsIn K mainGlobals "NoThing" = some (some (.ref aT)))
    (z_Shelf : PySem.W.nsIn K mainGlobals "Shelf" = some (some (.ref aC)))
    (s_xNoName : PySem.W.excIn K aN mroVE "ValueError.__new__" = true)
    (s_xNoThing : PySem.W.excIn K aT mroVE "ValueError.__new__" = true)
    (s_kd : KD l.prog w K aL lettersKvs)
    (pg_aC : PySem.W.plainGet K aC Str.empty = true)
    (hd_aC : PySem.W.hasDictIn K aC = true)
    (po_aC : PySem.W.plainOver K aC = true)
    (sa_aC : PySem.W.findIn K (.ref aC) "__setattr__" = some (some (.builtin "object.__setattr__")))
    (mk_aC : PySem.W.makesIn K aC = true)
    (kc_aC : PySem.W.keepIn K (.ref aC) = true)
    (s_n1 : PySem.W.findIn K (.ref aC) "thing_by_name" = some none)
    (s_n2 : PySem.W.findIn K (.ref aC) "name_by_thing" = some none)
    (s_n3 : PySem.W.findIn K (.ref aC) "next_numbers" = some none)
    (s_kit : ∀ a ∈ kinds, ∀ b ∈ kinds, PySem.W.kitOne K (.type a) (.type b) = some (a == b || (a == "bool" && b == "int")))
    {f0 f1 f2 f3 f4 f5 f6 f7 f8 f9 f10 f11 f12 f13 f14 f15 f16 f17 f18 f19 f20 f21 f22 f23 f24 f25 f26 f27 f28 f29 f30 f31 f32 : Addr} {od0 an0 od1 an1 od2 an2 od3 an3 od4 an4 od5 an5 od6 an6 od7 an7 od8 an8 od9 an9 od10 an10 od11 an11 od12 an12 od13 an13 od14 an14 od15 an15 od16 an16 od17 an17 od18 an18 od19 an19 od20 an20 od21 an21 od22 an22 od23 an23 od24 an24 od25 an25 od26 an26 od27 an27 od28 an28 od29 an29 od30 an30 od31 an31 od32 an32 : Option Addr} {sl0 sl1 sl2 sl3 sl4 sl5 sl6 sl7 sl8 sl9 sl10 sl11 sl12 sl13 sl14 sl15 sl16 sl17 sl18 sl19 sl20 sl21 sl22 sl23 sl24 sl25 sl26 sl27 sl28 sl29 sl30 sl31 sl32 : Array (Option Value)} {oc0 kV0 dc0 pm0 cd0 ct0 oc1 kV1 dc1 pm1 cd1 ct1 oc2 kV2 dc2 pm2 cd2 ct2 oc3 kV3 dc3 pm3 cd3 ct3 oc4 kV4 dc4 pm4 cd4 ct4 oc5 kV5 dc5 pm5 cd5 ct5 oc6 kV6 dc6 pm6 cd6 ct6 oc7 kV7 dc7 pm7 cd7 ct7 oc8 kV8 dc8 pm8 cd8 ct8 oc9 kV9 dc9 pm9 cd9 ct9 oc10 kV10 dc10 pm10 cd10 ct10 oc11 kV11 dc11 pm11 cd11 ct11 oc12 kV12 dc12 pm12 cd12 ct12 oc13 kV13 dc13 pm13 cd13 ct13 oc14 kV14 dc14 pm14 cd14 ct14 oc15 kV15 dc15 pm15 cd15 ct15 oc16 kV16 dc16 pm16 cd16 ct16 oc17 kV17 dc17 pm17 cd17 ct17 oc18 kV18 dc18 pm18 cd18 ct18 oc19 kV19 dc19 pm19 cd19 ct19 oc20 kV20 dc20 pm20 cd20 ct20 oc21 kV21 dc21 pm21 cd21 ct21 oc22 kV22 dc22 pm22 cd22 ct22 oc23 kV23 dc23 pm23 cd23 ct23 oc24 kV24 dc24 pm24 cd24 ct24 oc25 kV25 dc25 pm25 cd25 ct25 oc26 kV26 dc26 pm26 cd26 ct26 oc27 kV27 dc27 pm27 cd27 ct27 oc28 kV28 dc28 pm28 cd28 ct28 oc29 kV29 dc29 pm29 cd29 ct29 oc30 kV30 dc30 pm30 cd30 ct30 oc31 kV31 dc31 pm31 cd31 ct31 oc32 kV32 dc32 pm32 cd32 ct32 : Value}
    (a0 : PySem.W.findIn K (.ref aC) "names" = some (some (.ref f0)))
    (i0 : PySem.W.isFn K (.ref f0) = true)
    (l0 : K.lookup f0 = some ⟨oc0, od0, .func (PySem.W.fnOf "names" "Shelf.names" (defArgs s_names.st) (defBody s_names.st) (defScope s_names.st) .none kV0 dc0 pm0 an0 cd0 ct0), sl0⟩)
    (c0 : PySem.W.codeIn K cd0 "Shelf.names" = true)
    (k0 : PySem.W.keepIn K (.ref f0) = true)
    (a1 : PySem.W.findIn K (.ref aC) "take" = some (some (.ref f1)))
    (i1 : PySem.W.isFn K (.ref f1) = true)
    (l1 : K.lookup f1 = some ⟨oc1, od1, .func (PySem.W.fnOf "take" "Shelf.take" (defArgs s_take.st) (defBody s_take.st) (defScope s_take.st) .none kV1 dc1 pm1 an1 cd1 ct1), sl1⟩)
    (c1 : PySem.W.codeIn K cd1 "Shelf.take" = true)
    (k1 : PySem.W.keepIn K (.ref f1) = true)
    (a2 : PySem.W.nsIn K mainGlobals "is_key" = some (some (.ref f2)))
    (l2 : K.lookup f2 = some ⟨oc2, od2, .func (PySem.W.fnOf "is_key" "is_key" (defArgs s_key.st) (defBody s_key.st) (defScope s_key.st) .none kV2 dc2 pm2 an2 cd2 ct2), sl2⟩)
    (c2 : PySem.W.codeIn K cd2 "is_key" = true)
    (k2 : PySem.W.keepIn K (.ref f2) = true)
    (a3 : PySem.W.findIn K (.ref aC) "has" = some (some (.ref f3)))
    (i3 : PySem.W.isFn K (.ref f3) = true)
    (l3 : K.lookup f3 = some ⟨oc3, od3, .func (PySem.W.fnOf "has" "Shelf.has" (defArgs s_has.st) (defBody s_has.st) (defScope s_has.st) .none kV3 dc3 pm3 an3 cd3 ct3), sl3⟩)
    (c3 : PySem.W.codeIn K cd3 "Shelf.has" = true)
    (k3 : PySem.W.keepIn K (.ref f3) = true)
    (a4 : PySem.W.nsIn K mainGlobals "need_name" = some (some (.ref f4)))
    (l4 : K.lookup f4 = some ⟨oc4, od4, .func (PySem.W.fnOf "need_name" "need_name" (defArgs s_nname.st) (defBody s_nname.st) (defScope s_nname.st) .none kV4 dc4 pm4 an4 cd4 ct4), sl4⟩)
    (c4 : PySem.W.codeIn K cd4 "need_name" = true)
    (k4 : PySem.W.keepIn K (.ref f4) = true)
    (a5 : PySem.W.findIn K (.ref aC) "thing" = some (some (.ref f5)))
    (i5 : PySem.W.isFn K (.ref f5) = true)
    (l5 : K.lookup f5 = some ⟨oc5, od5, .func (PySem.W.fnOf "thing" "Shelf.thing" (defArgs s_thing.st) (defBody s_thing.st) (defScope s_thing.st) .none kV5 dc5 pm5 an5 cd5 ct5), sl5⟩)
    (c5 : PySem.W.codeIn K cd5 "Shelf.thing" = true)
    (k5 : PySem.W.keepIn K (.ref f5) = true)
    (a6 : PySem.W.findIn K (.ref aC) "__init__" = some (some (.ref f6)))
    (i6 : PySem.W.isFn K (.ref f6) = true)
    (l6 : K.lookup f6 = some ⟨oc6, od6, .func (PySem.W.fnOf "__init__" "Shelf.__init__" (defArgs s_init.st) (defBody s_init.st) (defScope s_init.st) .none kV6 dc6 pm6 an6 cd6 ct6), sl6⟩)
    (c6 : PySem.W.codeIn K cd6 "Shelf.__init__" = true)
    (k6 : PySem.W.keepIn K (.ref f6) = true)
    (a7 : PySem.W.nsIn K mainGlobals "_law_digest" = some (some (.ref f7)))
    (l7 : K.lookup f7 = some ⟨oc7, od7, .func (PySem.W.fnOf "_law_digest" "_law_digest" (defArgs g_digest.st) (defBody g_digest.st) (defScope g_digest.st) .none kV7 dc7 pm7 an7 cd7 ct7), sl7⟩)
    (c7 : PySem.W.codeIn K cd7 "_law_digest" = true)
    (k7 : PySem.W.keepIn K (.ref f7) = true)
    (a8 : PySem.W.nsIn K mainGlobals "_law_spelled" = some (some (.ref f8)))
    (l8 : K.lookup f8 = some ⟨oc8, od8, .func (PySem.W.fnOf "_law_spelled" "_law_spelled" (defArgs g_spelled.st) (defBody g_spelled.st) (defScope g_spelled.st) .none kV8 dc8 pm8 an8 cd8 ct8), sl8⟩)
    (c8 : PySem.W.codeIn K cd8 "_law_spelled" = true)
    (k8 : PySem.W.keepIn K (.ref f8) = true)
    (a9 : PySem.W.nsIn K mainGlobals "_law_due" = some (some (.ref f9)))
    (l9 : K.lookup f9 = some ⟨oc9, od9, .func (PySem.W.fnOf "_law_due" "_law_due" (defArgs g_due.st) (defBody g_due.st) (defScope g_due.st) .none kV9 dc9 pm9 an9 cd9 ct9), sl9⟩)
    (c9 : PySem.W.codeIn K cd9 "_law_due" = true)
    (k9 : PySem.W.keepIn K (.ref f9) = true)
    (a10 : PySem.W.nsIn K mainGlobals "is_sign" = some (some (.ref f10)))
    (l10 : K.lookup f10 = some ⟨oc10, od10, .func (PySem.W.fnOf "is_sign" "is_sign" (defArgs f_is_sign.st) (defBody f_is_sign.st) (defScope f_is_sign.st) .none kV10 dc10 pm10 an10 cd10 ct10), sl10⟩)
    (c10 : PySem.W.codeIn K cd10 "is_sign" = true)
    (k10 : PySem.W.keepIn K (.ref f10) = true)
    (a11 : PySem.W.nsIn K mainGlobals "is_line" = some (some (.ref f11)))
    (l11 : K.lookup f11 = some ⟨oc11, od11, .func (PySem.W.fnOf "is_line" "is_line" (defArgs f_is_line.st) (defBody f_is_line.st) (defScope f_is_line.st) .none kV11 dc11 pm11 an11 cd11 ct11), sl11⟩)
    (c11 : PySem.W.codeIn K cd11 "is_line" = true)
    (k11 : PySem.W.keepIn K (.ref f11) = true)
    (a12 : PySem.W.nsIn K mainGlobals "is_lines" = some (some (.ref f12)))
    (l12 : K.lookup f12 = some ⟨oc12, od12, .func (PySem.W.fnOf "is_lines" "is_lines" (defArgs f_is_lines.st) (defBody f_is_lines.st) (defScope f_is_lines.st) .none kV12 dc12 pm12 an12 cd12 ct12), sl12⟩)
    (c12 : PySem.W.codeIn K cd12 "is_lines" = true)
    (k12 : PySem.W.keepIn K (.ref f12) = true)
    (a13 : PySem.W.nsIn K mainGlobals "is_leaf" = some (some (.ref f13)))
    (l13 : K.lookup f13 = some ⟨oc13, od13, .func (PySem.W.fnOf "is_leaf" "is_leaf" (defArgs p_leaf.st) (defBody p_leaf.st) (defScope p_leaf.st) .none kV13 dc13 pm13 an13 cd13 ct13), sl13⟩)
    (c13 : PySem.W.codeIn K cd13 "is_leaf" = true)
    (k13 : PySem.W.keepIn K (.ref f13) = true)
    (a14 : PySem.W.nsIn K mainGlobals "is_tree" = some (some (.ref f14)))
    (l14 : K.lookup f14 = some ⟨oc14, od14, .func (PySem.W.fnOf "is_tree" "is_tree" (defArgs n_tree.st) (defBody n_tree.st) (defScope n_tree.st) .none kV14 dc14 pm14 an14 cd14 ct14), sl14⟩)
    (c14 : PySem.W.codeIn K cd14 "is_tree" = true)
    (k14 : PySem.W.keepIn K (.ref f14) = true)
    (a15 : PySem.W.nsIn K mainGlobals "is_note" = some (some (.ref f15)))
    (l15 : K.lookup f15 = some ⟨oc15, od15, .func (PySem.W.fnOf "is_note" "is_note" (defArgs n_note.st) (defBody n_note.st) (defScope n_note.st) .none kV15 dc15 pm15 an15 cd15 ct15), sl15⟩)
    (c15 : PySem.W.codeIn K cd15 "is_note" = true)
    (k15 : PySem.W.keepIn K (.ref f15) = true)
    (a16 : PySem.W.nsIn K mainGlobals "is_thing" = some (some (.ref f16)))
    (l16 : K.lookup f16 = some ⟨oc16, od16, .func (PySem.W.fnOf "is_thing" "is_thing" (defArgs p_thing.st) (defBody p_thing.st) (defScope p_thing.st) .none kV16 dc16 pm16 an16 cd16 ct16), sl16⟩)
    (c16 : PySem.W.codeIn K cd16 "is_thing" = true)
    (k16 : PySem.W.keepIn K (.ref f16) = true)
    (a17 : PySem.W.nsIn K mainGlobals "need_thing" = some (some (.ref f17)))
    (l17 : K.lookup f17 = some ⟨oc17, od17, .func (PySem.W.fnOf "need_thing" "need_thing" (defArgs p_need.st) (defBody p_need.st) (defScope p_need.st) .none kV17 dc17 pm17 an17 cd17 ct17), sl17⟩)
    (c17 : PySem.W.codeIn K cd17 "need_thing" = true)
    (k17 : PySem.W.keepIn K (.ref f17) = true)
    (a18 : PySem.W.findIn K (.ref aC) "need_form" = some (some (.ref f18)))
    (i18 : PySem.W.isFn K (.ref f18) = true)
    (l18 : K.lookup f18 = some ⟨oc18, od18, .func (PySem.W.fnOf "need_form" "Shelf.need_form" (defArgs n_form.st) (defBody n_form.st) (defScope n_form.st) .none kV18 dc18 pm18 an18 cd18 ct18), sl18⟩)
    (c18 : PySem.W.codeIn K cd18 "Shelf.need_form" = true)
    (k18 : PySem.W.keepIn K (.ref f18) = true)
    (a19 : PySem.W.findIn K (.ref aC) "need_names" = some (some (.ref f19)))
    (i19 : PySem.W.isFn K (.ref f19) = true)
    (l19 : K.lookup f19 = some ⟨oc19, od19, .func (PySem.W.fnOf "need_names" "Shelf.need_names" (defArgs s_need.st) (defBody s_need.st) (defScope s_need.st) .none kV19 dc19 pm19 an19 cd19 ct19), sl19⟩)
    (c19 : PySem.W.codeIn K cd19 "Shelf.need_names" = true)
    (k19 : PySem.W.keepIn K (.ref f19) = true)
    (a20 : PySem.W.nsIn K mainGlobals "letter_of" = some (some (.ref f20)))
    (l20 : K.lookup f20 = some ⟨oc20, od20, .func (PySem.W.fnOf "letter_of" "letter_of" (defArgs f_letter_of.st) (defBody f_letter_of.st) (defScope f_letter_of.st) .none kV20 dc20 pm20 an20 cd20 ct20), sl20⟩)
    (c20 : PySem.W.codeIn K cd20 "letter_of" = true)
    (k20 : PySem.W.keepIn K (.ref f20) = true)
    (a21 : PySem.W.nsIn K mainGlobals "tree_parts" = some (some (.ref f21)))
    (l21 : K.lookup f21 = some ⟨oc21, od21, .func (PySem.W.fnOf "tree_parts" "tree_parts" (defArgs f_tree_parts.st) (defBody f_tree_parts.st) (defScope f_tree_parts.st) .none kV21 dc21 pm21 an21 cd21 ct21), sl21⟩)
    (c21 : PySem.W.codeIn K cd21 "tree_parts" = true)
    (k21 : PySem.W.keepIn K (.ref f21) = true)
    (a22 : PySem.W.nsIn K mainGlobals "parts_of" = some (some (.ref f22)))
    (l22 : K.lookup f22 = some ⟨oc22, od22, .func (PySem.W.fnOf "parts_of" "parts_of" (defArgs f_parts_of.st) (defBody f_parts_of.st) (defScope f_parts_of.st) .none kV22 dc22 pm22 an22 cd22 ct22), sl22⟩)
    (c22 : PySem.W.codeIn K cd22 "parts_of" = true)
    (k22 : PySem.W.keepIn K (.ref f22) = true)
    (a23 : PySem.W.nsIn K mainGlobals "counted" = some (some (.ref f23)))
    (l23 : K.lookup f23 = some ⟨oc23, od23, .func (PySem.W.fnOf "counted" "counted" (defArgs f_counted.st) (defBody f_counted.st) (defScope f_counted.st) .none kV23 dc23 pm23 an23 cd23 ct23), sl23⟩)
    (c23 : PySem.W.codeIn K cd23 "counted" = true)
    (k23 : PySem.W.keepIn K (.ref f23) = true)
    (a24 : PySem.W.nsIn K mainGlobals "spelled" = some (some (.ref f24)))
    (l24 : K.lookup f24 = some ⟨oc24, od24, .func (PySem.W.fnOf "spelled" "spelled" (defArgs f_spelled.st) (defBody f_spelled.st) (defScope f_spelled.st) .none kV24 dc24 pm24 an24 cd24 ct24), sl24⟩)
    (c24 : PySem.W.codeIn K cd24 "spelled" = true)
    (k24 : PySem.W.keepIn K (.ref f24) = true)
    (a25 : PySem.W.nsIn K mainGlobals "digest" = some (some (.ref f25)))
    (l25 : K.lookup f25 = some ⟨oc25, od25, .func (PySem.W.fnOf "digest" "digest" (defArgs f_digest.st) (defBody f_digest.st) (defScope f_digest.st) .none kV25 dc25 pm25 an25 cd25 ct25), sl25⟩)
    (c25 : PySem.W.codeIn K cd25 "digest" = true)
    (k25 : PySem.W.keepIn K (.ref f25) = true)
    (a26 : PySem.W.findIn K (.ref aC) "put" = some (some (.ref f26)))
    (i26 : PySem.W.isFn K (.ref f26) = true)
    (l26 : K.lookup f26 = some ⟨oc26, od26, .func (PySem.W.fnOf "put" "Shelf.put" (defArgs s_put.st) (defBody s_put.st) (defScope s_put.st) .none kV26 dc26 pm26 an26 cd26 ct26), sl26⟩)
    (c26 : PySem.W.codeIn K cd26 "Shelf.put" = true)
    (k26 : PySem.W.keepIn K (.ref f26) = true)
    (a27 : PySem.W.nsIn K mainGlobals "_law_put" = some (some (.ref f27)))
    (l27 : K.lookup f27 = some ⟨oc27, od27, .func (PySem.W.fnOf "_law_put" "_law_put" (defArgs g_put.st) (defBody g_put.st) (defScope g_put.st) .none kV27 dc27 pm27 an27 cd27 ct27), sl27⟩)
    (c27 : PySem.W.codeIn K cd27 "_law_put" = true)
    (k27 : PySem.W.keepIn K (.ref f27) = true)
    (a28 : PySem.W.nsIn K mainGlobals "_law_leaf_by" = some (some (.ref f28)))
    (l28 : K.lookup f28 = some ⟨oc28, od28, .func (PySem.W.fnOf "_law_leaf_by" "_law_leaf_by" (defArgs g_leaf.st) (defBody g_leaf.st) (defScope g_leaf.st) .none kV28 dc28 pm28 an28 cd28 ct28), sl28⟩)
    (c28 : PySem.W.codeIn K cd28 "_law_leaf_by" = true)
    (k28 : PySem.W.keepIn K (.ref f28) = true)
    (a29 : PySem.W.nsIn K mainGlobals "_law_kin_by" = some (some (.ref f29)))
    (l29 : K.lookup f29 = some ⟨oc29, od29, .func (PySem.W.fnOf "_law_kin_by" "_law_kin_by" (defArgs g_kin.st) (defBody g_kin.st) (defScope g_kin.st) .none kV29 dc29 pm29 an29 cd29 ct29), sl29⟩)
    (c29 : PySem.W.codeIn K cd29 "_law_kin_by" = true)
    (k29 : PySem.W.keepIn K (.ref f29) = true)
    (a30 : PySem.W.nsIn K mainGlobals "_law_cell_at" = some (some (.ref f30)))
    (l30 : K.lookup f30 = some ⟨oc30, od30, .func (PySem.W.fnOf "_law_cell_at" "_law_cell_at" (defArgs h_cell.st) (defBody h_cell.st) (defScope h_cell.st) .none kV30 dc30 pm30 an30 cd30 ct30), sl30⟩)
    (c30 : PySem.W.codeIn K cd30 "_law_cell_at" = true)
    (k30 : PySem.W.keepIn K (.ref f30) = true)
    (a31 : PySem.W.nsIn K mainGlobals "_law_listed" = some (some (.ref f31)))
    (l31 : K.lookup f31 = some ⟨oc31, od31, .func (PySem.W.fnOf "_law_listed" "_law_listed" (defArgs g_listed.st) (defBody g_listed.st) (defScope g_listed.st) .none kV31 dc31 pm31 an31 cd31 ct31), sl31⟩)
    (c31 : PySem.W.codeIn K cd31 "_law_listed" = true)
    (k31 : PySem.W.keepIn K (.ref f31) = true)
    (a32 : PySem.W.nsIn K mainGlobals "law" = some (some (.ref f32)))
    (l32 : K.lookup f32 = some ⟨oc32, od32, .func (PySem.W.fnOf "law" "law" (defArgs g_law.st) (defBody g_law.st) (defScope g_law.st) .none kV32 dc32 pm32 an32 cd32 ct32), sl32⟩)
    (c32 : PySem.W.codeIn K cd32 "law" = true)
    (k32 : PySem.W.keepIn K (.ref f32) = true) :
    ∃ fd : FuncData, (∀ (s : Shared) (v : Value), BindsTo s fd ⟨[v], []⟩ [("_law_script", v)]) ∧ ∀ base : Heap, K.In base → base.Ns mainGlobals mg → FnOk l.prog w K mg base CX0 9 fa fd ["_law_script"] (spLaw K) := by
  have e := hfa.symm.trans (PySem.W.mg_of X G a32)
  cases e
  have T : Txt l.prog w K mg t1 t2 t3 t4 aL aC aN aT := ⟨PySem.W.mg_none_of X G z_len, PySem.W.mg_none_of X G z_all, PySem.W.mg_none_of X G z_ord, PySem.W.mg_none_of X G z_isinstance, PySem.W.mg_none_of X G z_str, PySem.W.mg_none_of X G z_tuple, PySem.W.mg_none_of X G z_list, PySem.W.mg_none_of X G z_max, PySem.W.mg_none_of X G z_int, PySem.W.mg_none_of X G z_bool, PySem.W.mg_none_of X G z_range, PySem.W.mg_of X G z_LONGEST_LINE, PySem.W.mg_of X G z_PERCENT, PySem.W.mg_of X G z_DIGEST_FACTOR, PySem.W.mg_of X G z_DIGEST_BOUND, PySem.W.mg_of X G z_LETTERS, PySem.W.mg_of X G z_NoName, PySem.W.mg_of X G z_NoThing, PySem.W.mg_of X G z_Shelf, s_xNoName, s_xNoThing, s_kd, ⟨pg_aC, hd_aC, po_aC, sa_aC⟩, s_n1, s_n2, s_n3, s_kit⟩
  have F0 := fun_mk (st := s_names.st) l0 c0 k0
  have b0 := F0.binds (ps := ["self"]) fun _ _ _ _ _ _ us hl => match us, hl with | [_], _ => rfl
  have F1 := fun_mk (st := s_take.st) l1 c1 k1
  have b1 := F1.binds (ps := ["self", "name", "thing"]) fun _ _ _ _ _ _ us hl => match us, hl with | [_, _, _], _ => rfl
  have F2 := fun_mk (st := s_key.st) l2 c2 k2
  have b2 := F2.binds (ps := ["table", "thing"]) fun _ _ _ _ _ _ us hl => match us, hl with | [_, _], _ => rfl
  have F3 := fun_mk (st := s_has.st) l3 c3 k3
  have b3 := F3.binds (ps := ["self", "name"]) fun _ _ _ _ _ _ us hl => match us, hl with | [_, _], _ => rfl
  have F4 := fun_mk (st := s_nname.st) l4 c4 k4
  have b4 := F4.binds (ps := ["store", "name"]) fun _ _ _ _ _ _ us hl => match us, hl with | [_, _], _ => rfl
  have F5 := fun_mk (st := s_thing.st) l5 c5 k5
  have b5 := F5.binds (ps := ["self", "name"]) fun _ _ _ _ _ _ us hl => match us, hl with | [_, _], _ => rfl
  have F6 := fun_mk (st := s_init.st) l6 c6 k6
  have b6 := F6.binds (ps := ["self", "base"]) fun _ _ _ _ _ _ us hl => match us, hl with | [_, _], _ => rfl
  have F7 := fun_mk (st := g_digest.st) l7 c7 k7
  have b7 := F7.binds (ps := ["_law_text"]) fun _ _ _ _ _ _ us hl => match us, hl with | [_], _ => rfl
  have F8 := fun_mk (st := g_spelled.st) l8 c8 k8
  have b8 := F8.binds (ps := ["_law_thing"]) fun _ _ _ _ _ _ us hl => match us, hl with | [_], _ => rfl
  have F9 := fun_mk (st := g_due.st) l9 c9 k9
  have b9 := F9.binds (ps := ["_law_names", "_law_things", "_law_thing"]) fun _ _ _ _ _ _ us hl => match us, hl with | [_, _, _], _ => rfl
  have F10 := fun_mk (st := f_is_sign.st) l10 c10 k10
  have b10 := F10.binds (ps := ["sign"]) fun _ _ _ _ _ _ us hl => match us, hl with | [_], _ => rfl
  have F11 := fun_mk (st := f_is_line.st) l11 c11 k11
  have b11 := F11.binds (ps := ["thing"]) fun _ _ _ _ _ _ us hl => match us, hl with | [_], _ => rfl
  have F12 := fun_mk (st := f_is_lines.st) l12 c12 k12
  have b12 := F12.binds (ps := ["thing"]) fun _ _ _ _ _ _ us hl => match us, hl with | [_], _ => rfl
  have F13 := fun_mk (st := p_leaf.st) l13 c13 k13
  have b13 := F13.binds (ps := ["word", "parts"]) fun _ _ _ _ _ _ us hl => match us, hl with | [_, _], _ => rfl
  have F14 := fun_mk (st := n_tree.st) l14 c14 k14
  have b14 := F14.binds (ps := ["word", "parts"]) fun _ _ _ _ _ _ us hl => match us, hl with | [_, _], _ => rfl
  have F15 := fun_mk (st := n_note.st) l15 c15 k15
  have b15 := F15.binds (ps := ["word", "parts"]) fun _ _ _ _ _ _ us hl => match us, hl with | [_, _], _ => rfl
  have F16 := fun_mk (st := p_thing.st) l16 c16 k16
  have b16 := F16.binds (ps := ["thing"]) fun _ _ _ _ _ _ us hl => match us, hl with | [_], _ => rfl
  have F17 := fun_mk (st := p_need.st) l17 c17 k17
  have b17 := F17.binds (ps := ["thing"]) fun _ _ _ _ _ _ us hl => match us, hl with | [_], _ => rfl
  have F18 := fun_mk (st := n_form.st) l18 c18 k18
  have b18 := F18.binds (ps := ["self", "name", "forms"]) fun _ _ _ _ _ _ us hl => match us, hl with | [_, _, _], _ => rfl
  have F19 := fun_mk (st := s_need.st) l19 c19 k19
  have b19 := F19.binds (ps := ["self", "thing"]) fun _ _ _ _ _ _ us hl => match us, hl with | [_, _], _ => rfl
  have F20 := fun_mk (st := f_letter_of.st) l20 c20 k20
  have b20 := F20.binds (ps := ["thing"]) fun _ _ _ _ _ _ us hl => match us, hl with | [_], _ => rfl
  have F21 := fun_mk (st := f_tree_parts.st) l21 c21 k21
  have b21 := F21.binds (ps := ["rows"]) fun _ _ _ _ _ _ us hl => match us, hl with | [_], _ => rfl
  have F22 := fun_mk (st := f_parts_of.st) l22 c22 k22
  have b22 := F22.binds (ps := ["thing"]) fun _ _ _ _ _ _ us hl => match us, hl with | [_], _ => rfl
  have F23 := fun_mk (st := f_counted.st) l23 c23 k23
  have b23 := F23.binds (ps := ["part"]) fun _ _ _ _ _ _ us hl => match us, hl with | [_], _ => rfl
  have F24 := fun_mk (st := f_spelled.st) l24 c24 k24
  have b24 := F24.binds (ps := ["thing"]) fun _ _ _ _ _ _ us hl => match us, hl with | [_], _ => rfl
  have F25 := fun_mk (st := f_digest.st) l25 c25 k25
  have b25 := F25.binds (ps := ["thing"]) fun _ _ _ _ _ _ us hl => match us, hl with | [_], _ => rfl
  have F26 := fun_mk (st := s_put.st) l26 c26 k26
  have b26 := F26.binds (ps := ["self", "thing"]) fun _ _ _ _ _ _ us hl => match us, hl with | [_, _], _ => rfl
  have F27 := fun_mk (st := g_put.st) l27 c27 k27
  have b27 := F27.binds (ps := ["_law_shelf", "_law_names", "_law_things", "_law_thing"]) fun _ _ _ _ _ _ us hl => match us, hl with | [_, _, _, _], _ => rfl
  have F28 := fun_mk (st := g_leaf.st) l28 c28 k28
  have b28 := F28.binds (ps := ["_law_cell"]) fun _ _ _ _ _ _ us hl => match us, hl with | [_], _ => rfl
  have F29 := fun_mk (st := g_kin.st) l29 c29 k29
  have b29 := F29.binds (ps := ["_law_cell", "_law_turn"]) fun _ _ _ _ _ _ us hl => match us, hl with | [_, _], _ => rfl
  have F30 := fun_mk (st := h_cell.st) l30 c30 k30
  have b30 := F30.binds (ps := ["_law_script", "_law_k"]) fun _ _ _ _ _ _ us hl => match us, hl with | [_, _], _ => rfl
  have F31 := fun_mk (st := g_listed.st) l31 c31 k31
  have b31 := F31.binds (ps := ["_law_found", "_law_due_here"]) fun _ _ _ _ _ _ us hl => match us, hl with | [_, _], _ => rfl
  have F32 := fun_mk (st := g_law.st) l32 c32 k32
  have b32 := F32.binds (ps := ["_law_script"]) fun _ _ _ _ _ _ us hl => match us, hl with | [_], _ => rfl
  refine ⟨PySem.W.fnOf "law" "law" (defArgs g_law.st) (defBody g_law.st) (defScope g_law.st) .none kV32 dc32 pm32 an32 cd32 ct32, fun s v => .of_eq rfl, fun base _ _ => ?_⟩
  have C0 : Met l.prog w K mg base aC 1 "names" ["self"] (spNames l.prog w K aC) := ⟨⟨_, _, (s_names.ok (P := l.prog) (w := w) (base := base) F0 T ), ⟨a0, i0, k0⟩, b0⟩⟩
  have C1 : Met l.prog w K mg base aC 1 "take" ["self", "name", "thing"] (spTake l.prog w K aC) := ⟨⟨_, _, (s_take.ok (P := l.prog) (w := w) (base := base) F1 T ), ⟨a1, i1, k1⟩, b1⟩⟩
  have C2 := Cal.mk' F2 (s_key.ok (P := l.prog) (w := w) (base := base) F2 T ) (PySem.W.mg_of X G a2) b2
  have C3 : Met l.prog w K mg base aC 2 "has" ["self", "name"] (spHas l.prog w K aC) := ⟨⟨_, _, (s_has.ok (P := l.prog) (w := w) (base := base) F3 T C2), ⟨a3, i3, k3⟩, b3⟩⟩
  have C4 := Cal.mk' F4 (s_nname.ok (P := l.prog) (w := w) (base := base) F4 T C3) (PySem.W.mg_of X G a4) b4
  have C5 : Met l.prog w K mg base aC 4 "thing" ["self", "name"] (spThing l.prog w K aC) := ⟨⟨_, _, (s_thing.ok (P := l.prog) (w := w) (base := base) F5 T C4), ⟨a5, i5, k5⟩, b5⟩⟩
  have C6 : Mak l.prog w K mg base aC 5 "Shelf" ["self", "base"] (spInit l.prog w K aC) := ⟨⟨_, _, (s_init.ok (P := l.prog) (w := w) (base := base) F6 T C0 C1 C5), ⟨mk_aC, a6, i6, kc_aC⟩, b6, T.Shelf⟩⟩
  have C7 := Cal.mk' F7 (g_digest.ok (P := l.prog) (w := w) (base := base) F7 T ) (PySem.W.mg_of X G a7) b7
  have C8 := Cal.mk' F8 (g_spelled.ok (P := l.prog) (w := w) (base := base) F8 T ) (PySem.W.mg_of X G a8) b8
  have C9 := Cal.mk' F9 (g_due.ok (P := l.prog) (w := w) (base := base) F9 T C7 C8) (PySem.W.mg_of X G a9) b9
  have C10 := Cal.mk' F10 (f_is_sign.ok (P := l.prog) (w := w) (base := base) F10 T ) (PySem.W.mg_of X G a10) b10
  have C11 := Cal.mk' F11 (f_is_line.ok (P := l.prog) (w := w) (base := base) F11 T C10) (PySem.W.mg_of X G a11) b11
  have C12 := Cal.mk' F12 (f_is_lines.ok (P := l.prog) (w := w) (base := base) F12 T C11) (PySem.W.mg_of X G a12) b12
  have C13 := Cal.mk' F13 (p_leaf.ok (P := l.prog) (w := w) (base := base) F13 T C12) (PySem.W.mg_of X G a13) b13
  have C14 := Cal.mk' F14 (n_tree.ok (P := l.prog) (w := w) (base := base) F14 T ) (PySem.W.mg_of X G a14) b14
  have C15 := Cal.mk' F15 (n_note.ok (P := l.prog) (w := w) (base := base) F15 T ) (PySem.W.mg_of X G a15) b15
  have C16 := Cal.mk' F16 (p_thing.ok (P := l.prog) (w := w) (base := base) F16 T C13 C14 C15) (PySem.W.mg_of X G a16) b16
  have C17 := Cal.mk' F17 (p_need.ok (P := l.prog) (w := w) (base := base) F17 T C16) (PySem.W.mg_of X G a17) b17
  have C18 : Met l.prog w K mg base aC 1 "need_form" ["self", "name", "forms"] spNever := ⟨⟨_, _, (n_form.ok (P := l.prog) (w := w) (base := base) F18 T ), ⟨a18, i18, k18⟩, b18⟩⟩
  have C19 : Met l.prog w K mg base aC 2 "need_names" ["self", "thing"] (spNeedN K) := ⟨⟨_, _, (s_need.ok (P := l.prog) (w := w) (base := base) F19 T C18), ⟨a19, i19, k19⟩, b19⟩⟩
  have C20 := Cal.mk' F20 (f_letter_of.ok (P := l.prog) (w := w) (base := base) F20 T ) (PySem.W.mg_of X G a20) b20
  have C21 := Cal.mk' F21 (f_tree_parts.ok (P := l.prog) (w := w) (base := base) F21 T ) (PySem.W.mg_of X G a21) b21
  have C22 := Cal.mk' F22 (f_parts_of.ok (P := l.prog) (w := w) (base := base) F22 T C21) (PySem.W.mg_of X G a22) b22
  have C23 := Cal.mk' F23 (f_counted.ok (P := l.prog) (w := w) (base := base) F23 T ) (PySem.W.mg_of X G a23) b23
  have C24 := Cal.mk' F24 (f_spelled.ok (P := l.prog) (w := w) (base := base) F24 T C20 C22 C23) (PySem.W.mg_of X G a24) b24
  have C25 := Cal.mk' F25 (f_digest.ok (P := l.prog) (w := w) (base := base) F25 T C24) (PySem.W.mg_of X G a25) b25
  have C26 : Met l.prog w K mg base aC 7 "put" ["self", "thing"] (spPut l.prog w K aC) := ⟨⟨_, _, (s_put.ok (P := l.prog) (w := w) (base := base) F26 T C17 C19 C20 C25 C1), ⟨a26, i26, k26⟩, b26⟩⟩
  have C27 := Cal.mk' F27 (g_put.ok (P := l.prog) (w := w) (base := base) F27 T C9 C3 C26 C5) (PySem.W.mg_of X G a27) b27
  have C28 := Cal.mk' F28 (g_leaf.ok (P := l.prog) (w := w) (base := base) F28 T ) (PySem.W.mg_of X G a28) b28
  have C29 := Cal.mk' F29 (g_kin.ok (P := l.prog) (w := w) (base := base) F29 T ) (PySem.W.mg_of X G a29) b29
  have C30 := Cal.mk' F30 (h_cell.ok (P := l.prog) (w := w) (base := base) F30 T ) (PySem.W.mg_of X G a30) b30
  have C31 := Cal.mk' F31 (g_listed.ok (P := l.prog) (w := w) (base := base) F31 T ) (PySem.W.mg_of X G a31) b31
  exact g_law.ok F32 T C6 C27 C28 C29 C30 C31 C3 C5 C0
theorem walk {l : PySem.W.OpenLaw} {q : Program} {loose : List Str} {XP : (Str → Option Value) → Heap → Prop} {YP : World → Heap → Prop} {d : DefRec} {K : Params → PySem.W.Frag} (hn : l.most = some 63) (hdf : d.params.defaults = [])
    (hY : ∀ (w : World) (h : Heap), YP w h → (K w.params).In h)
    (F : ∀ (w : World) (mg : Str → Option Value) (fa : Addr) (h : Heap), (K w.params).In h → h.Ns mainGlobals mg → mg d.name = some (.ref fa) →
      ∃ fd : FuncData, (∀ (s : Shared) (u : Value), BindsTo s fd ⟨[u], []⟩ [("_law_script", u)]) ∧ ∀ base : Heap, (K w.params).In base → base.Ns mainGlobals mg → FnOk l.prog w (K w.params) mg base CX0 9 fa fd ["_law_script"] (spLaw (K w.params))) :
    PySem.W.WalkO q loose XP YP l.row.toRowW d [] (fun f vs => PySem.call f vs) :=
  L2.walk_of (n := 63) (k := 9) (x := "_law_script") (CX := fun _ => CX0) (sp := fun w => spLaw (K w.params)) hn (by decide) hdf ⟨rfl, by decide, by decide⟩ hY F (fun _ _ a ns hl _ hS => ⟨a, ns, rfl, hS, hl, fun _ => rfl⟩) fun _ _ _ _ _ z => z
end An03
open PySem PySem.W PyProof.Rows
set_option maxRecDepth 100000 in
set_option maxHeartbeats 0 in
theorem PySem.Challenge.cw_annals_k03_names_on_a_shelf_holds : PySem.Challenge.rw_annals_k03_names_on_a_shelf.Holds := by
  w_on; o_law; k_head; (case hw => w_witness2)
  k_fill
  refine An03.walk (l := PySem.Challenge.rw_annals_k03_names_on_a_shelf) rfl rfl (fun w h Y => PySem.W.kIn_of Y) ?F
  case F =>
    intro w mg fa h KX G hmg
    refine' An03.all_mk KX G hmg ?z_len ?z_all ?z_ord ?z_isinstance ?z_str ?z_tuple ?z_list ?z_max ?z_int ?z_bool ?z_range ?z_LONGEST_LINE ?z_PERCENT ?z_DIGEST_FACTOR ?z_DIGEST_BOUND ?z_LETTERS ?z_NoName ?z_NoThing ?z_Shelf ?s_xNoName ?s_xNoThing ?s_kd ?pg_aC ?hd_aC ?po_aC ?sa_aC ?mk_aC ?kc_aC ?s_n1 ?s_n2 ?s_n3 ?s_kit ?a0 ?i0 ?l0 ?c0 ?k0 ?a1 ?i1 ?l1 ?c1 ?k1 ?a2 ?l2 ?c2 ?k2 ?a3 ?i3 ?l3 ?c3 ?k3 ?a4 ?l4 ?c4 ?k4 ?a5 ?i5 ?l5 ?c5 ?k5 ?a6 ?i6 ?l6 ?c6 ?k6 ?a7 ?l7 ?c7 ?k7 ?a8 ?l8 ?c8 ?k8 ?a9 ?l9 ?c9 ?k9 ?a10 ?l10 ?c10 ?k10 ?a11 ?l11 ?c11 ?k11 ?a12 ?l12 ?c12 ?k12 ?a13 ?l13 ?c13 ?k13 ?a14 ?l14 ?c14 ?k14 ?a15 ?l15 ?c15 ?k15 ?a16 ?l16 ?c16 ?k16 ?a17 ?l17 ?c17 ?k17 ?a18 ?i18 ?l18 ?c18 ?k18 ?a19 ?i19 ?l19 ?c19 ?k19 ?a20 ?l20 ?c20 ?k20 ?a21 ?l21 ?c21 ?k21 ?a22 ?l22 ?c22 ?k22 ?a23 ?l23 ?c23 ?k23 ?a24 ?l24 ?c24 ?k24 ?a25 ?l25 ?c25 ?k25 ?a26 ?i26 ?l26 ?c26 ?k26 ?a27 ?l27 ?c27 ?k27 ?a28 ?l28 ?c28 ?k28 ?a29 ?l29 ?c29 ?k29 ?a30 ?l30 ?c30 ?k30 ?a31 ?l31 ?c31 ?k31 ?a32 ?l32 ?c32 ?k32
    case z_len | z_all | z_ord | z_isinstance | z_str | z_tuple | z_list | z_max | z_int | z_bool | z_range | z_LONGEST_LINE | z_PERCENT | z_DIGEST_FACTOR | z_DIGEST_BOUND | z_LETTERS | z_NoName | z_NoThing | z_Shelf | a0 | i0 | l0 | c0 | k0 | a1 | i1 | l1 | c1 | k1 | a2 | l2 | c2 | k2 | a3 | i3 | l3 | c3 | k3 | a4 | l4 | c4 | k4 | a5 | i5 | l5 | c5 | k5 | a6 | i6 | l6 | c6 | k6 | a7 | l7 | c7 | k7 | a8 | l8 | c8 | k8 | a9 | l9 | c9 | k9 | a10 | l10 | c10 | k10 | a11 | l11 | c11 | k11 | a12 | l12 | c12 | k12 | a13 | l13 | c13 | k13 | a14 | l14 | c14 | k14 | a15 | l15 | c15 | k15 | a16 | l16 | c16 | k16 | a17 | l17 | c17 | k17 | a18 | i18 | l18 | c18 | k18 | a19 | i19 | l19 | c19 | k19 | a20 | l20 | c20 | k20 | a21 | l21 | c21 | k21 | a22 | l22 | c22 | k22 | a23 | l23 | c23 | k23 | a24 | l24 | c24 | k24 | a25 | l25 | c25 | k25 | a26 | i26 | l26 | c26 | k26 | a27 | l27 | c27 | k27 | a28 | l28 | c28 | k28 | a29 | l29 | c29 | k29 | a30 | l30 | c30 | k30 | a31 | l31 | c31 | k31 | a32 | l32 | c32 | k32 => k_is
    case s_xNoName | s_xNoThing => first | k_is | kernel_rfl | rfl | (with_unfolding_all rfl) | decide +kernel +revert
    case s_kd => exact An03.kd_of (by k_is)
    case pg_aC | hd_aC | po_aC | sa_aC | mk_aC | kc_aC | s_n1 | s_n2 | s_n3 => k_is
    case s_kit => (intro a ha b hb; simp only [An03.kinds, List.mem_cons, List.not_mem_nil, or_false] at ha hb; rcases ha with rfl | rfl | rfl | rfl | rfl | rfl | rfl <;> rcases hb with rfl | rfl | rfl | rfl | rfl | rfl | rfl <;> rfl)
