import PyProof.Rows.All
import Wide.All
import OpenK.AllK
import Wide.FinOn
import Lean
import PyProof.EqAt
import PyProof.EqKinds
import PyProof.TupleCall
import PyProof.P3Statements
import PyProof.P3In
import PyProof.NeData
import PyProof.P3Eq
import PyProof.FitsBits
import PyProof.Rows.SeqMore
import PyProof.Rows.StrInSeq3
import PyProof.Rows.SortStr
import PySem.Challenge.RW_fewpans_k01_trees
set_option Elab.async false
section
-- CHANGE: your row's module here, as the last of these rows
set_option Elab.async false
set_option linter.all false
set_option maxRecDepth 100000
namespace L2
open PySem PySem.Spec PyProof.Rows

/-- a key: an int or a str -/
abbrev Key := Sum Int Str
def keyIs : Key → Value → Bool
  | .inl k, v => Value.isInt k v
  | .inr x, v => Value.isStrOf x v
def keyH (w : World) : Key → Int
  | .inl k => hashInt k
  | .inr x => hashStr w x
theorem keyIs_shape : ∀ {k : Key} {v : Value}, keyIs k v = true → (∃ i t, k = Sum.inl i ∧ v = Value.int i t) ∨ (∃ x t, k = Sum.inr x ∧ v = Value.str x t)
  | .inl i, v, h => by
    obtain ⟨t, e⟩ := Value.isInt_shape (k := i) (v := v) h
    exact .inl ⟨i, t, rfl, e⟩
  | .inr x, v, h => by
    obtain ⟨t, e⟩ := Value.isStrOf_shape (x := x) (v := v) h
    exact .inr ⟨x, t, rfl, e⟩
theorem key_ll (a b : Int) : decide ((Sum.inl a : Key) = Sum.inl b) = (a == b) := by
  by_cases e : a = b
  · subst e; simp
  · have h : ¬ (Sum.inl a : Key) = Sum.inl b := fun q => e (Sum.inl.inj q)
    rw [decide_eq_false h]
    exact (beq_eq_false_iff_ne.mpr e).symm
theorem key_rr (a b : Str) : decide ((Sum.inr a : Key) = Sum.inr b) = decide (a = b) := by
  by_cases e : a = b
  · subst e; simp
  · have h : ¬ (Sum.inr a : Key) = Sum.inr b := fun q => e (Sum.inr.inj q)
    rw [decide_eq_false h, decide_eq_false e]
theorem key_lr (a : Int) (b : Str) : decide ((Sum.inl a : Key) = Sum.inr b) = false := decide_eq_false (fun q => nomatch q)
theorem key_rl (a : Str) (b : Int) : decide ((Sum.inr a : Key) = Sum.inl b) = false := decide_eq_false (fun q => nomatch q)

def mixKind (prog : Program) (w : World) : PySem.KeyKind prog w Key where
  is := keyIs
  hash := keyH w
  inj := fun v a b ha hb => by
    rcases keyIs_shape ha with ⟨i, t, rfl, rfl⟩ | ⟨x, t, rfl, rfl⟩
    · rcases keyIs_shape hb with ⟨j, u, rfl, e⟩ | ⟨y, u, rfl, e⟩
      · injection e with e1 _; rw [e1]
      · exact nomatch e
    · rcases keyIs_shape hb with ⟨j, u, rfl, e⟩ | ⟨y, u, rfl, e⟩
      · exact nomatch e
      · injection e with e1 _; rw [e1]
  byValue := fun k v h => by
    rcases keyIs_shape h with ⟨i, t, rfl, rfl⟩ | ⟨x, t, rfl, rfl⟩ <;> rfl
  pyHash := fun hv h => by
    rcases keyIs_shape hv with ⟨i, t, rfl, rfl⟩ | ⟨x, t, rfl, rfl⟩
    · exact wpAny_pyHash_int h
    · exact wpAny_pyHash_str h
  eqBool := fun hu hv h => by
    rcases keyIs_shape hu with ⟨i, t, rfl, rfl⟩ | ⟨x, t, rfl, rfl⟩
    · rcases keyIs_shape hv with ⟨j, u, rfl, rfl⟩ | ⟨y, u, rfl, rfl⟩
      · rw [key_ll] at h; exact wpAny_eqBool_int h
      · rw [key_lr] at h; exact SeqAt.EqAt.int_str i t y u _ _ _ _ h
    · rcases keyIs_shape hv with ⟨j, u, rfl, rfl⟩ | ⟨y, u, rfl, rfl⟩
      · rw [key_rl] at h; exact SeqAt.EqAt.str_int x t j u _ _ _ _ h
      · rw [key_rr] at h; exact wpAny_eqBool_str h
  «strs» := fun k x t v h => by
    rcases keyIs_shape h with ⟨i, u, rfl, e⟩ | ⟨y, u, rfl, e⟩
    · exact nomatch e
    · injection e with e1 _
      subst e1
      cases v <;> rfl

end L2

namespace L2
open PySem PySem.Spec PyProof.Rows

/-- a value, without the heap -/
inductive V where
  | non | bl (b : Bool) | int (i : Int) | str (x : Str) | byt (b : Array UInt8) | flt (b : UInt64) | ref (a : Addr) | ty (n : String)
  deriving DecidableEq

def RelV : V → Value → Prop
  | .non, u => u = Value.none
  | .bl b, u => u = Value.bool b
  | .int i, u => ∃ t, u = Value.int i t
  | .str x, u => ∃ t, u = Value.str x t
  | .byt b, u => ∃ t, u = Value.bytes b t
  | .flt b, u => ∃ t, u = Value.float b t
  | .ref a, u => u = Value.ref a
  | .ty n, u => u = Value.type n

abbrev Vals : List V → List Value → Prop := Paired RelV
theorem Vals.length {xs : List V} {us : List Value} (r : Vals xs us) : xs.length = us.length := Paired.length r
theorem Vals.get : ∀ {xs : List V} {us : List Value} {i : Nat} {x : V}, Vals xs us → xs[i]? = some x → ∃ u, us[i]? = some u ∧ RelV x u
  | _, _, _, _, .nil, e => by simp at e
  | _, _, 0, _, .cons r _, e => by simp at e; subst e; exact ⟨_, rfl, r⟩
  | _, _, i + 1, x, .cons _ t, e => by
    obtain ⟨u, h1, h2⟩ := Vals.get (i := i) (x := x) t (by simpa using e)
    exact ⟨u, by simpa using h1, h2⟩
theorem Vals.set {x : V} {u : Value} (r : RelV x u) : ∀ {xs : List V} {us : List Value} (i : Nat), Vals xs us → Vals (xs.set i x) (us.set i u)
  | _, _, _, .nil => .nil
  | _, _, 0, .cons _ t => .cons r t
  | _, _, i + 1, .cons q t => .cons q (Vals.set r i t)
theorem Vals.append : ∀ {xs ys : List V} {us ws : List Value}, Vals xs us → Vals ys ws → Vals (xs ++ ys) (us ++ ws)
  | _, _, _, _, .nil, s => s
  | _, _, _, _, .cons r t, s => .cons r (Vals.append t s)
theorem Vals.take : ∀ {xs : List V} {us : List Value} (n : Nat), Vals xs us → Vals (xs.take n) (us.take n)
  | _, _, 0, _ => .nil
  | _, _, _ + 1, .nil => .nil
  | _, _, n + 1, .cons r t => .cons r (Vals.take n t)
theorem Vals.drop : ∀ {xs : List V} {us : List Value} (n : Nat), Vals xs us → Vals (xs.drop n) (us.drop n)
  | _, _, 0, r => r
  | _, _, _ + 1, .nil => .nil
  | _, _, n + 1, .cons _ t => Vals.drop n t
def RelO : Option V → Option Value → Prop
  | some v, some u => RelV v u
  | none, none => True
  | _, _ => False
def KV {κ : Type} : List (κ × V) → List (κ × Value) → Prop := Paired fun (p : κ × V) (q : κ × Value) => p.1 = q.1 ∧ RelV p.2 q.2

/-- a key of a dict (00_mix): an int or a text -/
def kV : Key → V
  | .inl i => .int i
  | .inr x => .str x

/-- what stands at a tracked address -/
inductive HO where
  /-- a list -/
  | lst (xs : List V)
  /-- a tuple (never changes) -/
  | tup (xs : List V)
  /-- a dict whose keys are ints and texts; one whose keys are tuples of ints and texts (the empty one is both) -/
  | dK (kvs : List (Key × V)) | dT (kvs : List (List Key × V))
  /-- a set of ints: its members, its size -/
  | set (S : Int → Bool) (n : Nat)
  /-- an instance of the class at C, its dict at dx, its attributes -/
  | ins (C dx : Addr) (fs : List (Str × V))
  /-- the dict of the instance at x -/
  | own (x : Addr)
  /-- the dict of an exception -/
  | xd (fs : List (Str × V))
  /-- a bound method, f of x -/
  | met (f x : Addr)
  /-- a range object lo, lo + 1, .. below hi -/
  | rng (lo hi : Int)
  /-- a thing that is known to the object (the script; a dict while a loop walks it): read, never written while it is so -/
  | frz (o : Obj) (u : HO)
  /-- a code object's table -/
  | tbl (ps : Array Value)
  /-- any other thing, by what is true of its one object (a def of one's own: SetO a S n := HO.ext fun h => ..) -/
  | ext (φ : Heap → Prop)

abbrev Hp := Addr → Option HO
def upd (H : Hp) (a : Addr) (o : HO) : Hp := fun b => if b = a then some o else H b
theorem upd_same {H : Hp} {a : Addr} {o : HO} : upd H a o a = some o := by unfold upd; rw [if_pos rfl]
theorem upd_ne {H : Hp} {a b : Addr} {o : HO} (h : b ≠ a) : upd H a o b = H b := by unfold upd; rw [if_neg h]
theorem ne_of_none {H : Hp} {a b : Addr} {o : HO} (h : H a = some o) (h' : H b = none) : a ≠ b := by
  intro e; subst e; rw [h] at h'; cases h'

section
variable (P : Program) (w : World)
def ObjOk (H : Hp) (h : Heap) (a : Addr) : HO → Prop
  | .lst xs => xs.length ≤ sizeLine ∧ ∃ (its : List Value) (n : Nat), Vals xs its ∧ h.get? a = some { cls := .type "list", data := .seq its.toArray n }
  | .tup xs => xs.length ≤ sizeLine ∧ ∃ its : List Value, Vals xs its ∧ IsTup h a its.toArray
  | .dK kvs => kvs.length ≤ sizeLine ∧ (a == sysModules) = false ∧ ∃ vs, KV kvs vs ∧ h.DictOf (mixKind P w) a vs
  | .dT kvs => kvs.length ≤ sizeLine ∧ (a == sysModules) = false ∧ ∃ xs : List (List Key × Addr × Value),
      Paired (fun (p : List Key × V) (q : List Key × Addr × Value) => p.1 = q.1 ∧ H q.2.1 = some (.tup (p.1.map kV)) ∧ RelV p.2 q.2.2) kvs xs ∧
      ∃ o es ep, h.get? a = some o ∧ o.ExactDict ∧ o.data = .dict es ep ∧ es.toList = xs.map (entryOfKey (tupleKind (mixKind P w))) ∧ (xs.map (·.1)).Nodup
  | .set S n => h.SetOf (intKind P w) a S n
  | .ins C dx fs => H dx = some (.own a) ∧ fs.length ≤ 1000 ∧ dx ≠ a ∧ h.get? a = some (PySem.W.instObj C dx) ∧
      ∃ mA, h.Ns1 dx mA ∧ (∀ f, RelO (fs.lookup f) (mA f)) ∧ PySem.Within mA (fs.map (·.1))
  | .own _ => ∃ o, h.get? a = some o
  | .xd fs => ∃ mA, h.Ns1 a mA ∧ ∀ f, RelO (fs.lookup f) (mA f)
  | .rng lo hi => ∃ t u v, h.get? a = some { cls := .type "range", data := .fields #[.int lo t, .int hi u, .int 1 v] }
  | .frz o u => h.get? a = some o ∧ ObjOk H h a u
  | .tbl ps => h.get? a = some { cls := .none, data := .fields ps }
  | .met f x => h.get? a = some (PySem.W.methodObj (.ref f) (.ref x))
  | .ext φ => φ h ∧ (∃ o, h.get? a = some o) ∧ ∀ h1 h2 : Heap, φ h1 → (∀ o, h1.get? a = some o → h2.get? a = some o) → φ h2
/-- the abstract heap is held -/
def HOk (H : Hp) (h : Heap) : Prop := ∀ a o, H a = some o → ObjOk P w H h a o
end

section
variable {P : Program} {w : World} {H H' : Hp} {h h' : Heap} {a : Addr} {o : HO}
theorem ObjOk.lt (x : ObjOk P w H h a o) : a < h.objs.size := by
  cases o with
  | lst xs => obtain ⟨_, _, _, _, e⟩ := x; exact Heap.lt_size e
  | tup xs => obtain ⟨_, _, _, p⟩ := x; exact p.lt
  | dK kvs => obtain ⟨_, _, _, _, o, _, _, e, _⟩ := x; exact Heap.lt_size e
  | dT kvs => obtain ⟨_, _, _, _, o, _, _, e, _⟩ := x; exact Heap.lt_size e
  | set S n => obtain ⟨o, _, _, _, e, _⟩ := x; exact Heap.lt_size e
  | ins C dx fs => obtain ⟨_, _, _, e, _⟩ := x; exact Heap.lt_size e
  | own y => obtain ⟨_, e⟩ := x; exact Heap.lt_size e
  | xd fs => obtain ⟨_, ⟨_, _, _, e, _⟩, _⟩ := x; exact Heap.lt_size e
  | rng lo hi => obtain ⟨_, _, _, e⟩ := x; exact Heap.lt_size e
  | frz ob u => obtain ⟨e, _⟩ := x; exact Heap.lt_size e
  | tbl ps => exact Heap.lt_size (show h.get? a = some _ from x)
  | met f y => exact Heap.lt_size (show h.get? a = some _ from x)
  | ext φ => obtain ⟨_, ⟨_, e⟩, _⟩ := x; exact Heap.lt_size e
theorem Paired.mapP {α β : Type} {F G : α → β → Prop} : ∀ {l₁ : List α} {l₂ : List β}, Paired F l₁ l₂ → (∀ a b, F a b → G a b) → Paired G l₁ l₂
  | _, _, .nil, _ => .nil
  | _, _, .cons r t, f => .cons (f _ _ r) (Paired.mapP t f)
/-- what an object's description leans on: its own object, its own dict, the tuples -/
theorem ObjOk.stay (x : ObjOk P w H h a o) (k : ∀ b u, (b = a ∨ H b = some (.own a)) → h.get? b = some u → h'.get? b = some u)
    (ho : ∀ b, H b = some (.own a) → H' b = some (.own a)) (ht : ∀ b xs, H b = some (.tup xs) → H' b = some (.tup xs)) : ObjOk P w H' h' a o := by
  induction o with
  | lst xs => obtain ⟨z, its, n, r, e⟩ := x; exact ⟨z, its, n, r, k _ _ (.inl rfl) e⟩
  | tup xs => obtain ⟨z, its, r, ob, e, c⟩ := x; exact ⟨z, its, r, ob, k _ _ (.inl rfl) e, c⟩
  | dK kvs => obtain ⟨z, y, vs, r, ob, es, ep, e, c⟩ := x; exact ⟨z, y, vs, r, ob, es, ep, k _ _ (.inl rfl) e, c⟩
  | dT kvs =>
    obtain ⟨z, y, xs, r, ob, es, ep, e, c⟩ := x
    exact ⟨z, y, xs, Paired.mapP r fun p q z => ⟨z.1, ht _ _ z.2.1, z.2.2⟩, ob, es, ep, k _ _ (.inl rfl) e, c⟩
  | set S n => obtain ⟨ob, es, ep, t, e, c⟩ := x; exact ⟨ob, es, ep, t, k _ _ (.inl rfl) e, c⟩
  | ins C dx fs =>
    obtain ⟨d, z, ne, e, mA, ⟨od, es, ep, e2, c⟩, r⟩ := x
    exact ⟨ho _ d, z, ne, k _ _ (.inl rfl) e, mA, ⟨od, es, ep, k _ _ (.inr d) e2, c⟩, r⟩
  | own y => obtain ⟨ob, e⟩ := x; exact ⟨ob, k _ _ (.inl rfl) e⟩
  | xd fs => obtain ⟨mA, ⟨od, es, ep, e, c⟩, r⟩ := x; exact ⟨mA, ⟨od, es, ep, k _ _ (.inl rfl) e, c⟩, r⟩
  | rng lo hi => obtain ⟨t, u, v, e⟩ := x; exact ⟨t, u, v, k _ _ (.inl rfl) e⟩
  | frz ob u ih => obtain ⟨e, q⟩ := x; exact ⟨k _ _ (.inl rfl) e, ih q⟩
  | tbl ps =>
    have e : h.get? a = some { cls := .none, data := .fields ps } := x
    show h'.get? a = some { cls := .none, data := .fields ps }
    exact k a _ (.inl rfl) e
  | met f y =>
    have e : h.get? a = some (PySem.W.methodObj (.ref f) (.ref y)) := x
    show h'.get? a = some (PySem.W.methodObj (.ref f) (.ref y))
    exact k a _ (.inl rfl) e
  | ext φ => obtain ⟨p, ⟨o, e⟩, st⟩ := x; exact ⟨st _ _ p fun o q => k _ _ (.inl rfl) q, ⟨o, k _ _ (.inl rfl) e⟩, st⟩
theorem HOk.lt (x : HOk P w H h) (e : H a = some o) : a < h.objs.size := (x a o e).lt
theorem HOk.fresh (x : HOk P w H h) (e : h.objs.size ≤ a) : H a = none := by
  cases q : H a with
  | none => rfl
  | some u => exact absurd (Nat.lt_of_lt_of_le (x.lt q) e) (Nat.lt_irrefl _)
/-- every object of the heap is kept -/
theorem HOk.kept (x : HOk P w H h) (k : ∀ b u, h.get? b = some u → h'.get? b = some u) : HOk P w H h' := fun a o e =>
  (x a o e).stay (fun b u _ q => k b u q) (fun _ q => q) fun _ _ q => q
/-- a new object is laid and tracked -/
theorem HOk.laid (x : HOk P w H h) (k : ∀ b u, h.get? b = some u → h'.get? b = some u) (hp : h.objs.size ≤ a) (new : ObjOk P w (upd H a o) h' a o) : HOk P w (upd H a o) h' := fun b u e => by
  have hn := x.fresh hp
  by_cases hb : b = a
  · subst hb; rw [upd_same] at e; cases e; exact new
  · rw [upd_ne hb] at e
    exact (x b u e).stay (fun c v _ q => k c v q) (fun c q => by rw [upd_ne (ne_of_none q hn)]; exact q) fun c xs q => by rw [upd_ne (ne_of_none q hn)]; exact q
end

/-- what may be read as u: it is u, or a known u -/
def Rd (H : Hp) (a : Addr) (u : HO) : Prop := H a = some u ∨ ∃ o, H a = some (.frz o u)
theorem Rd.of {H : Hp} {a : Addr} {u : HO} (h : H a = some u) : Rd H a u := .inl h
theorem Rd.ok {P : Program} {w : World} {H : Hp} {h : Heap} {a : Addr} {u : HO} (r : Rd H a u) (x : HOk P w H h) : ObjOk P w H h a u := by
  rcases r with r | ⟨o, r⟩
  · exact x a u r
  · obtain ⟨_, q⟩ := x a _ r
    exact q
section
variable {P : Program} {w : World} {H : Hp} {h h' : Heap} {x e : Addr} {o' : HO}
end

structure Un (fs ex : List Addr) (H H' : Hp) (h h' : Heap) : Prop where
  keep : ∀ b o, h.get? b = some o → H b = none → b ∉ fs → b ∉ ex → h'.get? b = some o
  slot : ∀ b o, h.get? b = some o → H b = none → b ∈ fs → b ∉ ex → ∃ sl, h'.get? b = some { o with slots := sl }
  free : ∀ b o, h.get? b = some o → H b = none → b ∉ ex → H' b = none
  there : ∀ b o, h.get? b = some o → b ∉ ex → ∃ o', h'.get? b = some o'
  tups : ∀ b xs, H b = some (.tup xs) → H' b = some (.tup xs)
  frzs : ∀ b o u, H b = some (.frz o u) → H' b = some (.frz o u)
  tbls : ∀ b ps, H b = some (.tbl ps) → ∃ more, H' b = some (.tbl (ps ++ more))
section
variable {fs fs' ex ex' : List Addr} {H H1 H2 : Hp} {h h1 h2 h' : Heap} {a x e : Addr} {o : HO}
theorem Un.any (u : Un fs ex H H1 h h1) {b : Addr} {ob : Obj} (q : h.get? b = some ob) (n : H b = none) (hx : b ∉ ex) : ∃ sl, h1.get? b = some { ob with slots := sl } := by
  by_cases hb : b ∈ fs
  · exact u.slot b ob q n hb hx
  · exact ⟨ob.slots, u.keep b ob q n hb hx⟩
theorem Un.trans (a : Un fs ex H H1 h h1) (b : Un fs ex H1 H2 h1 h2) : Un fs ex H H2 h h2 where
  keep := fun c ob q n hc hx => b.keep c ob (a.keep c ob q n hc hx) (a.free c ob q n hx) hc hx
  slot := fun c ob q n hc hx => by
    obtain ⟨sl, e1⟩ := a.slot c ob q n hc hx
    obtain ⟨sl', e2⟩ := b.slot c _ e1 (a.free c ob q n hx) hc hx
    exact ⟨sl', e2⟩
  free := fun c ob q n hx => by
    obtain ⟨o', e1⟩ := a.there c ob q hx
    exact b.free c o' e1 (a.free c ob q n hx) hx
  there := fun c ob q hx => by
    obtain ⟨o', e1⟩ := a.there c ob q hx
    exact b.there c o' e1 hx
  tups := fun c xs q => b.tups c xs (a.tups c xs q)
  frzs := fun c ob xs q => b.frzs c ob xs (a.frzs c ob xs q)
  tbls := fun c ps q => by
    obtain ⟨m1, e1⟩ := a.tbls c ps q
    obtain ⟨m2, e2⟩ := b.tbls c _ e1
    exact ⟨m1 ++ m2, by rw [e2, Array.append_assoc]⟩
theorem Un.kept (k : ∀ b u, h.get? b = some u → h'.get? b = some u) : Un fs ex H H h h' :=
  ⟨fun b ob q _ _ _ => k b ob q, fun b ob q _ _ _ => ⟨ob.slots, k b ob q⟩, fun _ _ _ n _ => n, fun b ob q _ => ⟨ob, k b ob q⟩, fun _ _ q => q, fun _ _ _ q => q, fun _ ps q => ⟨#[], by rw [q]; simp⟩⟩
theorem Un.refl : Un fs ex H H h h := Un.kept fun _ _ q => q
theorem Un.laid (k : ∀ b u, h.get? b = some u → h'.get? b = some u) (hp : h.objs.size ≤ a) (hn : H a = none) : Un fs ex H (upd H a o) h h' where
  keep := fun b u q _ _ _ => k b u q
  slot := fun b u q _ _ _ => ⟨u.slots, k b u q⟩
  free := fun b u q n _ => by rw [upd_ne (Nat.ne_of_lt (Nat.lt_of_lt_of_le (Heap.lt_size q) hp))]; exact n
  there := fun b u q _ => ⟨u, k b u q⟩
  tups := fun b xs q => by rw [upd_ne (ne_of_none q hn)]; exact q
  frzs := fun b u xs q => by rw [upd_ne (ne_of_none q hn)]; exact q
  tbls := fun b ps q => ⟨#[], by rw [upd_ne (ne_of_none q hn), q]; simp⟩
theorem Un.mono (u : Un fs ex H H1 h h1) (hs : ∀ b ∈ fs, b ∈ fs') (hx : ∀ b ∈ ex, b ∈ ex') : Un fs' ex' H H1 h h1 :=
  ⟨fun b ob q n hb he => u.keep b ob q n (fun z => hb (hs b z)) fun z => he (hx b z), fun _ _ q n _ he => u.any q n fun z => he (hx _ z), fun b ob q n he => u.free b ob q n fun z => he (hx b z), fun b ob q he => u.there b ob q fun z => he (hx b z), u.tups, u.frzs, u.tbls⟩
end

def trk (h : Heap) (H : Hp) : List Addr := (List.range h.objs.size).filter fun a => (H a).isSome
def hidT (h : Heap) (H : Hp) : Heap := PySem.W.hideAll h (trk h H)
theorem hidT_size (h : Heap) (H : Hp) : (hidT h H).objs.size = h.objs.size := PySem.W.hideAll_size _ _
theorem hidT_get {h : Heap} {H : Hp} {b : Addr} {o : Obj} (e : h.get? b = some o) (n : H b = none) : (hidT h H).get? b = some o :=
  PySem.W.hideAll_get _ e fun hm => by
    have q : (H b).isSome = true := (List.mem_filter.mp hm).2
    rw [n] at q; simp at q
theorem of_hidT {h : Heap} {H : Hp} {b : Addr} {o : Obj} (e : (hidT h H).get? b = some o) : h.get? b = some o ∧ H b = none := by
  have e' : h.get? b = some o := PySem.W.of_hideAll (trk h H) e
  refine ⟨e', ?_⟩
  cases q : H b with
  | none => rfl
  | some x =>
    have hm : b ∈ trk h H := List.mem_filter.mpr ⟨List.mem_range.mpr (Heap.lt_size e'), by simp [q]⟩
    have z : (hidT h H).get? b = none := PySem.W.hideAll_none (trk h H) hm
    rw [z] at e; cases e

def allNews (g h : Heap) (L : Addr) : List (Addr × Obj) := (List.range h.objs.size).filterMap fun a => if a = L ∨ (g.get? a).isSome = true then none else (h.get? a).map fun o => (a, o)
def rest (g h : Heap) (L d : Addr) : List (Addr × Obj) := (allNews g h L).filter fun p => decide (p.1 ≠ d)
end L2

namespace L2
open PySem PySem.Spec PyProof.Rows

/-- the module's facts, over the base: the heap at the law's entry without what is tracked there -/
structure Mod (K : PySem.W.Frag) (mg : Str → Option Value) (base : Heap) : Prop where
  kin : K.In base
  glob : base.Ns mainGlobals mg
  blt : ∃ mb, base.Ns builtinsNs mb ∧ ∀ x : Str, x ≠ "__name__" → mb x = bootBuiltins x
  nolimit : base.NoLimit

/-- the context: a def's body (or a comprehension's block) running. base: fixed through the whole law; s₀, H₀: the entry; outer: the frames whose slots others may change (a def's callers); stack: all frames that run;
   ex: iterators that were made ahead of the entry and are walked here (a comprehension's); fn: the names whose cells were made at the entry (a def: all; a comprehension's block: its own); calm: not within an except suite; pn: pins that every state bears; xe: what is wanted of an exception that leaves the code -/
structure Cx where
  prog : Program
  w : World
  K : PySem.W.Frag
  mg : Str → Option Value
  base : Heap
  A : Around
  N : List Str
  s₀ : Shared
  H₀ : Hp
  env : Env
  outer : List Env
  stack : List Env
  ex : List Addr
  fn : Str → Bool
  calm : Bool
  pn : List (Addr × Obj)
  xe : Value → Shared → Prop
/-- the callers' frames -/
def frs (l : List Env) : List Addr := l.filterMap (·.frame)
abbrev Cx.fs (X : Cx) : List Addr := frs X.outer

def Vis (sc : Scope) (x : Str) : Prop := sc.names.lookup x = some .local ∨ sc.names.lookup x = some .cell ∨ sc.names.lookup x = some .free
def Loc (sc : Scope) (x : Str) : Prop := sc.names.lookup x = some .local ∨ sc.names.lookup x = some .cell
def Look (env : Env) (h : Heap) (m : Str → Option Value) (x : Str) (u : Value) : Prop :=
  (env.kindOf x = some .local ∧ m x = some u) ∨ ((env.kindOf x = some .cell ∨ env.kindOf x = some .free) ∧ ∃ c, env.cells.lookup x = some c ∧ h.IsCell c (some u))

structure Cx.Ok (X : Cx) : Prop where
  mod : Mod X.K X.mg X.base
  kind : X.env.scope.kind = .function
  glob : X.env.globals = mainGlobals
  blt : X.env.builtins = builtinsNs
  above : X.s₀.heap.objs.size ≤ X.env.locals
  inj : ∀ x y c, X.env.cells.lookup x = some c → X.env.cells.lookup y = some c → x = y
  has : ∀ x, (X.env.kindOf x = some .cell ∨ X.env.kindOf x = some .free) → ∃ c, X.env.cells.lookup x = some c
  cab : ∀ x c, X.fn x = true → X.env.cells.lookup x = some c → X.s₀.heap.objs.size ≤ c
  hd : X.calm = true → X.A.handled = none
  frames : X.A.frames = some X.stack
  stk : X.stack = X.outer ∨ (X.stack = X.env :: X.outer ∧ X.env.frame = some X.env.locals)
  exf : ∀ b ∈ X.ex, b ≠ X.env.locals ∧ ∀ x c, X.env.cells.lookup x = some c → c ≠ b
  bs : ∀ b o, X.base.get? b = some o → X.s₀.heap.get? b = some o ∧ X.H₀ b = none
  bsz : X.base.objs.size ≤ X.s₀.heap.objs.size
  noex : ∀ b o, X.base.get? b = some o → b ∉ X.ex
  exfs : ∀ b ∈ X.ex, b ∉ X.fs
  funs : X.s₀.heap.FunFrames X.base X.outer
  frf : ∀ b ∈ X.fs, X.H₀ b = none

structure Inv (X : Cx) (pins : List (Addr × Obj)) (σ : List (Option V)) (H : Hp) (s : Shared) : Prop where
  ok : X.Ok
  os : s.os = X.s₀.os
  bare : AllBare s.gens
  base : Un X.fs X.ex X.H₀ H X.s₀.heap s.heap
  loc : ∃ m, s.heap.Ns X.env.locals m ∧ ∀ (i : Nat) (x : Str) (v : V), X.N[i]? = some x → σ[i]? = some (some v) → Vis X.env.scope x → ∃ u, RelV v u ∧ Look X.env s.heap m x u
  cell : ∀ x c, X.env.cells.lookup x = some c → ∃ v, s.heap.IsCell c v
  free : H X.env.locals = none
  freeC : ∀ x c, X.env.cells.lookup x = some c → H c = none
  pin : ∀ p ∈ X.pn ++ pins, s.heap.get? p.1 = some p.2 ∧ H p.1 = none ∧ p.1 ≠ X.env.locals ∧ p.1 ∉ X.fs ∧ ∀ v, p.2.data ≠ .cell v
  hok : HOk X.prog X.w H s.heap
  len : σ.length = X.N.length

section
variable {X : Cx} {pins : List (Addr × Obj)} {σ : List (Option V)} {H H' : Hp} {s : Shared} {h' : Heap}

theorem Cx.Ok.nofr (ok : X.Ok) {b : Addr} {o : Obj} (e : X.base.get? b = some o) : b ∉ X.fs := fun hb => by
  have := (ok.funs.mem hb).1
  rw [e] at this; cases this
theorem Inv.bs (I : Inv X pins σ H s) : ∀ b o, X.base.get? b = some o → s.heap.get? b = some o ∧ H b = none := fun b o e =>
  ⟨I.base.keep b o (I.ok.bs b o e).1 (I.ok.bs b o e).2 (I.ok.nofr e) (I.ok.noex b o e), I.base.free b o (I.ok.bs b o e).1 (I.ok.bs b o e).2 (I.ok.noex b o e)⟩
theorem Inv.bk (I : Inv X pins σ H s) : ∀ b o, X.base.get? b = some o → s.heap.get? b = some o := fun b o e => (I.bs b o e).1
theorem Inv.mod (I : Inv X pins σ H s) : Mod X.K X.mg X.base := I.ok.mod
theorem Inv.kIn (I : Inv X pins σ H s) : X.K.In s.heap := I.ok.mod.kin.keeps I.bk
theorem Inv.nolimit (I : Inv X pins σ H s) : s.heap.NoLimit := I.ok.mod.nolimit.keeps I.bk
/-- the frame over the base: for OpenK's rules (K.In X.base is I.mod.kin) -/
theorem Inv.fr (I : Inv X pins σ H s) : ∃ m, Fr X.base X.env.locals s.heap m :=
  let ⟨m, hn, _⟩ := I.loc
  ⟨m, hn, I.bk, Nat.le_trans I.ok.bsz I.ok.above⟩
theorem Inv.lt (I : Inv X pins σ H s) : X.env.locals < s.heap.objs.size := let ⟨_, hn, _⟩ := I.loc; hn.lt
theorem Inv.sz (I : Inv X pins σ H s) : X.s₀.heap.objs.size ≤ s.heap.objs.size := Nat.le_trans I.ok.above (Nat.le_of_lt I.lt)
theorem Inv.nofs (I : Inv X pins σ H s) {a : Addr} (h : s.heap.objs.size ≤ a) : a ∉ X.fs := fun hb => by
  obtain ⟨_, o, ho, _⟩ := I.ok.funs.mem hb
  exact absurd (Nat.lt_of_lt_of_le (Heap.lt_size ho) (Nat.le_trans I.sz h)) (Nat.lt_irrefl _)
theorem Inv.cne (I : Inv X pins σ H s) : ∀ x c, X.env.cells.lookup x = some c → c ≠ X.env.locals := fun x c e z => by
  obtain ⟨v, o, ho, hd⟩ := I.cell x c e
  obtain ⟨m, ⟨o', es, ep, ho', hd', _⟩, _⟩ := I.loc
  rw [z, ho'] at ho; cases ho; rw [hd'] at hd; cases hd
theorem Inv.funs (I : Inv X pins σ H s) : s.heap.FunFrames X.base X.outer := by
  have all : ∀ (l : List Env), (∀ b ∈ frs l, b ∈ X.fs) → X.s₀.heap.FunFrames X.base l → s.heap.FunFrames X.base l := by
    intro l
    induction l with
    | nil => intro _ _; trivial
    | cons env r ih =>
      intro hs hl
      obtain ⟨hk, ⟨L, o, hf, hn, ho, hd⟩, hr⟩ := hl
      have hL : L ∈ X.fs := hs L (by unfold frs; rw [List.filterMap_cons, hf]; exact List.mem_cons_self)
      obtain ⟨sl, e⟩ := I.base.slot L o ho (I.ok.frf L hL) hL fun z => I.ok.exfs L z hL
      exact ⟨hk, ⟨L, _, hf, hn, e, hd⟩, ih (fun b hb => hs b (by unfold frs; rw [List.filterMap_cons, hf]; exact List.mem_cons_of_mem _ hb)) hr⟩
  exact all X.outer (fun _ hb => hb) I.ok.funs

/-- the frames that run, for a call -/
theorem Inv.stack (I : Inv X pins σ H s) : s.heap.FunFrames X.base X.stack := by
  rcases I.ok.stk with e | ⟨e, hf⟩
  · rw [e]; exact I.funs
  · rw [e]
    obtain ⟨m, hn, _⟩ := I.loc
    refine .cons (by rw [I.ok.kind]; decide) hf hn ?_ I.funs
    exact Heap.get?_none_of_le (Nat.le_trans I.ok.bsz I.ok.above)
theorem Inv.stkSub (I : Inv X pins σ H s) : ∀ b ∈ frs X.stack, b ∈ X.env.locals :: X.fs := fun b hb => by
  rcases I.ok.stk with e | ⟨e, hf⟩
  · rw [e] at hb; exact List.mem_cons_of_mem _ hb
  · rw [e] at hb
    unfold frs at hb
    rw [List.filterMap_cons, hf] at hb
    exact hb
theorem Inv.stkFree (I : Inv X pins σ H s) : ∀ b ∈ frs X.stack, H b = none := fun b hb => by
  rcases List.mem_cons.mp (I.stkSub b hb) with e | hb
  · rw [e]; exact I.free
  · obtain ⟨_, o, ho, _⟩ := I.ok.funs.mem hb
    exact I.base.free b o ho (I.ok.frf b hb) fun z => I.ok.exfs b z hb

/-- THE STEP: the untracked objects but the frame and the records at ch are kept (the callers' frames up to slots), the frame's map is kept, the new abstract heap is held -/
theorem Inv.step {g' : Array GenState} {t' : Nat} {d' : Drawn} {ch : List Addr} (I : Inv X pins σ H s)
    (hch : ∀ b ∈ ch, (b ∈ X.ex ∨ X.s₀.heap.objs.size ≤ b) ∧ b ≠ X.env.locals ∧ (∀ x c, X.env.cells.lookup x = some c → c ≠ b) ∧ ∀ p ∈ X.pn ++ pins, p.1 ≠ b)
    (keep : ∀ b o, b ≠ X.env.locals → b ∉ X.fs → b ∉ ch → s.heap.get? b = some o → H b = none → h'.get? b = some o)
    (slot : ∀ b o, b ≠ X.env.locals → b ∈ X.fs → b ∉ ch → s.heap.get? b = some o → H b = none → ∃ sl, h'.get? b = some { o with slots := sl }) (free : ∀ b o, b ∉ ch → s.heap.get? b = some o → H b = none → H' b = none)
    (there : ∀ b o, b ∉ ch → s.heap.get? b = some o → ∃ o', h'.get? b = some o')
    (tups : ∀ b xs, H b = some (.tup xs) → H' b = some (.tup xs)) (frzs : ∀ b o u, H b = some (.frz o u) → H' b = some (.frz o u)) (tbls : ∀ b ps, H b = some (.tbl ps) → ∃ more, H' b = some (.tbl (ps ++ more)))
    (ns : ∀ m, s.heap.Ns X.env.locals m → h'.Ns X.env.locals m) (hok : HOk X.prog X.w H' h') (hg : AllBare g') :
    Inv X pins σ H' { s with heap := h', gens := g', drawn := d', toks := t' } := by
  have neL : ∀ b o, X.s₀.heap.get? b = some o → b ≠ X.env.locals := fun b o e => Nat.ne_of_lt (Nat.lt_of_lt_of_le (Heap.lt_size e) I.ok.above)
  have neC : ∀ b o, X.s₀.heap.get? b = some o → b ∉ X.ex → b ∉ ch := fun b o e hx hb => by
    rcases (hch b hb).1 with z | z
    · exact hx z
    · exact absurd (Nat.lt_of_lt_of_le (Heap.lt_size e) z) (Nat.lt_irrefl _)
  have cellK : ∀ x c, X.env.cells.lookup x = some c → ∀ v, s.heap.IsCell c v → h'.IsCell c v := fun x c e v ⟨o, ho, hd⟩ => by
    have nch : c ∉ ch := fun z => (hch c z).2.2.1 x c e rfl
    by_cases hc : c ∈ X.fs
    · obtain ⟨sl, q⟩ := slot c o (I.cne x c e) hc nch ho (I.freeC x c e)
      exact ⟨_, q, hd⟩
    · exact ⟨o, keep c o (I.cne x c e) hc nch ho (I.freeC x c e), hd⟩
  refine ⟨I.ok, I.os, hg, ⟨fun b o e n hb hx => ?_, fun b o e n hb hx => ?_, fun b o e n hx => ?_, fun b o e hx => ?_, fun b xs e => tups b xs (I.base.tups b xs e), fun b o xs e => frzs b o xs (I.base.frzs b o xs e), fun b ps e => ?_⟩, ?_, fun x c e => ?_, ?_, fun x c e => ?_, fun p hp => ?_, hok, I.len⟩
  · exact keep b o (neL b o e) hb (neC b o e hx) (I.base.keep b o e n hb hx) (I.base.free b o e n hx)
  · obtain ⟨sl, e1⟩ := I.base.slot b o e n hb hx
    obtain ⟨sl', e2⟩ := slot b _ (neL b o e) hb (neC b o e hx) e1 (I.base.free b o e n hx)
    exact ⟨sl', e2⟩
  · obtain ⟨o', e1⟩ := I.base.there b o e hx
    exact free b o' (neC b o e hx) e1 (I.base.free b o e n hx)
  · obtain ⟨o', e1⟩ := I.base.there b o e hx
    exact there b o' (neC b o e hx) e1
  · obtain ⟨m1, e1⟩ := I.base.tbls b ps e
    obtain ⟨m2, e2⟩ := tbls b _ e1
    exact ⟨m1 ++ m2, by rw [e2, Array.append_assoc]⟩
  · obtain ⟨m, hn, hl⟩ := I.loc
    refine ⟨m, ns m hn, fun i x v e1 e2 e3 => ?_⟩
    obtain ⟨u, r, l⟩ := hl i x v e1 e2 e3
    refine ⟨u, r, ?_⟩
    rcases l with l | ⟨k, c, e, z⟩
    · exact .inl l
    · exact .inr ⟨k, c, e, cellK x c e _ z⟩
  · obtain ⟨v, z⟩ := I.cell x c e
    exact ⟨v, cellK x c e v z⟩
  · obtain ⟨m, ⟨o, _, _, ho, _⟩, _⟩ := I.loc
    exact free _ o (fun z => (hch _ z).2.1 rfl) ho I.free
  · obtain ⟨v, o, ho, hd⟩ := I.cell x c e
    exact free c o (fun z => (hch c z).2.2.1 x c e rfl) ho (I.freeC x c e)
  · obtain ⟨e, n, ne, nf, d⟩ := I.pin p hp
    have nch : p.1 ∉ ch := fun z => (hch p.1 z).2.2.2 p hp rfl
    exact ⟨keep p.1 p.2 ne nf nch e n, free p.1 p.2 nch e n, ne, nf, d⟩
/-- .. where the frame's own object is kept too -/
theorem Inv.un {t' : Nat} (I : Inv X pins σ H s) (u : Un X.fs [] H H' s.heap h') (hok : HOk X.prog X.w H' h') : Inv X pins σ H' { s with heap := h', toks := t' } := by
  obtain ⟨m, ⟨o, es, ep, ho, r⟩, _⟩ := id I.loc
  obtain ⟨sl, hL⟩ := u.any ho I.free (by simp)
  exact I.step (g' := s.gens) (d' := s.drawn) (ch := []) (fun _ z => nomatch z) (fun b o _ hb _ e n => u.keep b o e n hb (by simp)) (fun b o _ hb _ e n => u.slot b o e n hb (by simp)) (fun b o _ e n => u.free b o e n (by simp)) (fun b o _ e => u.there b o e (by simp)) u.tups u.frzs u.tbls (fun m' hm => by
    obtain ⟨o', es', ep', ho', r'⟩ := hm
    rw [ho] at ho'; cases ho'
    exact ⟨_, es', ep', hL, r'⟩) hok I.bare
/-- behind a call (or a comprehension's block): the slots of this frame may have changed too, the records at ch may have turned -/
theorem Inv.call {g' : Array GenState} {t' : Nat} {d' : Drawn} {ch : List Addr} (I : Inv X pins σ H s) (u : Un (frs X.stack) ch H H' s.heap h') (hok : HOk X.prog X.w H' h') (hg : AllBare g')
    (hch : ∀ b ∈ ch, (b ∈ X.ex ∨ X.s₀.heap.objs.size ≤ b) ∧ b ≠ X.env.locals ∧ (∀ x c, X.env.cells.lookup x = some c → c ≠ b) ∧ ∀ p ∈ X.pn ++ pins, p.1 ≠ b) :
    Inv X pins σ H' { s with heap := h', gens := g', drawn := d', toks := t' } := by
  obtain ⟨m, ⟨o, es, ep, ho, r⟩, _⟩ := id I.loc
  obtain ⟨sl, hL⟩ := u.any ho I.free fun z => (hch _ z).2.1 rfl
  exact I.step (ch := ch) hch (fun b o hL hb hc e n => u.keep b o e n (fun z => (List.mem_cons.mp (I.stkSub b z)).elim hL hb) hc) (fun b o _ _ hc e n => u.any e n hc) (fun b o hc e n => u.free b o e n hc) (fun b o hc e => u.there b o e hc) u.tups u.frzs u.tbls (fun m' hm => by
    obtain ⟨o', es', ep', ho', r'⟩ := hm
    rw [ho] at ho'; cases ho'
    exact ⟨_, es', ep', hL, r'⟩) hok hg
/-- an untracked record of ours (an iterator) has turned -/
theorem Inv.turned {t' : Nat} {it : Addr} (I : Inv X pins σ H s) (k : ∀ b o, b ≠ it → s.heap.get? b = some o → h'.get? b = some o) (hn : H it = none) (hL : it ≠ X.env.locals)
    (h1 : it ∈ X.ex ∨ X.s₀.heap.objs.size ≤ it) (h2 : ∀ x c, X.env.cells.lookup x = some c → c ≠ it) (h3 : ∀ p ∈ X.pn ++ pins, p.1 ≠ it) : Inv X pins σ H { s with heap := h', toks := t' } := by
  have nit : ∀ b u, H b = some u → b ≠ it := fun b u e z => by rw [z, hn] at e; cases e
  refine I.step (g' := s.gens) (d' := s.drawn) (ch := [it]) (fun b hb => ?_) (fun b o _ _ hc e _ => k b o (fun z => hc (by simp [z])) e) (fun b o _ _ hc e _ => ⟨o.slots, k b o (fun z => hc (by simp [z])) e⟩) (fun _ _ _ _ n => n)
    (fun b o hc e => ⟨o, k b o (fun z => hc (by simp [z])) e⟩) (fun _ _ e => e) (fun _ _ _ e => e) (fun b ps e => ⟨#[], by rw [e]; simp⟩) (fun m hm => ?_) (fun b u e => ?_) I.bare
  · have e : b = it := by simpa using hb
    subst e
    exact ⟨h1, hL, h2, h3⟩
  · obtain ⟨o, es, ep, ho, r⟩ := hm
    exact ⟨o, es, ep, k _ o (Ne.symm hL) ho, r⟩
  · refine (I.hok b u e).stay (fun c v hc q => k c v ?_ q) (fun _ q => q) fun _ _ q => q
    rcases hc with z | z
    · rw [z]; exact nit b u e
    · exact nit c _ z
theorem Inv.tok (I : Inv X pins σ H s) (t : Nat) : Inv X pins σ H { s with toks := t } := I.un (h' := s.heap) (t' := t) Un.refl I.hok
/-- all objects kept -/
theorem Inv.kept {t' : Nat} (I : Inv X pins σ H s) (k : ∀ b u, s.heap.get? b = some u → h'.get? b = some u) : Inv X pins σ H { s with heap := h', toks := t' } := I.un (Un.kept k) (I.hok.kept k)
/-- a new object laid and tracked -/
theorem Inv.laid {a : Addr} {o : HO} {t' : Nat} (I : Inv X pins σ H s) (k : ∀ b u, s.heap.get? b = some u → h'.get? b = some u) (hp : s.heap.objs.size ≤ a) (new : ObjOk X.prog X.w (upd H a o) h' a o) :
    Inv X pins σ (upd H a o) { s with heap := h', toks := t' } := I.un (Un.laid k hp (I.hok.fresh hp)) (I.hok.laid k hp new)
theorem Inv.pins_of {pins' : List (Addr × Obj)} (I : Inv X pins σ H s) (h : ∀ p ∈ pins', s.heap.get? p.1 = some p.2 ∧ H p.1 = none ∧ p.1 ≠ X.env.locals ∧ p.1 ∉ X.fs ∧ ∀ v, p.2.data ≠ .cell v) : Inv X pins' σ H s :=
  ⟨I.ok, I.os, I.bare, I.base, I.loc, I.cell, I.free, I.freeC, fun p hp => (List.mem_append.mp hp).elim (fun z => I.pin p (List.mem_append_left _ z)) (h p), I.hok, I.len⟩

theorem nodup_ix {N : List Str} (hN : N.Nodup) {i j : Nat} {x : Str} (a : N[i]? = some x) (b : N[j]? = some x) : i = j := by
  obtain ⟨h1, e1⟩ := List.getElem?_eq_some_iff.mp a
  obtain ⟨h2, e2⟩ := List.getElem?_eq_some_iff.mp b
  exact (List.getElem_inj hN).mp (e1.trans e2.symm)

/-- a name is stored; what changed -/
theorem store_ok2 {M : Model} {A : Around} {E : Value → Shared → Prop} {i : Nat} {x : Str} {v : V} {u : Value} {Q : Unit → Shared → Prop} (I : Inv X pins σ H s) (hN : X.N.Nodup) (hi : X.N[i]? = some x) (hx : Loc X.env.scope x) (r : RelV v u)
    (h : ∀ s', Inv X pins (σ.set i (some v)) H s' → (∃ a, Heap.SameBut a s.heap s'.heap ∧ (a = X.env.locals ∨ X.env.cells.lookup x = some a)) → Q () s') (hf : X.fn x = true ∨ X.env.scope.names.lookup x = some .local := by first | exact .inl rfl | exact .inr rfl | assumption) : wpAny M A (storeName X.env x u) Q E s := by
  obtain ⟨m, hn, hl⟩ := id I.loc
  have hcls : (X.env.scope.kind == .class || (X.env.scope.kind == .module && X.env.locals != X.env.globals)) = false := by rw [I.ok.kind]; rfl
  have hiσ : i < σ.length := by rw [I.len]; exact (List.getElem?_eq_some_iff.mp hi).1
  have cne := I.cne
  have tracked : ∀ {a : Addr} {h' : Heap}, (∃ o, s.heap.get? a = some o ∧ H a = none) → Heap.SameBut a s.heap h' → HOk X.prog X.w H h' := fun {a h'} ha hs b ob e => by
    obtain ⟨_, _, hfree⟩ := ha
    refine (I.hok b ob e).stay (fun c w' hc q => (hs.2 c ?_).trans q) (fun _ q => q) fun _ _ q => q
    rintro rfl
    rcases hc with rfl | hc
    · rw [hfree] at e; cases e
    · rw [hfree] at hc; cases hc
  rcases hx with hk | hk
  · refine wpAny_storeName_local hk hn (fun h' hn' hs => ?_) hcls
    obtain ⟨oL, _, _, hoL, _⟩ := id hn
    refine h _ ⟨I.ok, I.os, I.bare, ⟨fun b o e n hb hx => ?_, fun b o e n hb hx => ?_, I.base.free, fun b o e hx => ?_, I.base.tups, I.base.frzs, I.base.tbls⟩, ⟨_, hn', fun j y v' e1 e2 e3 => ?_⟩, fun y c e => ?_, I.free, I.freeC, fun p hp => ?_, tracked ⟨oL, hoL, I.free⟩ hs, by simpa using I.len⟩ ⟨_, hs, .inl rfl⟩
    · exact (hs.2 b (Nat.ne_of_lt (Nat.lt_of_lt_of_le (Heap.lt_size e) I.ok.above))).trans (I.base.keep b o e n hb hx)
    · obtain ⟨sl, e1⟩ := I.base.slot b o e n hb hx
      exact ⟨sl, (hs.2 b (Nat.ne_of_lt (Nat.lt_of_lt_of_le (Heap.lt_size e) I.ok.above))).trans e1⟩
    · obtain ⟨o', e1⟩ := I.base.there b o e hx
      exact ⟨o', (hs.2 b (Nat.ne_of_lt (Nat.lt_of_lt_of_le (Heap.lt_size e) I.ok.above))).trans e1⟩
    · by_cases hj : j = i
      · subst hj
        rw [hi] at e1; cases e1
        rw [List.getElem?_set_self hiσ] at e2
        cases e2
        exact ⟨u, r, .inl ⟨hk, by simp⟩⟩
      · rw [List.getElem?_set_ne (Ne.symm hj)] at e2
        obtain ⟨u', r', q⟩ := hl j y v' e1 e2 e3
        refine ⟨u', r', ?_⟩
        rcases q with ⟨k, e⟩ | ⟨k, c, e, z⟩
        · refine .inl ⟨k, ?_⟩
          have : y ≠ x := fun e => hj (nodup_ix hN e1 (e ▸ hi))
          simp [this, e]
        · exact .inr ⟨k, c, e, z.sameBut hs (cne y c e)⟩
    · obtain ⟨w', z⟩ := I.cell y c e
      exact ⟨w', z.sameBut hs (cne y c e)⟩
    · obtain ⟨e, n, ne, nf, d⟩ := I.pin p hp
      exact ⟨(hs.2 p.1 ne).trans e, n, ne, nf, d⟩
  · have hfn : X.fn x = true := by
      rcases hf with z | z
      · exact z
      · rw [z] at hk; cases hk
    obtain ⟨c, hc⟩ := I.ok.has x (.inl hk)
    obtain ⟨w', z⟩ := I.cell x c hc
    refine wpAny_storeName_cell I.ok.kind hk hc z (fun h' hc' hs => ?_)
    obtain ⟨oc, hoc, hocd⟩ := id z
    refine h { s with heap := h' } ⟨I.ok, I.os, I.bare, ⟨fun b o e n hb hx => ?_, fun b o e n hb hx => ?_, I.base.free, fun b o e hx => ?_, I.base.tups, I.base.frzs, I.base.tbls⟩, ⟨m, hn.sameBut hs (Ne.symm (cne x c hc)), fun j y v' e1 e2 e3 => ?_⟩, fun y c' e => ?_, I.free, I.freeC, fun p hp => ?_, tracked ⟨oc, hoc, I.freeC x c hc⟩ hs, by simpa using I.len⟩ ⟨c, hs, .inr hc⟩
    · exact (hs.2 b (Nat.ne_of_lt (Nat.lt_of_lt_of_le (Heap.lt_size e) (I.ok.cab x c hfn hc)))).trans (I.base.keep b o e n hb hx)
    · obtain ⟨sl, e1⟩ := I.base.slot b o e n hb hx
      exact ⟨sl, (hs.2 b (Nat.ne_of_lt (Nat.lt_of_lt_of_le (Heap.lt_size e) (I.ok.cab x c hfn hc)))).trans e1⟩
    · obtain ⟨o', e1⟩ := I.base.there b o e hx
      exact ⟨o', (hs.2 b (Nat.ne_of_lt (Nat.lt_of_lt_of_le (Heap.lt_size e) (I.ok.cab x c hfn hc)))).trans e1⟩
    · by_cases hj : j = i
      · subst hj
        rw [hi] at e1; cases e1
        rw [List.getElem?_set_self hiσ] at e2
        cases e2
        exact ⟨u, r, .inr ⟨.inl hk, c, hc, hc'⟩⟩
      · rw [List.getElem?_set_ne (Ne.symm hj)] at e2
        obtain ⟨u', r', q⟩ := hl j y v' e1 e2 e3
        refine ⟨u', r', ?_⟩
        rcases q with q | ⟨k, c', e, z'⟩
        · exact .inl q
        · refine .inr ⟨k, c', e, z'.sameBut hs ?_⟩
          rintro rfl
          exact hj (nodup_ix hN e1 (I.ok.inj _ _ _ e hc ▸ hi))
    · by_cases hcc : c' = c
      · subst hcc; exact ⟨_, hc'⟩
      · obtain ⟨w2, z2⟩ := I.cell y c' e
        exact ⟨w2, z2.sameBut hs hcc⟩
    · obtain ⟨e, n, ne, nf, d⟩ := I.pin p hp
      refine ⟨(hs.2 p.1 ?_).trans e, n, ne, nf, d⟩
      intro q
      rw [q, hoc] at e
      have q' : oc = p.2 := Option.some.inj e
      exact d w' (by rw [← q']; exact hocd)
theorem store_ok {M : Model} {A : Around} {E : Value → Shared → Prop} {i : Nat} {x : Str} {v : V} {u : Value} {Q : Unit → Shared → Prop} (I : Inv X pins σ H s) (hN : X.N.Nodup) (hi : X.N[i]? = some x) (hx : Loc X.env.scope x) (r : RelV v u)
    (h : ∀ s', Inv X pins (σ.set i (some v)) H s' → Q () s') (hf : X.fn x = true ∨ X.env.scope.names.lookup x = some .local := by first | exact .inl rfl | exact .inr rfl | assumption) : wpAny M A (storeName X.env x u) Q E s :=
  store_ok2 I hN hi hx r (fun s' I' _ => h s' I') hf
/-- behind a call or a block, the state as it is -/
theorem Inv.call' {s' : Shared} {ch : List Addr} (I : Inv X pins σ H s) (ho : s'.os = s.os) (u : Un (frs X.stack) ch H H' s.heap s'.heap) (hok : HOk X.prog X.w H' s'.heap) (hg : AllBare s'.gens)
    (hch : ∀ b ∈ ch, (b ∈ X.ex ∨ X.s₀.heap.objs.size ≤ b) ∧ b ≠ X.env.locals ∧ (∀ x c, X.env.cells.lookup x = some c → c ≠ b) ∧ ∀ p ∈ X.pn ++ pins, p.1 ≠ b) : Inv X pins σ H' s' := by
  obtain ⟨h', g', d', t', o'⟩ := s'
  have e : o' = s.os := ho
  subst e
  exact I.call (g' := g') (t' := t') (d' := d') u hok hg hch
end

/-- an exception: its class, its own dict's address (where it has one), the abstract heap behind it -/
abbrev XK := Value → Option Addr → Hp → Prop
abbrev St := List (Option V)
abbrev VK := V → Hp → Prop
/-- an expression's reading; a test's; an argument list's -/
abbrev TE := St → Hp → VK → Prop
abbrev TT := St → Hp → (Bool → Hp → Prop) → Prop
abbrev TA := St → Hp → (List V → Hp → Prop) → Prop
/-- what is wanted behind a statement -/
structure Ends where
  nx : St → Hp → Prop
  rt : VK
  bk : St → Hp → Prop := fun _ _ => False
  ct : St → Hp → Prop := fun _ _ => False
abbrev TS := Ends → St → Hp → Prop

def EP (X : Cx) (pins : List (Addr × Obj)) (σ : St) (Q : VK) (u : Value) (s' : Shared) : Prop := ∃ v H', Inv X pins σ H' s' ∧ RelV v u ∧ Q v H'
def TP (X : Cx) (pins : List (Addr × Obj)) (σ : St) (Q : Bool → Hp → Prop) (b : Bool) (s' : Shared) : Prop := ∃ H', Inv X pins σ H' s' ∧ Q b H'
def AP (X : Cx) (pins : List (Addr × Obj)) (σ : St) (Q : List V → Hp → Prop) (us : List Value) (s' : Shared) : Prop := ∃ vs H', Inv X pins σ H' s' ∧ Vals vs us ∧ Q vs H'
def SP (X : Cx) (pins : List (Addr × Obj)) (D : Ends) (f : Flow) (s' : Shared) : Prop :=
  match f with
  | .next => ∃ σ' H', Inv X pins σ' H' s' ∧ D.nx σ' H'
  | .brk => ∃ σ' H', Inv X pins σ' H' s' ∧ D.bk σ' H'
  | .cont => ∃ σ' H', Inv X pins σ' H' s' ∧ D.ct σ' H'
  | .ret u => ∃ v σ' H', Inv X pins σ' H' s' ∧ RelV v u ∧ D.rt v H'

def PE (X : Cx) (e : Expr) (t : TE) : Prop :=
  ∀ (pins : List (Addr × Obj)) (s : Shared) (σ : St) (H : Hp) (Q : VK), Inv X pins σ H s → t σ H Q → wpAny (model X.prog X.w) X.A (eval e X.env) (EP X pins σ Q) X.xe s
def PT (X : Cx) (e : Expr) (t : TT) : Prop :=
  ∀ (pins : List (Addr × Obj)) (s : Shared) (σ : St) (H : Hp) (Q : Bool → Hp → Prop), Inv X pins σ H s → t σ H Q → wpAny (model X.prog X.w) X.A (isTrue e X.env (eval e X.env)) (TP X pins σ Q) X.xe s
/-- a test whatever its 'whole' is (and, or) -/
def PW (X : Cx) (e : Expr) (t : TT) : Prop :=
  ∀ (whole : Sem Value) (pins : List (Addr × Obj)) (s : Shared) (σ : St) (H : Hp) (Q : Bool → Hp → Prop), Inv X pins σ H s → t σ H Q → wpAny (model X.prog X.w) X.A (isTrue e X.env whole) (TP X pins σ Q) X.xe s
theorem PW.pt {X : Cx} {e : Expr} {t : TT} (h : PW X e t) : PT X e t := h _
/-- an argument list (no star), from the left -/
def PA (X : Cx) (es : List Expr) (t : TA) : Prop :=
  ∀ (pos : Pos) (pins : List (Addr × Obj)) (s : Shared) (σ : St) (H : Hp) (Q : List V → Hp → Prop), Inv X pins σ H s → t σ H Q → wpAny (model X.prog X.w) X.A (spliced (backTo pos (starEach es X.env))) (AP X pins σ Q) X.xe s
def PS (X : Cx) (st : Stmt) (t : TS) : Prop :=
  ∀ (pins : List (Addr × Obj)) (s : Shared) (σ : St) (H : Hp) (D : Ends), Inv X pins σ H s → t D σ H → wpAny (model X.prog X.w) X.A (exec st X.env) (SP X pins D) X.xe s
def PSs (X : Cx) (st : List Stmt) (t : TS) : Prop :=
  ∀ (pins : List (Addr × Obj)) (s : Shared) (σ : St) (H : Hp) (D : Ends), Inv X pins σ H s → t D σ H → wpAny (model X.prog X.w) X.A (execs st X.env) (SP X pins D) X.xe s
/-- weaken the end -/
theorem thn {α : Type} {t : Sem α} {Q Q' : α → Shared → Prop} {M : Model} {A : Around} {E : Value → Shared → Prop} {s : Shared} (h : wpAny M A t Q E s) (hQ : ∀ a s, Q a s → Q' a s) : wpAny M A t Q' E s := wpAny_mono h hQ fun _ _ x => x
end L2

namespace L2
open PySem PySem.Spec PyProof.Rows
section
variable {X : Cx}

def tVar (i : Nat) : TE := fun σ H Q => ∃ v, σ[i]? = some (some v) ∧ Q v H
def tC (v : V) : TE := fun _ H Q => Q v H
theorem pe_var {i : Nat} {x : Str} {pos : Pos} (hN : X.N[i]? = some x) (hv : Vis X.env.scope x) (hd : (x == ("__debug__" : Str)) = false := by decide) (hcd : (x == ("__classdict__" : Str)) = false := by decide) : PE X (.Name x pos) (tVar i) := by
  intro pins s σ H Q I h
  obtain ⟨v, e, h⟩ := h
  obtain ⟨m, hn, hl⟩ := I.loc
  obtain ⟨u, r, l⟩ := hl i x v hN e hv
  have fin : EP X pins σ Q u s := ⟨v, H, I, r, h⟩
  rcases l with ⟨hk, hm⟩ | ⟨hk, c, hc, hcell⟩
  · exact wpAny_Name (wpAny_loadName_local I.ok.kind hk hn hm fin) hd
  · rcases hk with hk | hk
    · exact wpAny_Name (wpAny_loadName_cell I.ok.kind hk hc hcell fin) hd
    · exact wpAny_Name (wpAny_loadName_free I.ok.kind hk hc hcell fin hcd) hd
theorem pe_int {i j pos} : PE X (.Constant (.int i) j pos) (tC (.int i)) := fun _ _ _ H _ I h => wpAny_Constant_int ⟨.int i, H, I.tok _, ⟨_, rfl⟩, h⟩
theorem pe_bl {b j pos} : PE X (.Constant (.bool b) j pos) (tC (.bl b)) := fun _ _ _ H _ I h => Constant_bool ⟨.bl b, H, I, rfl, h⟩
theorem pe_non {j pos} : PE X (.Constant .none j pos) (tC .non) := fun _ _ _ H _ I h => Constant_none ⟨.non, H, I, rfl, h⟩
theorem pe_str {x j pos} : PE X (.Constant (.str x) j pos) (tC (.str x)) := fun _ _ _ H _ I h => Calls.Constant_str ⟨.str x, H, I.tok _, ⟨_, rfl⟩, h⟩

/-- a global name of the def -/
def Gl (X : Cx) (x : Str) : Prop := X.env.kindOf x = some .globalImplicit
theorem ld_glob {E : Value → Shared → Prop} {pins : List (Addr × Obj)} {s : Shared} {σ : St} {H : Hp} {x : Str} {u : Value} {pos : Pos} {Q : Value → Shared → Prop} (I : Inv X pins σ H s) (hg : Gl X x) (hm : X.mg x = some u) (h : Q u s)
    (hd : (x == ("__debug__" : Str)) = false := by decide) : wpAny (model X.prog X.w) X.A (eval (.Name x pos) X.env) Q E s :=
  Calls.Name_function_global I.ok.kind hg (Calls.loadGlobal_global (by rw [I.ok.glob]; exact I.mod.glob.keeps I.bk) hm h) hd
theorem ld_blt {E : Value → Shared → Prop} {pins : List (Addr × Obj)} {s : Shared} {σ : St} {H : Hp} {x : Str} {u : Value} {pos : Pos} {Q : Value → Shared → Prop} (I : Inv X pins σ H s) (hg : Gl X x) (hm : X.mg x = none) (hv : bootBuiltins x = some u) (h : Q u s)
    (hn : x ≠ "__name__" := by decide) (hd : (x == ("__debug__" : Str)) = false := by decide) : wpAny (model X.prog X.w) X.A (eval (.Name x pos) X.env) Q E s := by
  obtain ⟨mb, h1, h2⟩ := I.mod.blt
  exact Calls.Name_function_global I.ok.kind hg (Calls.loadGlobal_builtin (by rw [I.ok.glob]; exact I.mod.glob.keeps I.bk) hm (by rw [I.ok.blt]; exact h1.keeps I.bk) ((h2 x hn).trans hv) h) hd
/-- a module's constant, a class, a function, as a value -/
theorem pe_glob {x : Str} {v : V} {u : Value} {pos : Pos} (hg : Gl X x) (hm : X.mg x = some u) (r : RelV v u) (hd : (x == ("__debug__" : Str)) = false := by decide) : PE X (.Name x pos) (tC v) :=
  fun _ _ _ H _ I h => ld_glob I hg hm ⟨v, H, I, r, h⟩ hd
theorem pe_bltn {x : Str} {v : V} {u : Value} {pos : Pos} (hg : Gl X x) (hm : X.mg x = none) (hv : bootBuiltins x = some u) (r : RelV v u) (hn : x ≠ "__name__" := by decide) (hd : (x == ("__debug__" : Str)) = false := by decide) : PE X (.Name x pos) (tC v) :=
  fun _ _ _ H _ I h => ld_blt I hg hm hv ⟨v, H, I, r, h⟩ hn hd

variable {a b : Expr} {ta tb : TE} {pos : Pos}
def PC (X : Cx) (op : CmpOp) (a b : Expr) (t : TE) : Prop :=
  ∀ (pins : List (Addr × Obj)) (s : Shared) (σ : St) (H : Hp) (Q : VK), Inv X pins σ H s → t σ H Q →
    wpAny (model X.prog X.w) X.A (eval a X.env) (fun v s₁ => wpAny (model X.prog X.w) X.A (eval b X.env) (fun u s₂ => wpAny (model X.prog X.w) X.A (compareOp op v u) (EP X pins σ Q) X.xe s₂) X.xe s₁) X.xe s
theorem nobehind (b : Expr) {op : CmpOp} (h : op ≠ .In) (h2 : op ≠ .NotIn) : behindInMarks op b = false := by
  have e1 : (op == CmpOp.In) = false := by cases op <;> first | rfl | exact absurd rfl h
  have e2 : (op == CmpOp.NotIn) = false := by cases op <;> first | rfl | exact absurd rfl h2
  cases b <;> simp [behindInMarks, e1, e2]
/-- is None -/
def tIsN (ta : TE) : TE := fun σ H Q => ta σ H fun x H1 => Q (.bl (decide (x = .non))) H1
def tNotN (ta : TE) : TE := fun σ H Q => ta σ H fun x H1 => Q (.bl (!decide (x = .non))) H1
theorem RelV.none_iff {x : V} {v : Value} (r : RelV x v) : (v == Value.none) = decide (x = .non) := by
  cases x with
  | non => cases r; rfl
  | bl _ => cases r; rfl
  | int _ => obtain ⟨t, rfl⟩ := r; rfl
  | str _ => obtain ⟨t, rfl⟩ := r; rfl
  | byt _ => obtain ⟨t, rfl⟩ := r; rfl
  | flt _ => obtain ⟨t, rfl⟩ := r; rfl
  | ref _ => cases r; rfl
  | ty _ => cases r; rfl
theorem pc_isN {j pos'} (ha : PE X a ta) : PC X .Is a (.Constant .none j pos') (tIsN ta) := by
  intro pins s σ H Q I h
  refine thn (ha pins s σ H _ I h) fun v s1 ⟨x, H1, I1, r1, q1⟩ => ?_
  exact Constant_none (is_none_gen ⟨.bl _, H1, I1, by rw [r1.none_iff]; rfl, q1⟩)
theorem pc_notN {j pos'} (ha : PE X a ta) : PC X .IsNot a (.Constant .none j pos') (tNotN ta) := by
  intro pins s σ H Q I h
  refine thn (ha pins s σ H _ I h) fun v s1 ⟨x, H1, I1, r1, q1⟩ => ?_
  exact Constant_none (isnot_none_gen ⟨.bl _, H1, I1, by rw [r1.none_iff]; rfl, q1⟩)
/-- a comparison as a value, as a test -/
def tB (t : TE) : TT := fun σ H Q => t σ H fun x H1 => ∃ c, x = .bl c ∧ Q c H1
theorem pe_cmp {op : CmpOp} {t : TE} (h : PC X op a b t) (h1 : behindInMarks op b = false := by first | exact nobehind _ (by decide) (by decide) | rfl) : PE X (.Compare a [op] [b] pos) t := fun pins s σ H Q I hw => wpAny_Compare1 (h pins s σ H Q I hw) h1
theorem pt_cmp {op : CmpOp} {t : TE} (h : PC X op a b t) (h1 : behindInMarks op b = false := by first | exact nobehind _ (by decide) (by decide) | rfl) : PT X (.Compare a [op] [b] pos) (tB t) := by
  intro pins s σ H Q I hw
  refine wpAny_isTrue_Compare1 (thn (h pins s σ H _ I hw) fun v s1 h1 => thn h1 fun u s2 h2 => thn h2 fun c s3 ⟨x, H1, I1, r1, q1⟩ => ?_) h1
  obtain ⟨d, rfl, q⟩ := q1
  cases r1
  exact wpAny_truthy_bool ⟨H1, I1, q⟩
variable {tA tB' : TT} {rest : List Expr}
def tAnd (t u : TT) : TT := fun σ H Q => t σ H fun c H1 => if c = true then u σ H1 Q else Q false H1
def tOr (t u : TT) : TT := fun σ H Q => t σ H fun c H1 => if c = true then Q true H1 else u σ H1 Q
def tNot (t : TT) : TT := fun σ H Q => t σ H fun c H1 => Q (!c) H1
end
end L2

namespace L2
open PySem PySem.Spec PyProof.Rows

def SqL (K : PySem.W.Frag) (H : Hp) (a : Addr) (xs : List V) : Prop :=
  Rd H a (.lst xs) ∨
    ∃ (o : Obj) (its : Array Value) (n : Nat), K.lookup a = some o ∧ o.cls = .type "list" ∧ o.dict = none ∧ o.data = .seq its n ∧ its.size ≤ sizeLine ∧ Vals xs its.toList
def SqT (K : PySem.W.Frag) (H : Hp) (a : Addr) (xs : List V) : Prop :=
  Rd H a (.tup xs) ∨
    ∃ (o : Obj) (its : Array Value) (n : Nat), K.lookup a = some o ∧ o.cls = .type "tuple" ∧ o.data = .seq its n ∧ its.size ≤ sizeLine ∧ Vals xs its.toList
def absV : Value → Option V
  | .none => some .non
  | .bool b => some (.bl b)
  | .int i _ => some (.int i)
  | .str x _ => some (.str x)
  | .bytes b _ => some (.byt b)
  | .float b _ => some (.flt b)
  | .ref a => some (.ref a)
  | .type n => some (.ty n)
  | _ => none
theorem RelV.abs {x : V} {u : Value} (r : RelV x u) : absV u = some x := by
  cases x with
  | non => cases r; rfl
  | bl _ => cases r; rfl
  | int _ => obtain ⟨t, rfl⟩ := r; rfl
  | str _ => obtain ⟨t, rfl⟩ := r; rfl
  | byt _ => obtain ⟨t, rfl⟩ := r; rfl
  | flt _ => obtain ⟨t, rfl⟩ := r; rfl
  | ref _ => cases r; rfl
  | ty _ => cases r; rfl
theorem RelV.inj {x y : V} {u : Value} (r : RelV x u) (q : RelV y u) : x = y := Option.some.inj (r.abs.symm.trans q.abs)
theorem Vals.inj : ∀ {xs ys : List V} {us : List Value}, Vals xs us → Vals ys us → xs = ys
  | _, _, _, .nil, .nil => rfl
  | _, _, _, .cons r t, .cons r' t' => by rw [r.inj r', Vals.inj t t']
section
variable {X : Cx} {pins : List (Addr × Obj)} {σ : St} {H : Hp} {s : Shared} {a : Addr} {xs ys : List V}
theorem SqL.of {K : PySem.W.Frag} (h : H a = some (.lst xs)) : SqL K H a xs := .inl (.inl h)
theorem SqT.of {K : PySem.W.Frag} (h : H a = some (.tup xs)) : SqT K H a xs := .inl (.inl h)
theorem Inv.list (I : Inv X pins σ H s) (h : SqL X.K H a xs) : ∃ its : List Value, Vals xs its ∧ PlainL s.heap a its.toArray ∧ xs.length ≤ sizeLine := by
  rcases h with h | ⟨o, its, n, hk, hc, hd, hs, hz, r⟩
  · obtain ⟨z, its, n, r, e⟩ := h.ok I.hok
    exact ⟨its, r, ⟨_, n, e, rfl, rfl, rfl⟩, z⟩
  · refine ⟨its.toList, r, ⟨o, n, I.kIn a o hk, hc, hd, by simpa using hs⟩, ?_⟩
    have e := r.length
    simp only [Array.length_toList] at e
    omega
theorem Inv.tuple (I : Inv X pins σ H s) (h : SqT X.K H a xs) : ∃ its : List Value, Vals xs its ∧ IsTup s.heap a its.toArray ∧ xs.length ≤ sizeLine := by
  rcases h with h | ⟨o, its, n, hk, hc, hs, hz, r⟩
  · obtain ⟨z, its, r, p⟩ := h.ok I.hok
    exact ⟨its, r, p, z⟩
  · refine ⟨its.toList, r, ⟨o, I.kIn a o hk, hc, n, by simpa using hs⟩, ?_⟩
    have e := r.length
    simp only [Array.length_toList] at e
    omega
theorem Inv.list_inj (I : Inv X pins σ H s) (h : SqL X.K H a xs) (h' : SqL X.K H a ys) : xs = ys := by
  obtain ⟨its, r, ⟨o, n, e, _, _, d⟩, _⟩ := I.list h
  obtain ⟨its', r', ⟨o', n', e', _, _, d'⟩, _⟩ := I.list h'
  rw [e] at e'; cases e'
  rw [d] at d'
  injection d' with d1 _
  have : its = its' := by simpa using congrArg Array.toList d1
  subst this
  exact r.inj r'
theorem Inv.tuple_inj (I : Inv X pins σ H s) (h : SqT X.K H a xs) (h' : SqT X.K H a ys) : xs = ys := by
  obtain ⟨its, r, ⟨o, e, _, n, d⟩, _⟩ := I.tuple h
  obtain ⟨its', r', ⟨o', e', _, n', d'⟩, _⟩ := I.tuple h'
  rw [e] at e'; cases e'
  rw [d] at d'
  injection d' with d1 _
  have : its = its' := by simpa using congrArg Array.toList d1
  subst this
  exact r.inj r'
end

abbrev Cx.wish (X : Cx) (E : Value → Shared → Prop) : Cx := { X with xe := E }
/-- no exception leaves -/
abbrev Cx.nox (X : Cx) : Cx := X.wish fun _ _ => False
theorem Cx.Ok.wish {X : Cx} (ok : X.Ok) (E : Value → Shared → Prop) : (X.wish E).Ok :=
  ⟨ok.mod, ok.kind, ok.glob, ok.blt, ok.above, ok.inj, ok.has, ok.cab, ok.hd, ok.frames, ok.stk, ok.exf, ok.bs, ok.bsz, ok.noex, ok.exfs, ok.funs, ok.frf⟩
theorem Cx.Ok.unwish {X : Cx} {E : Value → Shared → Prop} (ok : (X.wish E).Ok) : X.Ok :=
  ⟨ok.mod, ok.kind, ok.glob, ok.blt, ok.above, ok.inj, ok.has, ok.cab, ok.hd, ok.frames, ok.stk, ok.exf, ok.bs, ok.bsz, ok.noex, ok.exfs, ok.funs, ok.frf⟩
section
variable {X : Cx} {pins : List (Addr × Obj)} {σ : St} {H : Hp} {s : Shared} {E : Value → Shared → Prop}
theorem Inv.wish (I : Inv X pins σ H s) (E : Value → Shared → Prop) : Inv (X.wish E) pins σ H s := ⟨I.ok.wish E, I.os, I.bare, I.base, I.loc, I.cell, I.free, I.freeC, I.pin, I.hok, I.len⟩
theorem Inv.unwish (I : Inv (X.wish E) pins σ H s) : Inv X pins σ H s := ⟨I.ok.unwish, I.os, I.bare, I.base, I.loc, I.cell, I.free, I.freeC, I.pin, I.hok, I.len⟩
theorem SP.unwish {D : Ends} {f : Flow} {s' : Shared} (h : SP (X.wish E) pins D f s') : SP X pins D f s' := by
  cases f with
  | next => obtain ⟨σ', H', I, q⟩ := h; exact ⟨σ', H', I.unwish, q⟩
  | brk => obtain ⟨σ', H', I, q⟩ := h; exact ⟨σ', H', I.unwish, q⟩
  | cont => obtain ⟨σ', H', I, q⟩ := h; exact ⟨σ', H', I.unwish, q⟩
  | ret u => obtain ⟨v, σ', H', I, r, q⟩ := h; exact ⟨v, σ', H', I.unwish, r, q⟩
theorem PE.nox {e : Expr} {t : TE} (h : PE X.nox e t) : PE X e t := fun pins s σ H Q I hw =>
  wpAny_mono (h pins s σ H Q (I.wish _) hw) (fun _ _ ⟨v, H', I', r, q⟩ => ⟨v, H', I'.unwish, r, q⟩) fun _ _ z => False.elim z
theorem PT.nox {e : Expr} {t : TT} (h : PT X.nox e t) : PT X e t := fun pins s σ H Q I hw =>
  wpAny_mono (h pins s σ H Q (I.wish _) hw) (fun _ _ ⟨H', I', q⟩ => ⟨H', I'.unwish, q⟩) fun _ _ z => False.elim z
theorem PSs.nox {st : List Stmt} {t : TS} (h : PSs X.nox st t) : PSs X st t := fun pins s σ H D I hw =>
  wpAny_mono (h pins s σ H D (I.wish _) hw) (fun _ _ q => q.unwish) fun _ _ z => False.elim z
end

section
variable {X : Cx} {st : Stmt} {rest : List Stmt} {t u : TS} {e : Expr} {te : TE} {pos : Pos}
end

abbrev TG := V → St → Hp → (St → Hp → Prop) → Prop
abbrev TGs := List V → St → Hp → (St → Hp → Prop) → Prop
def PG (X : Cx) (target : Expr) (t : TG) : Prop :=
  ∀ (pins : List (Addr × Obj)) (s : Shared) (σ : St) (H : Hp) (v : V) (u : Value) (Q : St → Hp → Prop), Inv X pins σ H s → RelV v u → t v σ H Q →
    wpAny (model X.prog X.w) X.A (assign target X.env u) (fun _ s' => ∃ σ' H', Inv X pins σ' H' s' ∧ Q σ' H') X.xe s
/-- several targets, one after another -/
def PGs (X : Cx) (ts : List Expr) (t : TGs) : Prop :=
  ∀ (pins : List (Addr × Obj)) (s : Shared) (σ : St) (H : Hp) (vs : List V) (us : List Value) (Q : St → Hp → Prop), Inv X pins σ H s → Vals vs us → t vs σ H Q →
    wpAny (model X.prog X.w) X.A (assignInOrder ((assignEach ts X.env).map (·.2)) us) (fun _ s' => ∃ σ' H', Inv X pins σ' H' s' ∧ Q σ' H') X.xe s
section
variable {X : Cx} {pos : Pos}
def gName (i : Nat) : TG := fun v σ H Q => Q (σ.set i (some v)) H
theorem pg_name {i : Nat} {x : Str} (hN : X.N.Nodup) (hi : X.N[i]? = some x) (hx : Loc X.env.scope x) (hf : X.fn x = true ∨ X.env.scope.names.lookup x = some .local := by first | exact .inl rfl | exact .inr rfl | assumption) : PG X (.Name x pos) (gName i) := by
  intro pins s σ H v u Q I r h
  exact wpAny_assign_Name (store_ok I hN hi hx r (fun s' I' => ⟨_, H, I', h⟩) hf)
def gNil : TGs := fun vs σ H Q => vs = [] ∧ Q σ H
def gCons (t : TG) (u : TGs) : TGs := fun vs σ H Q => ∃ v r, vs = v :: r ∧ t v σ H fun σ' H' => u r σ' H' Q
theorem pgs_nil : PGs X [] gNil := by
  intro pins s σ H vs us Q I r h
  obtain ⟨e, h⟩ := h
  subst e
  cases r
  exact assignInOrder_nil ⟨σ, H, I, h⟩
theorem pgs_cons {e : Expr} {es : List Expr} {t : TG} {u : TGs} (h1 : PG X e t) (h2 : PGs X es u)
    (hs : (assignEach (e :: es) X.env).map (·.2) = assign e X.env :: (assignEach es X.env).map (·.2) := by rfl) : PGs X (e :: es) (gCons t u) := by
  intro pins s σ H vs us Q I r h
  obtain ⟨v, vr, e1, h⟩ := h
  subst e1
  cases r with
  | cons r rr =>
    rw [hs]
    refine assignInOrder_cons (thn (h1 pins s σ H _ _ _ I r h) fun _ s1 ⟨σ1, H1, I1, q1⟩ => ?_)
    exact h2 pins s1 σ1 H1 _ _ Q I1 rr q1
/-- (a, b, ..) = a tuple of that length -/
def gTup (K : PySem.W.Frag) (n : Nat) (t : TGs) : TG := fun v σ H Q => ∃ a xs, v = .ref a ∧ SqT K H a xs ∧ xs.length = n ∧ t xs σ H Q
theorem pg_tup {es : List Expr} {k : Nat} {t : TGs} {n : Nat} (hc : X.calm = true) (h : PGs X es t)
    (hn : (assignEach es X.env).length = n := by rfl) (hst : (assignEach es X.env).findIdx? (·.1) = none := by rfl) : PG X (.Tuple es k pos) (gTup X.K n t) := by
  intro pins s σ H v u Q I r hw
  obtain ⟨a, xs, e1, hq, hl, hw⟩ := hw
  subst e1
  cases r
  obtain ⟨its, rv, ht, hz⟩ := I.tuple hq
  refine assign_Tuple_tuple (I.ok.hd hc) ht (by simp [hn, ← hl, rv.length]) hst fun h' hx => ?_
  have I1 : Inv X pins σ H { s with heap := h' } := I.kept (t' := s.toks) fun b o e => hx b o (Nat.ne_of_lt (Heap.lt_size e)) e
  exact h pins _ σ H xs _ Q I1 (by simpa using rv) hw
/-- target = value -/
def tAsg (te : TE) (g : TG) : TS := fun D σ H => te σ H fun x H1 => g x σ H1 D.nx
theorem ps_asg {tg e : Expr} {te : TE} {g : TG} (he : PE X e te) (hg : PG X tg g) (hs : swapsWithSole [tg] e pos.line X.env = pure false := by rfl) (hw : swappedStores [tg] e X.env = pure none := by rfl)
    (h1 : (assignEach [tg] X.env).map (·.2) = [assign tg X.env] := by rfl) : PS X (.Assign [tg] e pos) (tAsg te g) := by
  intro pins s σ H D I h
  refine wpAny_Assign_stores (thn (he pins s σ H _ I h) fun v s1 ⟨x, H1, I1, r1, q1⟩ => ?_) hs hw
  rw [h1]
  exact thn (hg pins s1 σ H1 x v _ I1 r1 q1) fun _ s2 q => q
/-- name = value -/
theorem ps_set {i : Nat} {x : Str} {e : Expr} {te : TE} {pos' : Pos} (hN : X.N.Nodup) (hi : X.N[i]? = some x) (hx : Loc X.env.scope x) (he : PE X e te) (hs : swapsWith e (some (.Name x pos')) pos.line X.env = pure false := by rfl) (hf : X.fn x = true ∨ X.env.scope.names.lookup x = some .local := by first | exact .inl rfl | exact .inr rfl | assumption) :
    PS X (.Assign [.Name x pos'] e pos) (tAsg te (gName i)) := by
  intro pins s σ H D I h
  refine wpAny_Assign_Name (thn (he pins s σ H _ I h) fun v s1 ⟨y, H1, I1, r1, q1⟩ => ?_) hs
  exact store_ok I1 hN hi hx r1 (fun s2 I2 => ⟨_, H1, I2, q1⟩) hf
end

section
variable {X : Cx} {pos : Pos}
end

/-- at turn i: it yields x (the heap may grow), or it stops -/
structure It where
  go : Nat → Hp → Prop
  yld : Nat → Hp → V → Hp → Prop
  stop : Nat → Hp → Prop
/-- the iterator's own objects may turn: they are not the frame's, not pinned, younger than the entry (or a comprehension's own) -/
def FpOk (X : Cx) (pins : List (Addr × Obj)) (H : Hp) (b : Addr) : Prop :=
  H b = none ∧ b ≠ X.env.locals ∧ b ∉ X.fs ∧ (b ∈ X.ex ∨ X.s₀.heap.objs.size ≤ b) ∧ (∀ x c, X.env.cells.lookup x = some c → c ≠ b) ∧ ∀ p ∈ X.pn ++ pins, p.1 ≠ b
theorem Inv.fpOk {X : Cx} {pins : List (Addr × Obj)} {σ : St} {H H' : Hp} {s : Shared} {b : Addr} (I : Inv X pins σ H s) (hb : s.heap.objs.size ≤ b) (hn : H' b = none) : FpOk X pins H' b := by
  refine ⟨hn, Nat.ne_of_gt (Nat.lt_of_lt_of_le I.lt hb), I.nofs hb, .inr (Nat.le_trans I.sz hb), fun x c e z => ?_, fun p hp z => ?_⟩
  · obtain ⟨v, q⟩ := I.cell x c e
    exact absurd (Nat.lt_of_lt_of_le q.lt (by rw [z]; exact hb)) (Nat.lt_irrefl _)
  · exact absurd (Nat.lt_of_lt_of_le (Heap.lt_size (I.pin p hp).1) (by rw [z]; exact hb)) (Nat.lt_irrefl _)
structure Turn (P : Program) (w : World) (K : PySem.W.Frag) (tg : Expr) (J : It) (fp : List Addr) (it : Addr) (tn : Nat → Heap → Prop) : Prop where
  mem : it ∈ fp
  obj : ∀ i h, tn i h → ∀ b ∈ fp, ∃ o, h.get? b = some o ∧ ∀ v, o.data ≠ .cell v
  keep : ∀ i h h', tn i h → (∀ b ∈ fp, ∀ o, h.get? b = some o → h'.get? b = some o) → tn i h'
  item : ∀ (X : Cx), X.prog = P → X.w = w → X.K = K → X.calm = true → ∀ (i : Nat) (pins : List (Addr × Obj)) (s : Shared) (σ : St) (H : Hp) (E : Value → Shared → Prop), Inv X pins σ H s → (∀ b ∈ fp, FpOk X pins H b) → tn i s.heap → J.go i H →
    wpAny (model P w) X.A (pyNext (.ref it)) (fun r s1 => ∃ u, r = some u ∧
      wpAny (model P w) X.A (letOwnedTupleGo tg (.ref it) u) (fun _ s2 => ∃ x H', Inv X pins σ H' s2 ∧ RelV x u ∧ J.yld i H x H' ∧ tn (i + 1) s2.heap ∧ ∀ b ∈ fp, H' b = none) E s1) E s
  done : ∀ (X : Cx), X.prog = P → X.w = w → X.K = K → X.calm = true → ∀ (i : Nat) (pins : List (Addr × Obj)) (s : Shared) (σ : St) (H : Hp) (E : Value → Shared → Prop), Inv X pins σ H s → (∀ b ∈ fp, FpOk X pins H b) → tn i s.heap → J.stop i H →
    wpAny (model P w) X.A (pyNext (.ref it)) (fun r s1 => r = none ∧ Inv X pins σ H s1) E s
  self : ∀ (A : Around) (i : Nat) (s : Shared) (Q : Value → Shared → Prop) (E : Value → Shared → Prop), tn i s.heap → Q (.ref it) s → wpAny (model P w) A (pyIter (.ref it)) Q E s
abbrev TI := St → Hp → (It → Hp → Prop) → Prop
/-- an iterator has come -/
def PIE (X : Cx) (pins : List (Addr × Obj)) (σ : St) (tg : Expr) (R : It → Hp → Prop) (itv : Value) (s2 : Shared) : Prop :=
  ∃ (it : Addr) (fp : List Addr) (tn : Nat → Heap → Prop) (J : It) (H' : Hp), itv = .ref it ∧ Inv X pins σ H' s2 ∧ Turn X.prog X.w X.K tg J fp it tn ∧ tn 0 s2.heap ∧ (∀ b ∈ fp, FpOk X pins H' b) ∧ R J H'
def PI (X : Cx) (tg iter : Expr) (wi : TI) : Prop :=
  ∀ (pins : List (Addr × Obj)) (s : Shared) (σ : St) (H : Hp) (R : It → Hp → Prop), Inv X pins σ H s → wi σ H R →
    wpAny (model X.prog X.w) X.A (eval iter X.env) (fun v s1 => wpAny (model X.prog X.w) X.A (pyIter v) (PIE X pins σ tg R) X.xe s1) X.xe s

/-- the step ahead of the store is nothing for an iterator that keeps no tuple -/
theorem go_of {M : Model} {A : Around} {E : Value → Shared → Prop} {s : Shared} {tg : Expr} {it : Addr} {u : Value} {o : Obj} {n : String} {vs : Array Value} {Q : Unit → Shared → Prop} (ho : s.heap.get? it = some o) (hc : o.cls = .type n) (hd : o.data = .fields vs)
    (hn : ["enumerate", "zip", "dict_itemiterator", "dict_reverseitemiterator", "odict_iterator", "itertools.zip_longest", "itertools.pairwise"].contains n = false) (hQ : Q () s) : wpAny M A (letOwnedTupleGo tg (.ref it) u) Q E s := by
  unfold letOwnedTupleGo
  cases tg <;> first
    | exact wpAny_pure hQ
    | (cases u <;> first
        | exact wpAny_pure hQ
        | (refine wpAny_bind (wpAny_load ho ?_)
           rw [hc, hd]
           show wpAny M A (if (["enumerate", "zip", "dict_itemiterator", "dict_reverseitemiterator", "odict_iterator", "itertools.zip_longest", "itertools.pairwise"].contains n && vs[0]? == some (rawInt _)) = true then _ else _) Q E s
           rw [if_neg (by intro h; rw [hn, Bool.false_and] at h; cases h)]
           exact wpAny_pure hQ))

/-- the list at a, as it stands at each turn (a loop may append to it) -/
def Itl (K : PySem.W.Frag) (a : Addr) : It :=
  ⟨fun i H => ∃ xs x, SqL K H a xs ∧ xs[i]? = some x, fun i H x H' => H' = H ∧ ∀ xs, SqL K H a xs → xs[i]? = some x, fun i H => ∃ xs, SqL K H a xs ∧ xs.length ≤ i⟩
def Itt (K : PySem.W.Frag) (a : Addr) : It :=
  ⟨fun i H => ∃ xs x, SqT K H a xs ∧ xs[i]? = some x, fun i H x H' => H' = H ∧ ∀ xs, SqT K H a xs → xs[i]? = some x, fun i H => ∃ xs, SqT K H a xs ∧ xs.length ≤ i⟩
theorem turn_list {P : Program} {w : World} {K : PySem.W.Frag} {tg : Expr} (a it : Addr) : Turn P w K tg (Itl K a) [it] it (fun i h => h.IsListIter it a i) where
  mem := by simp
  obj := fun i h st b hb => by
    have e : b = it := by simpa using hb
    subst e
    obtain ⟨o, e, c, d⟩ := st
    exact ⟨o, e, fun v z => by rw [d] at z; cases z⟩
  keep := fun i h h' st k => st.at fun o e => k it (by simp) o e
  item := by
    intro X hP hw hK hc i pins s σ H E I hf st hg
    subst hP hw hK
    obtain ⟨xs, x, hq, hx⟩ := hg
    obtain ⟨its, rv, p, hz⟩ := I.list hq
    obtain ⟨u, hu, ru⟩ := rv.get hx
    obtain ⟨f0, f1, f2, f3, f4, f5⟩ := hf it (by simp)
    refine wpAny_pyNext_list_item st p.isList (x := u) (by simpa using hu) fun h' st' sb => ?_
    have I1 : Inv X pins σ H { s with heap := h' } := I.turned (t' := s.toks) (fun b o hb e => (sb.2 b hb).trans e) f0 f1 f3 f4 f5
    obtain ⟨o, e, c, d⟩ := id st'
    exact ⟨u, rfl, go_of (s := { s with heap := h' }) e c d (by decide) ⟨x, H, I1, ru, ⟨rfl, fun ys hy => by rw [I.list_inj hy hq]; exact hx⟩, st', fun b hb => (hf b hb).1⟩⟩
  done := by
    intro X hP hw hK hc i pins s σ H E I hf st hg
    subst hP hw hK
    obtain ⟨xs, hq, hx⟩ := hg
    obtain ⟨its, rv, p, hz⟩ := I.list hq
    obtain ⟨f0, f1, f2, f3, f4, f5⟩ := hf it (by simp)
    have hl := rv.length
    exact wpAny_pyNext_list_end (I.ok.hd hc) st p.isList (by simp; omega) fun h' eb => ⟨rfl, I.turned (t' := s.toks) (fun b o hb e => eb b o hb e) f0 f1 f3 f4 f5⟩
  self := fun _ _ _ _ _ st h => wpAny_pyIter_listiter st h
theorem turn_tuple {P : Program} {w : World} {K : PySem.W.Frag} {tg : Expr} (a it : Addr) : Turn P w K tg (Itt K a) [it] it (fun i h => h.IsTupleIter it a i) where
  mem := by simp
  obj := fun i h st b hb => by
    have e : b = it := by simpa using hb
    subst e
    obtain ⟨o, e, c, d⟩ := st
    exact ⟨o, e, fun v z => by rw [d] at z; cases z⟩
  keep := fun i h h' st k => st.at fun o e => k it (by simp) o e
  item := by
    intro X hP hw hK hc i pins s σ H E I hf st hg
    subst hP hw hK
    obtain ⟨xs, x, hq, hx⟩ := hg
    obtain ⟨its, rv, p, hz⟩ := I.tuple hq
    obtain ⟨u, hu, ru⟩ := rv.get hx
    obtain ⟨f0, f1, f2, f3, f4, f5⟩ := hf it (by simp)
    refine wpAny_pyNext_tuple_item st (show s.heap.IsTuple a its.toArray from p) (x := u) (by simpa using hu) fun h' st' sb => ?_
    have I1 : Inv X pins σ H { s with heap := h' } := I.turned (t' := s.toks) (fun b o hb e => (sb.2 b hb).trans e) f0 f1 f3 f4 f5
    obtain ⟨o, e, c, d⟩ := id st'
    exact ⟨u, rfl, go_of (s := { s with heap := h' }) e c d (by decide) ⟨x, H, I1, ru, ⟨rfl, fun ys hy => by rw [I.tuple_inj hy hq]; exact hx⟩, st', fun b hb => (hf b hb).1⟩⟩
  done := by
    intro X hP hw hK hc i pins s σ H E I hf st hg
    subst hP hw hK
    obtain ⟨xs, hq, hx⟩ := hg
    obtain ⟨its, rv, p, hz⟩ := I.tuple hq
    obtain ⟨f0, f1, f2, f3, f4, f5⟩ := hf it (by simp)
    have hl := rv.length
    exact wpAny_pyNext_tuple_end (I.ok.hd hc) st (show s.heap.IsTuple a its.toArray from p) (by simp; omega) fun h' eb => ⟨rfl, I.turned (t' := s.toks) (fun b o hb e => eb b o hb e) f0 f1 f3 f4 f5⟩
  self := fun _ _ _ _ _ st h => wpAny_pyIter_tupleiter st h
end L2

namespace L2
open PySem PySem.Spec PyProof.Rows
section
variable {X : Cx} {tg : Expr}
def iList (K : PySem.W.Frag) (tl : TE) : TI := fun σ H R => tl σ H fun x H1 => ∃ a, x = .ref a ∧ (∃ xs, SqL K H1 a xs) ∧ R (Itl K a) H1
def iTup (K : PySem.W.Frag) (tl : TE) : TI := fun σ H R => tl σ H fun x H1 => ∃ a, x = .ref a ∧ (∃ xs, SqT K H1 a xs) ∧ R (Itt K a) H1
theorem pi_list {l : Expr} {tl : TE} (hl : PE X l tl) : PI X tg l (iList X.K tl) := by
  intro pins s σ H R I h
  refine thn (hl pins s σ H _ I h) fun v s1 ⟨x, H1, I1, r1, q1⟩ => ?_
  obtain ⟨a, e, ⟨xs, hq⟩, q⟩ := q1
  subst e
  cases r1
  obtain ⟨its, rv, p, hz⟩ := I1.list hq
  refine wpAny_pyIter_list p.isList ?_
  refine ⟨s1.heap.objs.size, [s1.heap.objs.size], _, _, H1, rfl, I1.kept (t' := s1.toks) fun b o e => Heap.get?_push_of_some _ e, turn_list a _, ⟨_, Heap.get?_push_size _ rfl, rfl, rfl⟩, fun b hb => ?_, q⟩
  have e : b = s1.heap.objs.size := by simpa using hb
  subst e
  exact I1.fpOk (Nat.le_refl _) (I1.hok.fresh (Nat.le_refl _))
theorem pi_tup {l : Expr} {tl : TE} (hl : PE X l tl) : PI X tg l (iTup X.K tl) := by
  intro pins s σ H R I h
  refine thn (hl pins s σ H _ I h) fun v s1 ⟨x, H1, I1, r1, q1⟩ => ?_
  obtain ⟨a, e, ⟨xs, hq⟩, q⟩ := q1
  subst e
  cases r1
  obtain ⟨its, rv, p, hz⟩ := I1.tuple hq
  refine wpAny_pyIter_tuple (show s1.heap.IsTuple a its.toArray from p) ?_
  refine ⟨s1.heap.objs.size, [s1.heap.objs.size], _, _, H1, rfl, I1.kept (t' := s1.toks) fun b o e => Heap.get?_push_of_some _ e, turn_tuple a _, ⟨_, Heap.get?_push_size _ rfl, rfl, rfl⟩, fun b hb => ?_, q⟩
  have e : b = s1.heap.objs.size := by simpa using hb
  subst e
  exact I1.fpOk (Nat.le_refl _) (I1.hok.fresh (Nat.le_refl _))
/-- W: the invariant by the turn and a measure; N: what the body is to reach -/
def tFor (wi : TI) (g : TG) (tb : TS) : TS := fun D σ H => wi σ H fun J H1 => ∃ W : Nat → Nat → St → Hp → Prop, (∃ m, W 0 m σ H1) ∧ ∀ i m σ H, W i m σ H →
  (J.stop i H ∧ D.nx σ H) ∨ (J.go i H ∧ ∃ N : St → Hp → Prop, (∀ σ' H', N σ' H' → ∃ m', m' < m ∧ W (i + 1) m' σ' H') ∧ ∀ x H', J.yld i H x H' → g x σ H' fun σ2 H2 => tb { D with nx := N, ct := N, bk := D.nx } σ2 H2)
/-- the records at fp as they stand -/
def pinsAt (fp : List Addr) (h : Heap) : List (Addr × Obj) := fp.filterMap fun b => (h.get? b).map fun o => (b, o)
theorem mem_pinsAt {fp : List Addr} {h : Heap} {b : Addr} {o : Obj} (hb : b ∈ fp) (e : h.get? b = some o) : (b, o) ∈ pinsAt fp h := List.mem_filterMap.mpr ⟨b, hb, by rw [e]; rfl⟩
theorem of_pinsAt {fp : List Addr} {h : Heap} {p : Addr × Obj} (hp : p ∈ pinsAt fp h) : p.1 ∈ fp ∧ h.get? p.1 = some p.2 := by
  obtain ⟨b, hb, e⟩ := List.mem_filterMap.mp hp
  cases q : h.get? b with
  | none => rw [q] at e; cases e
  | some o =>
    rw [q] at e
    have e' : (b, o) = p := Option.some.inj e
    subst e'
    exact ⟨hb, q⟩
theorem Inv.pinned {pins : List (Addr × Obj)} {σ : St} {H : Hp} {s : Shared} {fp : List Addr} (I : Inv X pins σ H s) (hf : ∀ b ∈ fp, FpOk X pins H b) (ho : ∀ b ∈ fp, ∃ o, s.heap.get? b = some o ∧ ∀ v, o.data ≠ .cell v) : Inv X (pins ++ pinsAt fp s.heap) σ H s :=
  I.pins_of fun p hp => (List.mem_append.mp hp).elim (fun z => I.pin p (List.mem_append_right _ z)) fun z => by
    obtain ⟨hb, e⟩ := of_pinsAt z
    obtain ⟨f0, f1, f2, _⟩ := hf p.1 hb
    obtain ⟨o, e', d⟩ := ho p.1 hb
    rw [e] at e'; cases e'
    exact ⟨e, f0, f1, f2, d⟩
theorem Inv.unpinned {pins pl : List (Addr × Obj)} {σ : St} {H : Hp} {s : Shared} (I : Inv X (pins ++ pl) σ H s) : Inv X pins σ H s := I.pins_of fun p hp => I.pin p (List.mem_append_right _ (List.mem_append_left _ hp))
theorem ps_for {iter : Expr} {body : List Stmt} {wi : TI} {g : TG} {tb : TS} {pos : Pos} (hp : PassesOwn (model X.prog X.w) X.A X.env X.xe) (hc : X.calm = true) (hi : PI X tg iter wi) (hg : PG X tg g) (hb : PSs X body tb)
    (hs : ∀ x, foldedSetIterable iter X.env x = pure x := by intro _; rfl) : PS X (.For tg iter body [] pos) (tFor wi g tb) := by
  intro pins s σ H D I h
  refine wpAny_For (thn (hi pins s σ H _ I h) fun v s1 h1 => thn h1 fun itv s2 h2 => ?_) hs
  obtain ⟨it, fp, tn, J, H2, e, I2, T, st2, f2, W, ⟨m0, w0⟩, turn⟩ := h2
  subst e
  -- what stays true of the iterator's objects through the loop
  have stat : ∀ {H' : Hp}, (∀ b ∈ fp, H' b = none) → ∀ b ∈ fp, FpOk X pins H' b := fun hn b hb => ⟨hn b hb, (f2 b hb).2⟩
  refine codeAny_forLoop_any (fun n s' => ∃ i σ' H', Inv X pins σ' H' s' ∧ tn i s'.heap ∧ (∀ b ∈ fp, H' b = none) ∧ W i n σ' H') ?_ m0 ⟨0, σ, H2, I2, st2, fun b hb => (f2 b hb).1, w0⟩
  rintro n s3 ⟨i, σ3, H3, I3, st3, fr3, w3⟩
  rcases turn i n σ3 H3 w3 with ⟨stop, qn⟩ | ⟨go, N, hN, step⟩
  · refine wpAny_passesOwn hp (thn (T.done X rfl rfl rfl hc i pins s3 σ3 H3 X.xe I3 (stat fr3) st3 stop) fun r s4 ⟨hr, I4⟩ => ?_)
    subst hr
    exact wpAny_execs_nil ⟨σ3, H3, I4, qn⟩
  · refine wpAny_passesOwn hp (thn (T.item X rfl rfl rfl hc i pins s3 σ3 H3 X.xe I3 (stat fr3) st3 go) fun r s4 ⟨u, hr, h4⟩ => ?_)
    subst hr
    refine wpAny_passesOwn hp (thn h4 fun _ s5 ⟨x, H5, I5, r5, y5, st5, fr5⟩ => ?_)
    have I5' := I5.pinned (stat fr5) (T.obj _ _ st5)
    refine wpAny_passesOwn hp (thn (hg _ s5 σ3 H5 x u _ I5' r5 (step x H5 y5)) fun _ s6 ⟨σ6, H6, I6, q6⟩ => ?_)
    refine wpAny_passesOwn hp (thn (hb _ s6 σ6 H6 _ I6 q6) fun f s7 q7 => ?_)
    have again : ∀ {σ7 : St} {H7 : Hp}, Inv X (pins ++ pinsAt fp s5.heap) σ7 H7 s7 → N σ7 H7 → ∃ m, m < n ∧ ∃ i σ' H', Inv X pins σ' H' s7 ∧ tn i s7.heap ∧ (∀ b ∈ fp, H' b = none) ∧ W i m σ' H' := fun {σ7 H7} I7 n7 => by
      obtain ⟨m', hm, w7⟩ := hN σ7 H7 n7
      refine ⟨m', hm, i + 1, σ7, H7, I7.unpinned, T.keep _ _ _ st5 fun b hb o e => (I7.pin (b, o) (List.mem_append_right _ (List.mem_append_right _ (mem_pinsAt hb e)))).1, fun b hb => ?_, w7⟩
      obtain ⟨o, e, d⟩ := T.obj _ _ st5 b hb
      exact (I7.pin (b, o) (List.mem_append_right _ (List.mem_append_right _ (mem_pinsAt hb e)))).2.1
    cases f with
    | next => obtain ⟨σ7, H7, I7, n7⟩ := q7; exact again I7 n7
    | cont => obtain ⟨σ7, H7, I7, n7⟩ := q7; exact again I7 n7
    | brk => obtain ⟨σ7, H7, I7, q7⟩ := q7; exact ⟨σ7, H7, I7.unpinned, q7⟩
    | ret v => obtain ⟨x7, σ7, H7, I7, r7, q7⟩ := q7; exact ⟨x7, σ7, H7, I7.unpinned, r7, q7⟩
end

end L2

namespace L2
open PySem PySem.Spec PyProof.Rows

abbrev R2 := V → V → Hp → VK → Prop
/-- a two-place operation on values: f is binaryOp op, inplaceOp op or compareOp op -/
def OpR (X : Cx) (f : Value → Value → Sem Value) (r : R2) : Prop :=
  ∀ (pins : List (Addr × Obj)) (s : Shared) (σ : St) (H : Hp) (x y : V) (v u : Value) (Q : VK), Inv X pins σ H s → RelV x v → RelV y u → r x y H Q →
    wpAny (model X.prog X.w) X.A (f v u) (EP X pins σ Q) X.xe s
/-- a one-place operation -/
def UnR (X : Cx) (f : Value → Sem Value) (r : V → Hp → VK → Prop) : Prop :=
  ∀ (pins : List (Addr × Obj)) (s : Shared) (σ : St) (H : Hp) (x : V) (v : Value) (Q : VK), Inv X pins σ H s → RelV x v → r x H Q →
    wpAny (model X.prog X.w) X.A (f v) (EP X pins σ Q) X.xe s
/-- a call of a value that is known (a builtin, a type) with values -/
def CallR (X : Cx) (f : Value) (r : List V → Hp → VK → Prop) : Prop :=
  ∀ (pins : List (Addr × Obj)) (s : Shared) (σ : St) (H : Hp) (xs : List V) (us : List Value) (Q : VK), Inv X pins σ H s → Vals xs us → r xs H Q →
    wpAny (model X.prog X.w) X.A (call f us) (EP X pins σ Q) X.xe s
/-- ints in, under C, and a value out -/
def rI (C : Int → Int → Prop) (g : Int → Int → V) : R2 := fun x y H Q => ∃ i j, x = .int i ∧ y = .int j ∧ C i j ∧ Q (g i j) H
def rI0 (g : Int → Int → V) : R2 := fun x y H Q => ∃ i j, x = .int i ∧ y = .int j ∧ Q (g i j) H
def rU (g : Int → V) : V → Hp → VK → Prop := fun x H Q => ∃ i, x = .int i ∧ Q (g i) H

section
variable {X : Cx} {a b c : Expr} {ta tb tc : TE} {pos : Pos}

theorem opI {f : Value → Value → Sem Value} {C : Int → Int → Prop} {g : Int → Int → Int}
    (rule : ∀ (i j : Int) (t u : Tok) (s : Shared) (Q : Value → Shared → Prop) (E : Value → Shared → Prop), C i j → Q (.int (g i j) s.toks) { s with toks := s.toks + 1 } → wpAny (model X.prog X.w) X.A (f (.int i t) (.int j u)) Q E s) :
    OpR X f (rI C fun i j => .int (g i j)) := by
  intro pins s σ H x y v u Q I rx ry h
  obtain ⟨i, j, rfl, rfl, hc, q⟩ := h
  obtain ⟨t, rfl⟩ := rx
  obtain ⟨t', rfl⟩ := ry
  exact rule i j t t' s _ _ hc ⟨.int (g i j), H, I.tok _, ⟨_, rfl⟩, q⟩
theorem opI0 {f : Value → Value → Sem Value} {g : Int → Int → Int}
    (rule : ∀ (i j : Int) (t u : Tok) (s : Shared) (Q : Value → Shared → Prop) (E : Value → Shared → Prop), Q (.int (g i j) s.toks) { s with toks := s.toks + 1 } → wpAny (model X.prog X.w) X.A (f (.int i t) (.int j u)) Q E s) :
    OpR X f (rI0 fun i j => .int (g i j)) := by
  intro pins s σ H x y v u Q I rx ry h
  obtain ⟨i, j, rfl, rfl, q⟩ := h
  obtain ⟨t, rfl⟩ := rx
  obtain ⟨t', rfl⟩ := ry
  exact rule i j t t' s _ _ ⟨.int (g i j), H, I.tok _, ⟨_, rfl⟩, q⟩
theorem opB0 {f : Value → Value → Sem Value} {g : Int → Int → Bool}
    (rule : ∀ (i j : Int) (t u : Tok) (s : Shared) (Q : Value → Shared → Prop) (E : Value → Shared → Prop), Q (.bool (g i j)) s → wpAny (model X.prog X.w) X.A (f (.int i t) (.int j u)) Q E s) :
    OpR X f (rI0 fun i j => .bl (g i j)) := by
  intro pins s σ H x y v u Q I rx ry h
  obtain ⟨i, j, rfl, rfl, q⟩ := h
  obtain ⟨t, rfl⟩ := rx
  obtain ⟨t', rfl⟩ := ry
  exact rule i j t t' s _ _ ⟨.bl (g i j), H, I, rfl, q⟩

def CDiv (i j : Int) : Prop := 0 < j ∧ j < 1073741824
def CMul (i j : Int) : Prop := (-(2 ^ 64) < i ∧ i < 2 ^ 64) ∨ (-(2 ^ 64) < j ∧ j < 2 ^ 64)
theorem CMul.ok {i j : Int} (h : CMul i j) : IntMulOk i j := by
  rcases h with ⟨h1, h2⟩ | ⟨h1, h2⟩
  · exact .of_left (intBits_le_64 h1 h2)
  · exact .of_right (intBits_le_64 h1 h2)
theorem op_add : OpR X (binaryOp .Add) (rI0 fun i j => .int (i + j)) := opI0 fun _ _ _ _ _ _ _ q => add_int q
theorem op_sub : OpR X (binaryOp .Sub) (rI0 fun i j => .int (i - j)) := opI0 fun _ _ _ _ _ _ _ q => sub_int q
/-- // by a positive divisor -/
theorem op_fdiv : OpR X (binaryOp .FloorDiv) (rI CDiv fun i j => .int (i / j)) := opI fun i j _ _ _ _ _ hc q => by
  have h1 : (0 : Int) < j := hc.1
  have h2 : j < 1073741824 := hc.2
  exact floordiv_int (by omega) (by rw [Int.fdiv_eq_ediv_of_nonneg i (by omega)]; exact q) (.inl (PyProof.noPylong_small (by omega)))
/-- % by a positive divisor of any size -/
theorem op_mod : OpR X (binaryOp .Mod) (rI (fun _ j => 0 < j) fun i j => .int (i % j)) := opI fun i j _ _ _ _ _ hc q => by
  have h1 : (0 : Int) < j := hc
  exact mod_int' (by omega) (by rw [Int.fmod_eq_emod_of_nonneg i (by omega)]; exact q)
theorem unI {f : Value → Sem Value} {g : Int → Int}
    (rule : ∀ (i : Int) (t : Tok) (s : Shared) (Q : Value → Shared → Prop) (E : Value → Shared → Prop), Q (.int (g i) s.toks) { s with toks := s.toks + 1 } → wpAny (model X.prog X.w) X.A (f (.int i t)) Q E s) :
    UnR X f (rU fun i => .int (g i)) := by
  intro pins s σ H x v Q I rx h
  obtain ⟨i, rfl, q⟩ := h
  obtain ⟨t, rfl⟩ := rx
  exact rule i t s _ _ ⟨.int (g i), H, I.tok _, ⟨_, rfl⟩, q⟩
theorem un_neg : UnR X (unaryOp .USub) (rU fun i => .int (-i)) := unI fun _ _ _ _ _ q => neg_int q
end

section
variable {X : Cx} {a b c : Expr} {ta tb tc : TE} {pos : Pos}
theorem op_lt : OpR X (compareOp .Lt) (rI0 fun i j => .bl (decide (i < j))) := opB0 fun _ _ _ _ _ _ _ q => lt_int q
theorem op_le : OpR X (compareOp .LtE) (rI0 fun i j => .bl (decide (i ≤ j))) := opB0 fun _ _ _ _ _ _ _ q => le_int q
theorem op_gt : OpR X (compareOp .Gt) (rI0 fun i j => .bl (decide (j < i))) := opB0 fun _ _ _ _ _ _ _ q => gt_int q
/-- two rules for one operation: by cases -/
theorem OpR.or {f : Value → Value → Sem Value} {r r' : R2} (h : OpR X f r) (h' : OpR X f r') : OpR X f (fun x y H Q => r x y H Q ∨ r' x y H Q) := by
  intro pins s σ H x y v u Q I rx ry q
  rcases q with q | q
  · exact h pins s σ H x y v u Q I rx ry q
  · exact h' pins s σ H x y v u Q I rx ry q

theorem nomark (b : Expr) {op : CmpOp} (h : op ≠ .In := by decide) (h2 : op ≠ .NotIn := by decide) : behindInMarks op b = false := by
  have e1 : (op == CmpOp.In) = false := by cases op <;> first | rfl | exact absurd rfl h
  have e2 : (op == CmpOp.NotIn) = false := by cases op <;> first | rfl | exact absurd rfl h2
  cases b <;> simp [behindInMarks, e1, e2]
theorem line63 : (sizeLine : Nat) < 2 ^ 63 := by rw [sizeLine_eq]; decide
theorem op_add_str : OpR X (binaryOp .Add) (fun x y H Q => ∃ i j, x = .str i ∧ y = .str j ∧ i.length + j.length ≤ sizeLine ∧ Q (.str (i ++ j)) H) := by
  intro pins s σ H x y v u Q I rx ry h
  obtain ⟨i, j, rfl, rfl, hz, q⟩ := h
  obtain ⟨t, rfl⟩ := rx
  obtain ⟨t', rfl⟩ := ry
  exact add_str (fun t' tk => ⟨.str (i ++ j), H, I.tok _, ⟨_, rfl⟩, q⟩) hz
theorem vals1 {x : V} {us : List Value} (r : Vals [x] us) : ∃ u, us = [u] ∧ RelV x u := by
  cases r with
  | cons r1 r2 => cases r2; exact ⟨_, rfl, r1⟩
theorem vals2 {x y : V} {us : List Value} (r : Vals [x, y] us) : ∃ u w', us = [u, w'] ∧ RelV x u ∧ RelV y w' := by
  cases r with
  | cons r1 r2 =>
    cases r2 with
    | cons r3 r4 => cases r4; exact ⟨_, _, rfl, r1, r3⟩
theorem call_abs : CallR X (.builtin "abs") (fun xs H Q => ∃ i, xs = [.int i] ∧ Q (.int (if i < 0 then -i else i)) H) := by
  intro pins s σ H xs us Q I r h
  obtain ⟨i, rfl, q⟩ := h
  obtain ⟨u, rfl, t, rfl⟩ := vals1 r
  exact call_abs_int fun u tk => ⟨.int (if i < 0 then -i else i), H, I.tok _, ⟨_, rfl⟩, q⟩
theorem call_int1 : CallR X (.type "int") (fun xs H Q => (∃ i, xs = [.int i] ∧ Q (.int i) H) ∨ ∃ k, xs = [.bl k] ∧ Q (.int (if k then 1 else 0)) H) := by
  intro pins s σ H xs us Q I r h
  rcases h with ⟨i, rfl, q⟩ | ⟨k, rfl, q⟩
  · obtain ⟨u, rfl, t, rfl⟩ := vals1 r
    exact call_int_int ⟨.int i, H, I, ⟨_, rfl⟩, q⟩
  · obtain ⟨u, rfl, r1⟩ := vals1 r
    cases r1
    exact call_int_bool ⟨.int (if k then 1 else 0), H, I.tok _, ⟨_, rfl⟩, q⟩
theorem call_str_int : CallR X (.type "str") (fun xs H Q => ∃ i, xs = [.int i] ∧ i.natAbs.log2 < 1920 ∧ Q (.str (toString i)) H) := by
  intro pins s σ H xs us Q I r h
  obtain ⟨i, rfl, hz, q⟩ := h
  obtain ⟨u, rfl, t, rfl⟩ := vals1 r
  exact PySem.P.str_of_int hz ⟨.str _, H, I.tok _, ⟨_, rfl⟩, q⟩
end
end L2

namespace L2
open PySem PySem.Spec PyProof.Rows

structure ObjM (h : Heap) (x dx C : Addr) (mA : Str → Option Value) : Prop where
  obj : h.get? x = some (PySem.W.instObj C dx)
  ns : h.Ns1 dx mA
  ne : dx ≠ x

theorem lookIn_ns {h : Heap} {dx : Addr} {mA : Str → Option Value} (n : h.Ns1 dx mA) : ∃ od, h.get? dx = some od ∧ ∀ name, PySem.W.lookIn name od = some (mA name) := by
  obtain ⟨o, es, ep, ho, hd, hk, _, hm⟩ := n
  refine ⟨o, ho, fun name => ?_⟩
  have e := hm name
  unfold nsFind findBy at e
  rw [← Array.find?_toList] at e
  unfold PySem.W.lookIn
  rw [hd]
  dsimp only
  split
  · rename_i y q
    rw [q] at e
    exact congrArg some e
  · rename_i q
    rw [q] at e
    have a : es.toList.any (·.refKey) = false := by
      rw [List.any_eq_false]
      intro y hy
      obtain ⟨z, t, hkey⟩ := hk y (Array.mem_toList_iff.mp hy)
      simp [DictEntry.refKey, hkey]
    have a' : ¬ es.toList.any (·.refKey) = true := by rw [a]; exact Bool.false_ne_true
    rw [if_neg a']
    exact congrArg some e

theorem ObjM.look {h : Heap} {x dx C : Addr} {mA : Str → Option Value} (I : ObjM h x dx C mA) : ∃ od, PySem.W.InstAt h x (PySem.W.instObj C dx) C (some od) ∧ ∀ name, PySem.W.lookIn name od = some (mA name) :=
  let ⟨od, ho, hl⟩ := lookIn_ns I.ns
  ⟨od, ⟨I.obj, rfl, rfl, ho⟩, hl⟩

section
variable {prog : Program} {w : World} {A : Around} {E : Value → Shared → Prop} {s : Shared} {K : PySem.W.Frag} {x dx C f : Addr} {mA : Str → Option Value} {name : Str} {v : Value}

end

section
variable {P : Program} {w : World} {H H' : Hp} {h h' : Heap} {a C dx : Addr} {fs fs' : List (Str × V)}
theorem ins_get (hok : HOk P w H h) (e : H a = some (.ins C dx fs)) : ∃ mA, ObjM h a dx C mA ∧ (∀ f, RelO (fs.lookup f) (mA f)) ∧ PySem.Within mA (fs.map (·.1)) ∧ fs.length ≤ 1000 ∧ H dx = some (.own a) := by
  obtain ⟨d, z, ne, ob, mA, n, r, q⟩ := (show ObjOk P w H h a (.ins C dx fs) from hok a _ e)
  exact ⟨mA, ⟨ob, n, ne⟩, r, q, z, d⟩
end

structure Cls (K : PySem.W.Frag) (C : Addr) : Prop where
  pg : PySem.W.plainGet K C Str.empty = true
  hd : PySem.W.hasDictIn K C = true
  po : PySem.W.plainOver K C = true
  sa : PySem.W.findIn K (.ref C) "__setattr__" = some (some (.builtin "object.__setattr__"))
theorem Cls.get {K : PySem.W.Frag} {C : Addr} (c : Cls K C) (f : Str) : PySem.W.plainGet K C f = true := c.pg
section
variable {X : Cx} {pins : List (Addr × Obj)} {σ : St} {H : Hp} {s : Shared} {a C dx : Addr} {fs : List (Str × V)} {f : Str} {v : V} {A : Around} {E : Value → Shared → Prop}

/-- a new instance, tracked, without attributes -/
theorem Inv.made (I : Inv X pins σ H s) : Inv X pins σ (upd (upd H s.heap.objs.size (.own (s.heap.objs.size + 1))) (s.heap.objs.size + 1) (.ins C s.heap.objs.size []))
    { s with heap := (s.heap.push PySem.W.emptyDict).push (PySem.W.instObj C s.heap.objs.size) } := by
  have e1 : (s.heap.push PySem.W.emptyDict).get? s.heap.objs.size = some PySem.W.emptyDict := Heap.get?_push_size s.heap rfl
  have e2 : ((s.heap.push PySem.W.emptyDict).push (PySem.W.instObj C s.heap.objs.size)).get? (s.heap.objs.size + 1) = some (PySem.W.instObj C s.heap.objs.size) := by
    have := Heap.get?_push_size (s.heap.push PySem.W.emptyDict) (o := PySem.W.instObj C s.heap.objs.size) rfl
    rwa [Heap.size_push] at this
  have e3 : (s.heap.push PySem.W.emptyDict).Ns s.heap.objs.size (fun _ => none) := ⟨PySem.W.emptyDict, #[], _, e1, rfl, (fun e he => absurd he (by simp)), fun _ => rfl⟩
  have I1 := I.laid (a := s.heap.objs.size) (o := .own (s.heap.objs.size + 1)) (h' := s.heap.push PySem.W.emptyDict) (t' := s.toks) (fun b u q => Heap.get?_push_of_some _ q) (Nat.le_refl _) ⟨_, e1⟩
  refine I1.laid (a := s.heap.objs.size + 1) (o := .ins C s.heap.objs.size []) (t' := s.toks) (fun b u q => Heap.get?_push_of_some _ q) (Nat.le_of_eq (Heap.size_push _ _)) ?_
  have ne : s.heap.objs.size ≠ s.heap.objs.size + 1 := Nat.ne_of_lt (Nat.lt_succ_self _)
  refine ⟨by rw [upd_ne ne, upd_same], Nat.zero_le _, ne, e2, fun _ => none, (Heap.Ns1.of_empty e3).at fun o q => Heap.get?_push_of_some _ q, fun _ => True.intro, fun y hy => absurd rfl hy⟩

end

section
variable {X : Cx} {o e value : Expr} {f : Str} {pos pos' tpos : Pos} {ta tv : TE}
end

section
variable {X : Cx} {pins : List (Addr × Obj)} {σ : St} {H : Hp} {s : Shared} {A : Around} {E : Value → Shared → Prop} {Q : Value → Shared → Prop} {c : Value} {b : Bool}
/-- the type of a value, as the fragment's deciders take it; for an instance its class -/
inductive TyOf (K : PySem.W.Frag) (H : Hp) : V → Value → Prop where
  | non : TyOf K H .non (.type "NoneType")
  | bl (x : Bool) : TyOf K H (.bl x) (.type "bool")
  | int (i : Int) : TyOf K H (.int i) (.type "int")
  | str (x : Str) : TyOf K H (.str x) (.type "str")
  | flt (x : UInt64) : TyOf K H (.flt x) (.type "float")
  | lst {a : Addr} {xs : List V} (e : H a = some (.lst xs)) : TyOf K H (.ref a) (.type "list")
  | frz {a : Addr} {o : Obj} {xs : List V} (e : H a = some (.frz o (.lst xs))) : TyOf K H (.ref a) (.type "list")
  | tup {a : Addr} {xs : List V} (e : H a = some (.tup xs)) : TyOf K H (.ref a) (.type "tuple")
  | dK {a : Addr} {kvs : List (Key × V)} (e : H a = some (.dK kvs)) : TyOf K H (.ref a) (.type "dict")
  | dT {a : Addr} {kvs : List (List Key × V)} (e : H a = some (.dT kvs)) : TyOf K H (.ref a) (.type "dict")
  | ins {a C dx : Addr} {fs : List (Str × V)} (e : H a = some (.ins C dx fs)) (cl : Cls K C) (ha : PySem.W.findIn K (.ref C) "__class__" = some (some (.builtin "object.__class__")))
      (hn : PySem.W.specialIn K (.builtin "object.__class__") "__get__" = some (some (.builtin "getset_descriptor.__get__"))) (htk : PySem.W.takesIn K (.builtin "object.__class__") = some true)
      (hm : PySem.W.mroIn K C (.type "object") = some true) : TyOf K H (.ref a) (.ref C)
/-- isinstance(x, c) for one class c, a built-in or an own one: kitOne's answer -/
theorem isinst_ok {x : V} {u t : Value} (I : Inv X pins σ H s) (rx : RelV x u) (ty : TyOf X.K H x t) (e : PySem.W.kitOne X.K t c = some b) (h : ∀ tk, Q (.bool b) { s with toks := tk }) :
    wpAny (model X.prog X.w) A (call (.builtin "isinstance") [u, c]) Q E s := by
  cases ty with
  | non => cases (show u = Value.none from rx); exact PySem.W.kia_one PySem.W.kitx_none I.kIn True.intro e (fun z => nomatch z) h
  | bl y => cases (show u = Value.bool y from rx); exact PySem.W.kia_one PySem.W.kitx_bool I.kIn True.intro e (fun z => nomatch z) h
  | int i => obtain ⟨t, q⟩ := (show ∃ t, u = Value.int i t from rx); cases q; exact PySem.W.kia_one PySem.W.kitx_int I.kIn True.intro e (fun z => nomatch z) h
  | str y => obtain ⟨t, q⟩ := (show ∃ t, u = Value.str y t from rx); cases q; exact PySem.W.kia_one PySem.W.kitx_str I.kIn True.intro e (fun z => nomatch z) h
  | flt y => obtain ⟨t, q⟩ := (show ∃ t, u = Value.float y t from rx); cases q; exact PySem.W.kia_one PySem.W.kitx_float I.kIn True.intro e (fun z => nomatch z) h
  | @lst a xs ea =>
    cases (show u = Value.ref a from rx)
    obtain ⟨_, _, n, _, h1⟩ := (show ObjOk X.prog X.w H s.heap a (.lst xs) from I.hok a _ ea)
    exact PySem.W.kia_one PySem.W.kitx_list I.kIn ⟨_, h1, rfl⟩ e (fun z => nomatch z) h
  | @frz a ob xs ea =>
    cases (show u = Value.ref a from rx)
    obtain ⟨_, _, _, n, _, h1⟩ := (show ObjOk X.prog X.w H s.heap a (.frz ob (.lst xs)) from I.hok a _ ea)
    exact PySem.W.kia_one PySem.W.kitx_list I.kIn ⟨_, h1, rfl⟩ e (fun z => nomatch z) h
  | @tup a xs ea =>
    cases (show u = Value.ref a from rx)
    obtain ⟨_, _, _, p⟩ := (show ObjOk X.prog X.w H s.heap a (.tup xs) from I.hok a _ ea)
    obtain ⟨o, h1, h2, _⟩ := p
    exact PySem.W.kia_one PySem.W.kitx_tuple I.kIn ⟨o, h1, h2⟩ e (fun z => nomatch z) h
  | @dK a kvs ea =>
    cases (show u = Value.ref a from rx)
    obtain ⟨_, _, vs, _, p⟩ := (show ObjOk X.prog X.w H s.heap a (.dK kvs) from I.hok a _ ea)
    obtain ⟨o, es, ep, h1, h2, _⟩ := p
    exact PySem.W.kia_one PySem.W.kitx_dict I.kIn ⟨o, h1, h2.1⟩ e (fun z => nomatch z) h
  | @dT a kvs ea =>
    cases (show u = Value.ref a from rx)
    obtain ⟨_, _, xs, _, o, es, ep, h1, h2, _⟩ := (show ObjOk X.prog X.w H s.heap a (.dT kvs) from I.hok a _ ea)
    exact PySem.W.kia_one PySem.W.kitx_dict I.kIn ⟨o, h1, h2.1⟩ e (fun z => nomatch z) h
  | @ins a C dx fs ea cl ha hn htk hm =>
    cases (show u = Value.ref a from rx)
    obtain ⟨mA, O, _⟩ := ins_get I.hok ea
    obtain ⟨od, J, _⟩ := O.look
    exact PySem.W.kia_one (PySem.W.kitx_own (cl.get _) cl.hd ha hn htk hm) I.kIn J e (fun z => nomatch z) h
end
end L2

namespace L2
open PySem PySem.Spec PyProof.Rows

structure Room (k : Nat) (A : Around) : Prop where
  hd : A.handled = none
  dp : A.depth + 3 * k + 5 < recursionLimit
  un : A.units + 16 * k + 200 < cLine
theorem Room.mono {j k : Nat} {A : Around} (r : Room k A) (h : j ≤ k) : Room j A := ⟨r.hd, by have := r.dp; omega, by have := r.un; omega⟩
theorem Room.deeper {k : Nat} {A : Around} (r : Room (k + 1) A) (env : Env) : Room k (A.deeper env) :=
  ⟨r.hd, by have := r.dp; show A.depth + 1 + 3 * k + 5 < _; omega, by have := r.un; show A.units + 3 + 16 * k + 200 < _; omega⟩
theorem Room.depth {k : Nat} {A : Around} (r : Room k A) : A.depth < recursionLimit := by have := r.dp; omega
theorem Room.units {k : Nat} {A : Around} (r : Room k A) : A.units + 64 < cLine := by have := r.un; omega
def tNil : TA := fun _ H Q => Q [] H
def tCons (ta : TE) (tr : TA) : TA := fun σ H Q => ta σ H fun x H1 => tr σ H1 fun xs H2 => Q (x :: xs) H2
section
variable {X : Cx} {e : Expr} {es : List Expr} {te : TE} {t : TA} {pos : Pos}
theorem pa_nil : PA X [] tNil := fun _ _ _ _ H Q I h => Calls.spliced_nil ⟨[], H, I, .nil, h⟩
theorem pa_cons (ha : PE X e te) (hr : PA X es t) (hs : starEach (e :: es) X.env = (false, eval e X.env) :: starEach es X.env := by rfl) : PA X (e :: es) (tCons te t) := by
  intro pos pins s σ H Q I h
  rw [hs]
  show wpAny _ _ (spliced ((false, eval e X.env) :: backTo pos (starEach es X.env))) _ _ s
  refine Calls.spliced_cons (thn (ha pins s σ H _ I h) fun u s1 ⟨x, H1, I1, r1, q1⟩ => ?_)
  exact thn (hr pos pins s1 σ H1 _ I1 q1) fun us s2 ⟨xs, H2, I2, r2, q2⟩ => ⟨x :: xs, H2, I2, .cons r1 r2, q2⟩

/-- a tuple, a list of written items -/
def tTup (t : TA) : TE := fun σ H Q => t σ H fun xs H1 => xs.length ≤ sizeLine ∧ ∀ p, H1 p = none → Q (.ref p) (upd H1 p (.tup xs))
def tLst (t : TA) : TE := fun σ H Q => t σ H fun xs H1 => xs.length ≤ sizeLine ∧ ∀ p, H1 p = none → Q (.ref p) (upd H1 p (.lst xs))
theorem pe_tup {x1} (h : PA X es t) : PE X (.Tuple es x1 pos) (tTup t) := by
  intro pins s σ H Q I hq
  refine wpAny_Tuple_spliced (thn (h pos pins s σ H _ I hq) fun us s1 ⟨xs, H1, I1, r, z, q⟩ => ⟨by rw [← r.length]; exact z, ?_⟩)
  have hf : H1 s1.heap.objs.size = none := I1.hok.fresh (Nat.le_refl _)
  refine ⟨.ref s1.heap.objs.size, upd H1 s1.heap.objs.size (.tup xs), I1.laid (t' := s1.toks) (fun b u e => Heap.get?_push_of_some _ e) (Nat.le_refl _) ?_, rfl, q _ hf⟩
  exact ⟨z, us, r, ⟨_, Heap.get?_push_size _ rfl, rfl, _, rfl⟩⟩
theorem pe_lst (h : PA X es t) : PE X (.List es pos) (tLst t) := by
  intro pins s σ H Q I hq
  refine wpAny_List_spliced (thn (h pos pins s σ H _ I hq) fun us s1 ⟨xs, H1, I1, r, z, q⟩ => ⟨by rw [← r.length]; exact z, ?_⟩)
  have hf : H1 s1.heap.objs.size = none := I1.hok.fresh (Nat.le_refl _)
  refine ⟨.ref s1.heap.objs.size, upd H1 s1.heap.objs.size (.lst xs), I1.laid (t' := s1.toks) (fun b u e => Heap.get?_push_of_some _ e) (Nat.le_refl _) ?_, rfl, q _ hf⟩
  exact ⟨z, us, 0, r, Heap.get?_push_size _ rfl⟩
end

/-- a def's promise: the bound arguments in the parameters' order, the heap, the wanted end, the wanted exception -/
abbrev Sp := List V → Hp → VK → XK → Prop
/-- how an exception lies behind a call (file 08 gives it): the callers' frames, abstract heap and state ahead of the call, the wish, the exception, the state -/
abbrev CXT := List Env → Hp → Shared → XK → Value → Shared → Prop

/-- the state at a call -/
structure Env0 (P : Program) (w : World) (K : PySem.W.Frag) (mg : Str → Option Value) (base : Heap) (A : Around) (outer : List Env) (s : Shared) (H : Hp) : Prop where
  frames : A.frames = some outer
  mod : Mod K mg base
  bs : ∀ b o, base.get? b = some o → s.heap.get? b = some o ∧ H b = none
  bsz : base.objs.size ≤ s.heap.objs.size
  funs : s.heap.FunFrames base outer
  frf : ∀ b ∈ frs outer, H b = none
  hok : HOk P w H s.heap
  bare : AllBare s.gens
/-- a call's end -/
def CE (outer : List Env) (P : Program) (w : World) (H : Hp) (s : Shared) (Q : VK) (u : Value) (s' : Shared) : Prop :=
  ∃ v H', s'.os = s.os ∧ AllBare s'.gens ∧ Un (frs outer) [] H H' s.heap s'.heap ∧ HOk P w H' s'.heap ∧ RelV v u ∧ Q v H'
def CR (CX : CXT) (outer : List Env) (P : Program) (w : World) (H : Hp) (s : Shared) (Q : VK) (E : XK) (r : Result) (s' : Shared) : Prop :=
  match r with
  | .ok (.ret u) => CE outer P w H s Q u s'
  | .ok _ => False
  | .error e => CX outer H s E e s'
structure FnOk (P : Program) (w : World) (K : PySem.W.Frag) (mg : Str → Option Value) (base : Heap) (CX : CXT) (k : Nat) (f : Addr) (fd : FuncData) (ps : List Str) (sp : Sp) : Prop where
  len : ∀ vs H Q E, sp vs H Q E → vs.length = ps.length
  run : ∀ (A : Around) (outer : List Env) (s : Shared) (H : Hp) (args : Args) (us : List Value) (vs : List V) (Q : VK) (E : XK), Room k A → Env0 P w K mg base A outer s H → BindsTo s fd args (ps.zip us) → Vals vs us → sp vs H Q E →
    codeAny (model P w) A (.call (.ref f) args) (CR CX outer P w H s Q E) s
theorem FnOk.mono {P : Program} {w : World} {K : PySem.W.Frag} {mg : Str → Option Value} {base : Heap} {CX : CXT} {j k : Nat} {f : Addr} {fd : FuncData} {ps : List Str} {sp : Sp} (F : FnOk P w K mg base CX j f fd ps sp) (h : j ≤ k) :
    FnOk P w K mg base CX k f fd ps sp := ⟨F.len, fun A outer s H args us vs Q E hr => F.run A outer s H args us vs Q E (hr.mono h)⟩
/-- a weaker promise -/
theorem FnOk.imp {P : Program} {w : World} {K : PySem.W.Frag} {mg : Str → Option Value} {base : Heap} {CX : CXT} {k : Nat} {f : Addr} {fd : FuncData} {ps : List Str} {sp sp' : Sp} (F : FnOk P w K mg base CX k f fd ps sp)
    (h : ∀ vs H Q E, sp' vs H Q E → sp vs H Q E) : FnOk P w K mg base CX k f fd ps sp' :=
  ⟨fun vs H Q E q => F.len vs H Q E (h _ _ _ _ q), fun A outer s H args us vs Q E hr he hb hv hs => F.run A outer s H args us vs Q E hr he hb hv (h _ _ _ _ hs)⟩

section
variable {X : Cx} {pins : List (Addr × Obj)} {σ : St} {H : Hp} {s s' : Shared}
/-- from a body: what a callee wants -/
theorem Inv.env0 (I : Inv X pins σ H s) : Env0 X.prog X.w X.K X.mg X.base X.A X.stack s H :=
  ⟨I.ok.frames, I.ok.mod, I.bs, Nat.le_trans I.ok.bsz I.sz, I.stack, I.stkFree, I.hok, I.bare⟩
/-- behind a call -/
theorem Inv.after {Q : VK} {u : Value} (I : Inv X pins σ H s) (h : CE X.stack X.prog X.w H s Q u s') : EP X pins σ Q u s' := by
  obtain ⟨v, H', os, bare, un, hok, r, q⟩ := h
  obtain ⟨hh, g, d, t, os'⟩ := s'
  obtain rfl : os' = s.os := os
  exact ⟨v, H', I.call (h' := hh) (g' := g) (d' := d) (t' := t) (ch := []) un hok bare (fun b z => absurd z (by simp)), r, q⟩
end

/-- f(..): the written arguments, then the defaults dvs; E: what is wanted of an exception -/
def tCall (sp : Sp) (dvs : List V) (E : XK) (t : TA) : TE := fun σ H Q => t σ H fun vs H1 => sp (vs ++ dvs) H1 Q E
/-- how the parameters are bound: us the positional arguments, kw the keywords' values by name, ds the defaults that fill up -/
def Binds (K : PySem.W.Frag) (fd : FuncData) (ps : List Str) (ds : List Value) : Prop :=
  ∀ (s : Shared) (us : List Value), K.In s.heap → (us ++ ds).length = ps.length → BindsTo s fd ⟨us, []⟩ (ps.zip (us ++ ds))
/-- every parameter is given -/
theorem Binds.all {K : PySem.W.Frag} {fd : FuncData} {ps : List Str} (h : ∀ us : List Value, us.length = ps.length → bindArgs fd ⟨us, []⟩ = pure (ps.zip us)) : Binds K fd ps [] := fun s us _ hl => by
  rw [List.append_nil] at hl ⊢
  exact .of_eq (h us hl)

/-- an exception of a callee reaches what this body wants of exceptions -/
def Passes (CX : CXT) (X : Cx) (E : XK) : Prop := ∀ (pins : List (Addr × Obj)) (σ : St) (H : Hp) (s : Shared) (e : Value) (s' : Shared), Inv X pins σ H s → CX X.stack H s E e s' → X.xe e s'

section
variable {X : Cx} {CX : CXT} {k : Nat} {f C : Addr} {fd : FuncData} {ps : List Str} {sp : Sp} {dvs : List V} {ds : List Value} {E : XK} {x m : Str} {p pos apos : Pos} {e o : Expr} {es : List Expr} {ta : TE} {t : TA}

/-- the callee runs -/
theorem run_fn {pins : List (Addr × Obj)} {σ : St} {H : Hp} {s : Shared} {Q : VK} {us : List Value} {vs : List V} (F : FnOk X.prog X.w X.K X.mg X.base CX k f fd ps sp) (hr : Room k X.A) (hb : Binds X.K fd ps ds) (hd : Vals dvs ds) (hx : Passes CX X E)
    (I : Inv X pins σ H s) (r : Vals vs us) (h : sp (vs ++ dvs) H Q E) : wpAny (model X.prog X.w) X.A (call (.ref f) us) (EP X pins σ Q) X.xe s := by
  have r2 : Vals (vs ++ dvs) (us ++ ds) := r.append hd
  have hl : (us ++ ds).length = ps.length := by rw [← r2.length]; exact F.len _ _ _ _ h
  refine wpAny_call (codeAny_mono (F.run X.A X.stack s H ⟨us, []⟩ (us ++ ds) (vs ++ dvs) Q E hr I.env0 (hb s us I.kIn hl) r2 h) fun r s' hq => ?_)
  cases r with
  | error e => exact hx pins σ H s e s' I hq
  | ok fl =>
    cases fl with
    | ret u => exact I.after hq
    | next => exact False.elim hq
    | brk => exact False.elim hq
    | cont => exact False.elim hq

theorem pe_call (F : FnOk X.prog X.w X.K X.mg X.base CX k f fd ps sp) (hr : Room k X.A) (hg : Gl X x) (hm : X.mg x = some (.ref f)) (hk : PySem.W.keepIn X.K (.ref f) = true) (hb : Binds X.K fd ps ds) (hd : Vals dvs ds) (hx : Passes CX X E)
    (ha : PA X (e :: es) t) (hdb : (x == ("__debug__" : Str)) = false := by decide) (he : starEach (e :: es) X.env = (false, eval e X.env) :: starEach es X.env := by rfl) (hpl : (backTo pos (starEach es X.env)).any (·.1) = false := by rfl) :
    PE X (.Call (.Name x p) (e :: es) [] pos) (tCall sp dvs E t) := by
  intro pins s σ H Q I h
  refine wpAny_Call_Name_kw (ld_glob I hg hm ?_ hdb)
  refine PySem.W.callWith_K (h₀ := X.base) I.ok.mod.kin hk (thn (ha pos pins s σ H _ I h) fun us s1 ⟨vs, H1, I1, r, q⟩ => ⟨I1.kIn, ?_⟩) he hpl
  exact run_fn F hr hb hd hx I1 r q
end

section
variable {X : Cx} {CX : CXT} {k : Nat} {f C : Addr} {fd : FuncData} {ps ks : List Str} {sp : Sp} {E : XK} {x m : Str} {p pos apos kpos : Pos} {e o : Expr} {es : List Expr} {kws : List Keyword} {te ta : TE} {t tk : TA} {nm : Option Str}
variable {g : List Value → List Value → List Value} {gV : List V → List V → List V}
end

/-- names: the parameters first -/
structure FnScope (N P : List Str) (sc : Scope) : Prop where
  kind : sc.kind = .function
  co : sc.isCoroutine = false
  gen : sc.isGenerator = false
  nd : N.Nodup
  pre : N.take P.length = P
  par : ∀ x ∈ P, sc.names.lookup x = some .local ∨ sc.names.lookup x = some .cell
  nofree : ∀ y ∈ sc.names, y.2 ≠ .free

theorem bindL_out {kindOf : Str → Option NameKind} {x : Str} : ∀ {binds : List (Str × Value)} {m : Str → Option Value}, (∀ v, (x, v) ∉ binds) → bindL kindOf binds m x = m x
  | [], _, _ => rfl
  | (n, v) :: r, m, h => by
    unfold bindL
    rw [bindL_out fun w hw => h w (List.mem_cons_of_mem _ hw)]
    split
    · have : x ≠ n := by rintro rfl; exact h v List.mem_cons_self
      simp [this]
    · rfl
theorem bindC_out {kindOf : Str → Option NameKind} {x : Str} : ∀ {binds : List (Str × Value)} {m : Str → Option Value}, (∀ v, (x, v) ∉ binds) → bindC kindOf binds m x = m x
  | [], _, _ => rfl
  | (n, v) :: r, m, h => by
    unfold bindC
    rw [bindC_out fun w hw => h w (List.mem_cons_of_mem _ hw)]
    split
    · rfl
    · have : x ≠ n := by rintro rfl; exact h v List.mem_cons_self
      simp [this]
theorem bindL_get {kindOf : Str → Option NameKind} {x : Str} {v : Value} : ∀ {P : List Str} {vs : List Value} {i : Nat} {m : Str → Option Value}, P.Nodup → P[i]? = some x → vs[i]? = some v → kindOf x = some .local →
    bindL kindOf (P.zip vs) m x = some v
  | [], _, _, _, _, h, _, _ => by simp at h
  | _ :: _, [], _, _, _, _, h, _ => by simp at h
  | p :: P, w :: vs, 0, m, nd, h1, h2, hk => by
    simp at h1 h2; subst h1; subst h2
    show bindL kindOf ((p, w) :: P.zip vs) m p = _
    unfold bindL
    rw [bindL_out fun v hv => (List.nodup_cons.mp nd).1 (List.of_mem_zip hv).1, if_pos hk]
    simp
  | p :: P, w :: vs, i + 1, m, nd, h1, h2, hk => by
    show bindL kindOf ((p, w) :: P.zip vs) m x = _
    unfold bindL
    exact bindL_get (i := i) (List.nodup_cons.mp nd).2 (by simpa using h1) (by simpa using h2) hk
theorem bindC_get {kindOf : Str → Option NameKind} {x : Str} {v : Value} : ∀ {P : List Str} {vs : List Value} {i : Nat} {m : Str → Option Value}, P.Nodup → P[i]? = some x → vs[i]? = some v → kindOf x ≠ some .local →
    bindC kindOf (P.zip vs) m x = some v
  | [], _, _, _, _, h, _, _ => by simp at h
  | _ :: _, [], _, _, _, _, h, _ => by simp at h
  | p :: P, w :: vs, 0, m, nd, h1, h2, hk => by
    simp at h1 h2; subst h1; subst h2
    show bindC kindOf ((p, w) :: P.zip vs) m p = _
    unfold bindC
    rw [bindC_out fun v hv => (List.nodup_cons.mp nd).1 (List.of_mem_zip hv).1, if_neg hk]
    simp
  | p :: P, w :: vs, i + 1, m, nd, h1, h2, hk => by
    show bindC kindOf ((p, w) :: P.zip vs) m x = _
    unfold bindC
    exact bindC_get (i := i) (List.nodup_cons.mp nd).2 (by simpa using h1) (by simpa using h2) hk

/-- the names' values at the entry -/
def start (N : List Str) (vs : List V) : St := vs.map some ++ List.replicate (N.length - vs.length) none

/-- the context of a def's body, at its entry; an exception leaves the frame, then lies as CX says -/
def cxOf (CX : CXT) (P : Program) (w : World) (K : PySem.W.Frag) (mg : Str → Option Value) (base : Heap) (N : List Str) (qual : Str) (scope : Scope) (f : Addr) (cd : Value) (A : Around) (outer : List Env) (s : Shared) (H : Hp) (E : XK) : Cx where
  prog := P
  w := w
  K := K
  mg := mg
  base := base
  A := A.deeper (envOfC qual scope s.heap.objs.size f cd)
  N := N
  s₀ := s
  H₀ := H
  env := envOfC qual scope s.heap.objs.size f cd
  outer := outer
  stack := envOfC qual scope s.heap.objs.size f cd :: outer
  ex := []
  calm := true
  fn := fun _ => true
  pn := []
  xe := fun e s' => wpAny (model P w) (A.deeper (envOfC qual scope s.heap.objs.size f cd)) (leaving (envOfC qual scope s.heap.objs.size f cd) e) (fun _ s'' => CX outer H s E e s'') (fun e' s'' => CX outer H s E e' s'') s'

theorem cell_has {sc : Scope} {n : Nat} {x : Str} (h : sc.names.lookup x = some .cell) : ∃ c, (cellsFrom n sc.names []).lookup x = some c := by
  have q := PySem.W.cellsFrom_some sc.names n [] (.inl h)
  exact Option.isSome_iff_exists.mp q

theorem inv_start {CX : CXT} {P : Program} {w : World} {K : PySem.W.Frag} {mg : Str → Option Value} {base : Heap} {N ps : List Str} {qual : Str} {scope : Scope} {f : Addr} {cd : Value} {A : Around} {outer : List Env} {s s1 : Shared} {H : Hp} {E : XK} {us : List Value} {vs : List V}
    (S : FnScope N ps scope) (hd : A.handled = none) (e0 : Env0 P w K mg base A outer s H) (hl : vs.length = ps.length) (r : Vals vs us)
    (x : InCallC s s.heap.objs.size (bindL (envOfC qual scope s.heap.objs.size f cd).kindOf (ps.zip us) fun _ => none) (cellsFrom (s.heap.objs.size + 1) scope.names []) (bindC (envOfC qual scope s.heap.objs.size f cd).kindOf (ps.zip us) fun _ => none) s1) :
    Inv (cxOf CX P w K mg base N qual scope f cd A outer s H E) [] (start N vs) H s1 := by
  have hpl : ps.length ≤ N.length := by have := congrArg List.length S.pre; rw [List.length_take] at this; omega
  obtain ⟨h1, tk, rfl, hk⟩ := x.done
  have noA : ∀ b : Addr, b ∉ (cxOf CX P w K mg base N qual scope f cd A outer s H E).ex := fun b z => absurd (show b ∈ ([] : List Addr) from z) (by simp)
  refine ⟨⟨e0.mod, S.kind, rfl, rfl, Nat.le_refl _, fun y z c h1 h2 => ?_, fun y hy => ?_, fun y c _ h => ?_, fun _ => hd, Around.frames_deeper e0.frames, .inr ⟨rfl, rfl⟩, fun b z => absurd z (noA b), e0.bs, e0.bsz, fun b _ _ => noA b, fun b z => absurd z (noA b), e0.funs, e0.frf⟩,
    rfl, e0.bare, Un.kept hk, ⟨_, x.toInCall.ns, fun i y v h1 h2 h3 => ?_⟩, fun y c h => ⟨_, x.cell y c h⟩, e0.hok.fresh (Nat.le_refl _), fun y c h => ?_, fun p hp => absurd (show p ∈ ([] : List (Addr × Obj)) from hp) (by simp), e0.hok.kept hk, ?_⟩
  · exact name_of_addr x.apart (PySem.mem_of_lookup h1) (PySem.mem_of_lookup h2)
  · have hy : scope.names.lookup y = some .cell ∨ scope.names.lookup y = some .free := hy
    rcases hy with hy | hy
    · exact cell_has hy
    · exact absurd rfl (S.nofree _ (PySem.mem_of_lookup hy))
  · exact Nat.le_of_lt (x.above y c (PySem.mem_of_lookup h))
  · have hi : i < vs.length := by
      unfold start at h2
      by_cases hi : i < vs.length
      · exact hi
      · rw [List.getElem?_append_right (by simpa using hi)] at h2
        rw [List.getElem?_replicate] at h2
        split at h2 <;> cases h2
    have ha : vs[i]? = some v := by
      unfold start at h2
      rw [List.getElem?_append_left (by simpa using hi), List.getElem?_map] at h2
      cases e : vs[i]? with
      | none => rw [e] at h2; cases h2
      | some a => rw [e] at h2; cases h2; rfl
    obtain ⟨u, hu, rv⟩ := r.get ha
    have hp : ps[i]? = some y := by
      rw [← S.pre, List.getElem?_take_of_lt (by omega)]; exact h1
    have ndP : ps.Nodup := by rw [← S.pre]; exact S.nd.sublist (List.take_sublist _ _)
    refine ⟨u, rv, ?_⟩
    rcases S.par y (List.mem_of_getElem? hp) with k | k
    · exact .inl ⟨k, bindL_get ndP hp hu k⟩
    · obtain ⟨c, e⟩ := cell_has (n := s.heap.objs.size + 1) k
      refine .inr ⟨.inl k, c, e, ?_⟩
      have q := x.cell y c e
      rw [bindC_get ndP hp hu (by show scope.names.lookup y ≠ _; rw [k]; decide)] at q
      exact q
  · exact e0.hok.fresh (Nat.le_of_lt (x.above y c (PySem.mem_of_lookup h)))
  · unfold start
    show _ = N.length
    rw [List.length_append, List.length_map, List.length_replicate]
    omega

/-- THE RULE: a def (or a method) of the text, by its body. The body's reading t is chosen for each entry; it is run at the parameters' values -/
theorem fn_of {CX : CXT} {P : Program} {w : World} {K : PySem.W.Frag} {mg : Str → Option Value} {base : Heap} {k : Nat} {f : Addr} {name qual : Str} {params : Arguments} {body : List Stmt} {scope : Scope} {dV kV doc pm cdv ct oc : Value} {an od : Option Addr}
    {osl : Array (Option Value)} {N ps : List Str} {sp : Sp} (lk : K.lookup f = some ⟨oc, od, .func (PySem.W.fnOf name qual params body scope dV kV doc pm an cdv ct), osl⟩) (hcd : PySem.W.codeIn K cdv qual = true) (S : FnScope N ps scope)
    (len : ∀ vs H Q E, sp vs H Q E → vs.length = ps.length)
    (hbody : ∀ (A : Around) (outer : List Env) (s : Shared) (H : Hp) (vs : List V) (Q : VK) (E : XK), Room k (A.deeper (envOfC qual scope s.heap.objs.size f cdv)) → sp vs H Q E →
      ∃ t, PSs (cxOf CX P w K mg base N qual scope f cdv A outer s H E) body t ∧ t { nx := fun _ H' => Q .non H', rt := Q } (start N vs) H) :
    FnOk P w K mg base CX (k + 1) f (PySem.W.fnOf name qual params body scope dV kV doc pm an cdv ct) ps sp := by
  refine ⟨len, fun A outer s H args us vs Q E hr e0 hb r hsp => ?_⟩
  have hl := len _ _ _ _ hsp
  have KX : K.In s.heap := e0.mod.kin.keeps fun b o e => (e0.bs b o e).1
  have lim : s.heap.NoLimit := e0.mod.nolimit.keeps fun b o e => (e0.bs b o e).1
  have hkind : ∀ y ∈ ps.zip us, scope.names.lookup y.1 = some .local ∨ (scope.names.lookup y.1 = some .cell ∧ ((cellsFrom (s.heap.objs.size + 1) scope.names []).lookup y.1).isSome = true) := fun ⟨n, v⟩ hy => by
    rcases S.par n (List.of_mem_zip hy).1 with q | q
    · exact .inl q
    · exact .inr ⟨q, PySem.W.cellsFrom_some _ _ _ (.inl q)⟩
  refine codeAny_call_function hr.depth (KX _ _ lk) rfl S.co S.gen rfl (PySem.W.codeRec_of KX hcd) (hb _ _ _ _ ?_)
  refine wpAny_newFunctionEnv_cells S.kind hkind fun env he s1 x => ?_
  subst he
  refine ⟨lim.keeps x.toInCall.keep, codeAny_func ?_⟩
  obtain ⟨t, ht, hq⟩ := hbody A outer s H vs Q E (hr.deeper _) hsp
  have I : Inv (cxOf CX P w K mg base N qual scope f cdv A outer s H E) [] (start N vs) H s1 := inv_start S hr.hd e0 hl r x
  refine wpAny_mono (ht [] s1 (start N vs) H _ I hq) (fun fl s' hs => ?_) fun e s' hs => hs
  have fin : ∀ {σ' : St} {H' : Hp} {v : V} {u : Value}, Inv (cxOf CX P w K mg base N qual scope f cdv A outer s H E) [] σ' H' s' → RelV v u → Q v H' → CE outer P w H s Q u s' :=
    fun {σ' H' v u} J rv q => ⟨v, H', J.os, J.bare, J.base, J.hok, rv, q⟩
  cases fl with
  | ret u =>
    obtain ⟨v, σ', H', J, rv, q⟩ := hs
    exact fin J rv q
  | next =>
    obtain ⟨σ', H', J, q⟩ := hs
    exact fin (v := V.non) (u := Value.none) J rfl q
  | brk =>
    obtain ⟨_, _, _, q⟩ := hs
    exact False.elim q
  | cont =>
    obtain ⟨_, _, _, q⟩ := hs
    exact False.elim q
end L2

namespace L2
open PySem PySem.Spec PyProof.Rows
section
variable {X : Cx} {x : Str} {p pos : Pos} {e : Expr} {es : List Expr} {t : TA} {id T : String} {r : List V → Hp → VK → Prop}

def tCB (r : List V → Hp → VK → Prop) (t : TA) : TE := fun σ H Q => t σ H fun vs H1 => r vs H1 Q
/-- f(e, ..), f a built-in function -/
theorem pe_callB (hc : CallR X (.builtin id) r) (hg : Gl X x) (hm : X.mg x = none) (hv : bootBuiltins x = some (.builtin id)) (ha : PA X (e :: es) t) (hn : x ≠ "__name__" := by decide) (hdb : (x == ("__debug__" : Str)) = false := by decide)
    (he : starEach (e :: es) X.env = (false, eval e X.env) :: starEach es X.env := by rfl) (hpl : (backTo pos (starEach es X.env)).any (·.1) = false := by rfl) : PE X (.Call (.Name x p) (e :: es) [] pos) (tCB r t) := by
  intro pins s σ H Q I h
  refine wpAny_Call_Name_kw (ld_blt I hg hm hv ?_ hn hdb)
  exact PyProof.Rows.callWith_builtin1 (thn (ha pos pins s σ H _ I h) fun us s1 ⟨vs, H1, I1, r1, q1⟩ => hc pins s1 σ H1 vs us Q I1 r1 q1) he hpl
/-- T(e, ..), T a built-in type -/
theorem pe_callTy (hc : CallR X (.type T) r) (hg : Gl X x) (hm : X.mg x = none) (hv : bootBuiltins x = some (.type T)) (ha : PA X (e :: es) t) (hn : x ≠ "__name__" := by decide) (hdb : (x == ("__debug__" : Str)) = false := by decide)
    (he : starEach (e :: es) X.env = (false, eval e X.env) :: starEach es X.env := by rfl) (hpl : (backTo pos (starEach es X.env)).any (·.1) = false := by rfl) : PE X (.Call (.Name x p) (e :: es) [] pos) (tCB r t) := by
  intro pins s σ H Q I h
  refine wpAny_Call_Name_kw (ld_blt I hg hm hv ?_ hn hdb)
  exact PyProof.Rows.callWith_type1 (thn (ha pos pins s σ H _ I h) fun us s1 ⟨vs, H1, I1, r1, q1⟩ => hc pins s1 σ H1 vs us Q I1 r1 q1) he hpl
end
end L2

namespace HT
open PySem PyProof.Rows

section
open PySem.SeqAt
open PySem.AutoSeq1 (wpAny_loadPart')
open PySem.MeetsSeq PySem.MeetsSeq2 PySem.MeetsSeq3

end

section
variable {prog : Program} {w : World} {A : Around} {E : Value → Shared → Prop} {s : Shared}

/-- t + u, t not empty -/
theorem cat_tup {t b : Addr} {vs ws : List Value} {Q : Value → Shared → Prop} (ht : IsTup s.heap t vs.toArray) (hb : IsTup s.heap b ws.toArray) (hv : vs ≠ [])
    (h1 : ws = [] → Q (.ref t) s) (h2 : ws ≠ [] → Q (.ref s.heap.objs.size) { s with heap := s.heap.push { cls := .type "tuple", data := .seq (vs ++ ws).toArray } })
    (hsz : vs.length + ws.length ≤ sizeLine) : wpAny (model prog w) A (binaryOp .Add (.ref t) (.ref b)) Q E s := by
  obtain ⟨⟨cls, dd, data, sl⟩, ho, hc, n, hd⟩ := id ht
  obtain ⟨⟨cls2, dd2, data2, sl2⟩, ho2, hc2, n2, hd2⟩ := id hb
  simp only at hc hd hc2 hd2
  subst hc hd hc2 hd2
  have e : vs.toArray ++ ws.toArray = (vs ++ ws).toArray := by simp
  by_cases hw : ws = []
  · exact concat_meets ⟨_, ho, rfl⟩ ⟨_, ho2, rfl⟩ noFill_tuple_add seq_tuple_add PySem.F.slot_tuple_add PySem.F.entry_tuple_add (PySem.F.args_tuple_add_2 _ _)
      (tuple_addW1 t b vs.toArray ws.toArray n n2 dd dd2 sl sl2 (by simpa using hv) (by simp [hw])) ⟨ho, ho2, h1 hw⟩
  · refine concat_meets ⟨_, ho, rfl⟩ ⟨_, ho2, rfl⟩ noFill_tuple_add seq_tuple_add PySem.F.slot_tuple_add PySem.F.entry_tuple_add (PySem.F.args_tuple_add_2 _ _)
      (tuple_addW2 t b vs.toArray ws.toArray n n2 dd dd2 sl sl2 (by simpa using hv) (by simpa using hw) (by rw [List.size_toArray, List.size_toArray]; exact hsz)) ⟨ho, ho2, ?_⟩
    rw [e]
    exact h2 hw

/-- a slice's bound as a place among n (d where it is left out) -/
def sIx (n d : Nat) : Option Int → Nat
  | none => d
  | some v => if v < 0 then (v + (n : Int)).toNat else min v.toNat n
theorem sIx_le (n d : Nat) (hd : d ≤ n) (o : Option Int) : sIx n d o ≤ n := by
  cases o with
  | none => exact hd
  | some v =>
    show (if v < 0 then (v + (n : Int)).toNat else min v.toNat n) ≤ n
    by_cases hv : v < 0
    · rw [if_pos hv]; omega
    · rw [if_neg hv]; exact Nat.min_le_right _ _
theorem clip_eq (v : Int) (n d : Nat) : (if v < 0 then max (v + (n : Int)) 0 else min v (n : Int)) = ((sIx n d (some v) : Nat) : Int) := by
  show (if v < 0 then max (v + (n : Int)) 0 else min v (n : Int)) = (((if v < 0 then (v + (n : Int)).toNat else min v.toNat n) : Nat) : Int)
  by_cases hv : v < 0
  · simp only [if_pos hv]; omega
  · simp only [if_neg hv]; omega
theorem adjust_gen (lo hi : Option Int) (n : Nat) : Builtin.Slice.sliceAdjust lo hi 1 (n : Int) = (((sIx n 0 lo : Nat) : Int), ((sIx n n hi : Nat) : Int)) := by
  have h1 : ¬ ((1 : Int) < 0) := by omega
  unfold Builtin.Slice.sliceAdjust
  simp only [h1, if_false]
  refine Prod.ext ?_ ?_
  · cases lo with
    | none => rfl
    | some v => exact clip_eq v n 0
  · cases hi with
    | none => rfl
    | some v => exact clip_eq v n n
theorem places_gen (i j : Nat) : Builtin.Slice.slicePlaces (i : Int) (j : Int) 1 = j - i := by
  unfold Builtin.Slice.slicePlaces
  have h1 : (1 : Int) > 0 := by omega
  simp only [h1, if_true, Int.ediv_one]
  split <;> omega
theorem slicePart_ {v : Value} {o : Option Int} {Q : Option Int → Shared → Prop} (p : IsPart v o) (h : Q o s) : wpAny (model prog w) A (Builtin.Slice.slicePartIndex v) Q E s := by
  cases p with
  | none => exact slicePart_none h
  | int i t => exact slicePart_int h
theorem sliceApplied_gen {sl : Addr} {vl vu : Value} {lo hi : Option Int} {n : Nat} {Q : Int × Int × Nat → Shared → Prop} (hs : s.heap.IsSliceOf sl vl vu .none) (pl : IsPart vl lo) (pu : IsPart vu hi)
    (h : Q (((sIx n 0 lo : Nat) : Int), 1, sIx n n hi - sIx n 0 lo) s) : wpAny (model prog w) A (Builtin.Slice.sliceApplied (.ref sl) (pure (n : Int))) Q E s := by
  obtain ⟨os, hos, hcs, hds⟩ := id hs
  unfold Builtin.Slice.sliceApplied Builtin.Slice.sliceFields
  refine wpAny_bind (wpAny_bind (wpAny_field hos hds (x := vl) rfl (wpAny_bind (wpAny_field hos hds (x := vu) rfl (wpAny_bind (wpAny_field hos hds (x := .none) rfl (wpAny_pure ?_)))))))
  refine wpAny_bind (slicePart_none ?_)
  show wpAny _ _ (if ((1 : Int) == 0) = true then _ else _) _ _ s
  rw [if_neg (by decide)]
  refine wpAny_bind (slicePart_ pl (wpAny_bind (slicePart_ pu (wpAny_bind (wpAny_pure ?_)))))
  show wpAny _ _ (match Builtin.Slice.sliceAdjust lo hi 1 (n : Int) with | (lo, hi) => pure (lo, (1 : Int), Builtin.Slice.slicePlaces lo hi 1)) _ _ s
  rw [adjust_gen lo hi n]
  show wpAny _ _ (pure (((sIx n 0 lo : Nat) : Int), (1 : Int), Builtin.Slice.slicePlaces ((sIx n 0 lo : Nat) : Int) ((sIx n n hi : Nat) : Int) 1)) _ _ s
  rw [places_gen]
  exact wpAny_pure h
theorem pick_gen (xs : Array Value) (i k : Nat) : ((List.range k).filterMap fun (m : Nat) => xs[((i : Int) + (m : Int) * 1).toNat]?).toArray = ((xs.toList.drop i).take k).toArray := by
  have e : (fun (m : Nat) => xs[((i : Int) + (m : Int) * 1).toNat]?) = fun m => xs[i + m]? := by
    funext m
    have : ((i : Int) + (m : Int) * 1).toNat = i + m := by omega
    rw [this]
  rw [e]
  have := pick_run xs i k
  rw [List.filterMap_map] at this
  have e2 : ((fun x => xs[x]?) ∘ fun x => i + x) = fun m => xs[i + m]? := rfl
  rw [e2] at this
  rw [this]

theorem getItem_tuple_cut {t sl : Addr} {items : Array Value} {vl vu : Value} {lo hi : Option Int} {Q : Value → Shared → Prop} (ht : IsTup s.heap t items) (hs : s.heap.IsSliceOf sl vl vu .none) (pl : IsPart vl lo) (pu : IsPart vu hi)
    (hw : ¬ (sIx items.size 0 lo = 0 ∧ sIx items.size items.size hi = items.size))
    (h : Q (.ref s.heap.objs.size) { s with heap := s.heap.push { cls := .type "tuple", data := .seq ((items.toList.drop (sIx items.size 0 lo)).take (sIx items.size items.size hi - sIx items.size 0 lo)).toArray } })
    (hsz : items.size ≤ sizeLine) : wpAny (model prog w) A (getItem (.ref t) (.ref sl)) Q E s := by
  have htake : sizeOk (.seq ((items.toList.drop (sIx items.size 0 lo)).take (sIx items.size items.size hi - sIx items.size 0 lo)).toArray) := by
    show ((items.toList.drop (sIx items.size 0 lo)).take (sIx items.size items.size hi - sIx items.size 0 lo)).toArray.size ≤ sizeLine
    rw [List.size_toArray, List.length_take, List.length_drop, Array.length_toList]
    omega
  have hj : sIx items.size items.size hi ≤ items.size := sIx_le _ _ (Nat.le_refl _) hi
  obtain ⟨os, hos, hcs, hds⟩ := id hs
  have hTs : s.TypeIs (.ref sl) "slice" := ⟨os, hos, hcs⟩
  unfold getItem
  try with_reducible refine wpAny_holding ?_
  first | refine wpAny_bind (wpAny_pure ?_) | skip
  refine wpAny_bind (wpAny_sequenceKey ht.typeIs (by decide) ?_)
  refine wpAny_bind (wpAny_callSpecial?_slot (name := Str.ofString "__getitem__") ht.typeIs PyProof.Rows.slot_tuple_getitem
    (wpAny_call_entry PyProof.Rows.slot_tuple_getitem ht.typeIs entry_tuple_getitem ?_ (args_tuple_getitem _ _)))
  show wpAny _ _ (Builtin.Tuple.tupleItemsOf (.ref t) >>= _) _ _ s
  refine wpAny_bind (tupleItemsOf_ ht ?_)
  refine wpAny_bind (wpAny_typeOf hTs ?_)
  rw [if_pos (by decide)]
  refine wpAny_bind (sliceApplied_gen hs pl pu ?_)
  have hno : ¬ ((((sIx items.size 0 lo : Nat) : Int) == 0 && (1 : Int) == 1 && (sIx items.size items.size hi - sIx items.size 0 lo) == items.size) = true) := by
    intro q
    rw [Bool.and_eq_true, Bool.and_eq_true] at q
    have q1 : ((sIx items.size 0 lo : Nat) : Int) = 0 := eq_of_beq q.1.1
    have q2 : sIx items.size items.size hi - sIx items.size 0 lo = items.size := eq_of_beq q.2
    exact hw ⟨by omega, by omega⟩
  show wpAny _ _ (if (((sIx items.size 0 lo : Nat) : Int) == 0 && (1 : Int) == 1 && (sIx items.size items.size hi - sIx items.size 0 lo) == items.size) = true then _ else _) _ _ s
  rw [if_neg hno, pick_gen]
  first
    | exact wpAny_bind (m := Builtin.Tuple.tupleExact _) (wpAny_newObj_type (wpAny_pure ⟨_, rfl, wpAny_pure h⟩) htake)
    | exact wpAny_bind (m := Builtin.Tuple.tupleExact _) (wpAny_newObj_type (wpAny_bind (wpAny_pure (wpAny_pure ⟨_, rfl, wpAny_pure h⟩))) htake)
    | exact wpAny_bind (wpAny_bind (m := Builtin.Tuple.tupleExact _) (wpAny_newObj_type (wpAny_pure (wpAny_pure ⟨_, rfl, wpAny_pure h⟩)) htake))
    | exact wpAny_bind (wpAny_bind (m := Builtin.Tuple.tupleExact _) (wpAny_newObj_type (wpAny_pure ⟨_, rfl, wpAny_pure h⟩) htake))
end
end HT

namespace L2
open PySem PySem.Spec PyProof.Rows

abbrev TO := St → Hp → (Option Int → Hp → Prop) → Prop
section
variable {X : Cx} {e : Expr} {te : TE} {lo hi : Option Expr} {tl th : TO} {pos p2 : Pos}

/-- what a slice of a value is, by values: the slice object stands at sl -/
def SlR (X : Cx) (r : V → Option Int → Option Int → Hp → VK → Prop) : Prop :=
  ∀ (pins : List (Addr × Obj)) (s : Shared) (σ : St) (H : Hp) (x : V) (v vl vu : Value) (lo hi : Option Int) (sl : Addr) (Q : VK), Inv X pins σ H s → RelV x v → s.heap.IsSliceOf sl vl vu .none → IsPart vl lo → IsPart vu hi → r x lo hi H Q →
    ∃ T id, typeLookup (.type T) "__getitem__" = pure (some (.builtin id)) ∧ s.TypeIs v T ∧ wpAny (model X.prog X.w) X.A (getItem v (.ref sl)) (EP X pins σ Q) X.xe s
theorem SlR.or {r r' : V → Option Int → Option Int → Hp → VK → Prop} (h : SlR X r) (h' : SlR X r') : SlR X (fun x lo hi H Q => r x lo hi H Q ∨ r' x lo hi H Q) := by
  intro pins s σ H x v vl vu lo hi sl Q I rx hs pl pu q
  rcases q with q | q
  · exact h pins s σ H x v vl vu lo hi sl Q I rx hs pl pu q
  · exact h' pins s σ H x v vl vu lo hi sl Q I rx hs pl pu q
/-- the items of xs[lo:hi] -/
def cutV (xs : List V) (lo hi : Option Int) : List V := (xs.drop (HT.sIx xs.length 0 lo)).take (HT.sIx xs.length xs.length hi - HT.sIx xs.length 0 lo)
theorem cutV_length (xs : List V) (lo hi : Option Int) : (cutV xs lo hi).length ≤ xs.length := by
  unfold cutV
  rw [List.length_take, List.length_drop]
  omega
/-- t[lo:hi], not the whole of it (the whole would be t itself) -/
def rSlT (K : PySem.W.Frag) : V → Option Int → Option Int → Hp → VK → Prop := fun x lo hi H Q => ∃ a xs, x = .ref a ∧ SqT K H a xs ∧
  ¬ (HT.sIx xs.length 0 lo = 0 ∧ HT.sIx xs.length xs.length hi = xs.length) ∧ ∀ p, H p = none → Q (.ref p) (upd H p (.tup (cutV xs lo hi)))
theorem sl_tup : SlR X (rSlT X.K) := by
  intro pins s σ H x v vl vu lo hi sl Q I rx hs pl pu h
  obtain ⟨a, xs, rfl, hx, hw, q⟩ := h
  cases rx
  obtain ⟨its, r, ht, hz⟩ := I.tuple hx
  have hlen : its.toArray.size = xs.length := by rw [List.size_toArray]; exact r.length.symm
  refine ⟨"tuple", _, PyProof.Rows.slot_tuple_getitem.lookup, ht.typeIs, ?_⟩
  refine HT.getItem_tuple_cut ht hs pl pu (by rw [hlen]; exact hw) ?_ (by rw [hlen]; exact hz)
  rw [hlen]
  refine ⟨.ref s.heap.objs.size, _, I.laid (t' := s.toks) (o := .tup (cutV xs lo hi)) (fun b ob q => Heap.get?_push_of_some _ q) (Nat.le_refl _) ?_, rfl, q _ (I.hok.fresh (Nat.le_refl _))⟩
  exact ⟨Nat.le_trans (cutV_length xs lo hi) hz, _, (r.drop (HT.sIx xs.length 0 lo)).take (HT.sIx xs.length xs.length hi - HT.sIx xs.length 0 lo), IsTup.new _ _⟩

end
end L2

namespace L2
open PySem PySem.Spec PyProof.Rows

/-- the place that an index of any sign means -/
def ixN (n : Nat) (i : Int) : Option Nat := if 0 ≤ i then (if i < n then some i.toNat else none) else if -(n : Int) ≤ i then some (i + n).toNat else none
def atI {α : Type} (xs : List α) (i : Int) : Option α := (ixN xs.length i).bind fun j => xs[j]?
theorem ixN_seq {n : Nat} {i : Int} {j : Nat} (h : ixN n i = some j) : seqIndex? i n = some j ∧ j < n ∧ -(n : Int) ≤ i ∧ i < n := by
  unfold ixN at h
  by_cases h0 : 0 ≤ i
  · rw [if_pos h0] at h
    by_cases h1 : i < n
    · rw [if_pos h1] at h
      have e : i.toNat = j := Option.some.inj h
      exact ⟨by rw [seqIndex_of h0 h1, e], by omega, by omega, h1⟩
    · rw [if_neg h1] at h; cases h
  · rw [if_neg h0] at h
    by_cases h1 : -(n : Int) ≤ i
    · rw [if_pos h1] at h
      have e : (i + n).toNat = j := Option.some.inj h
      exact ⟨by rw [seqIndex_neg (by omega) h1, e], by omega, h1, by omega⟩
    · rw [if_neg h1] at h; cases h
theorem atI_get {α : Type} {xs : List α} {i : Int} {v : α} (h : atI xs i = some v) : ∃ j, seqIndex? i xs.length = some j ∧ xs[j]? = some v ∧ j < xs.length ∧ -(xs.length : Int) ≤ i ∧ i < xs.length := by
  unfold atI at h
  cases e : ixN xs.length i with
  | none => rw [e] at h; cases h
  | some j =>
    rw [e] at h
    obtain ⟨h1, h2, h3, h4⟩ := ixN_seq e
    exact ⟨j, h1, h, h2, h3, h4⟩
/-- what stands as an index of a plain subscript -/
def PlainIx (b : Expr) : Prop := ∀ o i, subscripted b false o i = operate [o, i] (getItem o i)
/-- a subscript by values -/
def IxR (X : Cx) (r : R2) : Prop :=
  ∀ (value slice : Expr) (pins : List (Addr × Obj)) (s : Shared) (σ : St) (H : Hp) (x y : V) (v u : Value) (Q : VK), Inv X pins σ H s → RelV x v → RelV y u → r x y H Q →
    subscripted slice false v u = operate [v, u] (getItem v u) → wpAny (model X.prog X.w) X.A (subscriptTail value slice v u) (EP X pins σ Q) X.xe s
/-- a call of a builtin's method by values: the receiver, the arguments -/
def MtR (X : Cx) (id : String) (r : V → List V → Hp → VK → Prop) : Prop :=
  ∀ (pins : List (Addr × Obj)) (s : Shared) (σ : St) (H : Hp) (x : V) (xs : List V) (v : Value) (us : List Value) (Q : VK), Inv X pins σ H s → RelV x v → Vals xs us → r x xs H Q →
    wpAny (model X.prog X.w) X.A (call (.builtin id) (v :: us)) (EP X pins σ Q) X.xe s
section
variable {X : Cx} {a b : Expr} {ta tb : TE} {pos : Pos}
theorem IxR.or {r r' : R2} (h : IxR X r) (h' : IxR X r') : IxR X (fun x y H Q => r x y H Q ∨ r' x y H Q) := by
  intro value slice pins s σ H x y v u Q I rx ry q hs
  rcases q with q | q
  · exact h value slice pins s σ H x y v u Q I rx ry q hs
  · exact h' value slice pins s σ H x y v u Q I rx ry q hs
theorem MtR.or {id : String} {r r' : V → List V → Hp → VK → Prop} (h : MtR X id r) (h' : MtR X id r') : MtR X id (fun x xs H Q => r x xs H Q ∨ r' x xs H Q) := by
  intro pins s σ H x xs v us Q I rx rs q
  rcases q with q | q
  · exact h pins s σ H x xs v us Q I rx rs q
  · exact h' pins s σ H x xs v us Q I rx rs q
def rIxL (K : PySem.W.Frag) : R2 := fun x y H Q => ∃ p xs i v, x = .ref p ∧ y = .int i ∧ SqL K H p xs ∧ atI xs i = some v ∧ Q v H
def rIxT (K : PySem.W.Frag) : R2 := fun x y H Q => ∃ p xs i v, x = .ref p ∧ y = .int i ∧ SqT K H p xs ∧ atI xs i = some v ∧ Q v H
def rIxS : R2 := fun x y H Q => ∃ z i c, x = .str z ∧ y = .int i ∧ z.length ≤ sizeLine ∧ atI z.cps.toList i = some c ∧ Q (.str ⟨#[c]⟩) H
theorem ix_list : IxR X (rIxL X.K) := by
  intro value slice pins s σ H x y v u Q I rx ry h hs
  obtain ⟨p, xs, i, z, rfl, rfl, hq, he, q⟩ := h
  cases rx
  obtain ⟨t, rfl⟩ := ry
  obtain ⟨its, r, pl, hz⟩ := I.list hq
  obtain ⟨j, h1, h2, h3, h4, h5⟩ := atI_get he
  obtain ⟨w, ew, rw'⟩ := r.get h2
  have hl := r.length
  have hn := line63
  have fin : EP X pins σ Q w s := ⟨z, H, I, rw', q⟩
  by_cases h0 : 0 ≤ i
  · have hj : i.toNat = j := by
      rw [seqIndex_of h0 h5] at h1
      exact Option.some.inj h1
    exact item_listR pl.isList h0 (by omega) (by rw [hj]; simpa using ew) fin hs
  · have hj : (i + (its.toArray.size : Int)).toNat = j := by
      rw [seqIndex_neg (by omega) h4] at h1
      rw [List.size_toArray, ← hl]
      exact Option.some.inj h1
    exact subscriptTail_builtinR (x := w) pl.isList.typeIs slot_list_getitem.lookup
      (wpAny_getItem_list_neg (Q := fun r s' => r = w ∧ EP X pins σ Q r s') pl.isList (by omega) (by rw [List.size_toArray] <;> omega) (by omega) (by rw [hj]; simpa using ew) ⟨rfl, fin⟩) hs
theorem ix_tup : IxR X (rIxT X.K) := by
  intro value slice pins s σ H x y v u Q I rx ry h hs
  obtain ⟨p, xs, i, z, rfl, rfl, hq, he, q⟩ := h
  cases rx
  obtain ⟨t, rfl⟩ := ry
  obtain ⟨its, r, pl, hz⟩ := I.tuple hq
  obtain ⟨j, h1, h2, h3, h4, h5⟩ := atI_get he
  obtain ⟨w, ew, rw'⟩ := r.get h2
  have hl := r.length
  have hn := line63
  have fin : EP X pins σ Q w s := ⟨z, H, I, rw', q⟩
  exact subscriptTail_builtinR (x := w) pl.typeIs slot_tuple_getitem.lookup
    (getItem_tuple (j := j) (Q := fun r s' => r = w ∧ EP X pins σ Q r s') pl (by omega) (by omega) (by rw [List.size_toArray, ← hl]; exact h1) (by simpa using ew) ⟨rfl, fin⟩) hs
theorem ix_str : IxR X rIxS := by
  intro value slice pins s σ H x y v u Q I rx ry h hs
  obtain ⟨z, i, c, rfl, rfl, hz, he, q⟩ := h
  obtain ⟨t, rfl⟩ := rx
  obtain ⟨t', rfl⟩ := ry
  obtain ⟨j, h1, h2, h3, h4, h5⟩ := atI_get he
  have hl : z.cps.toList.length = z.length := by simp [Str.length]
  rw [hl] at h1 h4 h5
  have hn := line63
  exact tail_any (typeIs_str s z t) slot_str_getitem.lookup (getItem_str (c := c) (by
    have e1 : decide (i < -(2 ^ 63 : Int)) = false := decide_eq_false (by omega)
    have e2 : decide (i ≥ 2 ^ 63) = false := decide_eq_false (by omega)
    rw [e1, e2, Bool.or_false]) (by rw [h1]; simpa using h2) ⟨.str ⟨#[c]⟩, H, I.tok _, ⟨_, rfl⟩, q⟩) hs
/-- list, tuple or str -/
def rIx (K : PySem.W.Frag) : R2 := fun x y H Q => rIxL K x y H Q ∨ rIxT K x y H Q ∨ rIxS x y H Q
theorem ix_seq : IxR X (rIx X.K) := ix_list.or (ix_tup.or ix_str)

theorem Inv.lst {pins : List (Addr × Obj)} {σ : St} {H : Hp} {s : Shared} {p : Addr} {xs : List V} (I : Inv X pins σ H s) (h : H p = some (.lst xs)) :
    ∃ (its : List Value) (n : Nat), Vals xs its ∧ s.heap.get? p = some { cls := .type "list", data := .seq its.toArray n } ∧ xs.length ≤ sizeLine := by
  obtain ⟨z, its, n, r, e⟩ := I.hok p _ h
  exact ⟨its, n, r, e, z⟩
theorem slice_bounds (lo hi : Option Int) (n : Nat) : (sliceBounds lo hi none n).1 = ((HT.sIx n 0 lo : Nat) : Int) ∧ (sliceBounds lo hi none n).2.1 = ((HT.sIx n n hi : Nat) : Int) ∧ (sliceBounds lo hi none n).2.2 = 1 := by
  refine ⟨?_, ?_, rfl⟩
  · cases lo with
    | none => simp [sliceBounds, HT.sIx]
    | some i =>
      simp only [sliceBounds, HT.sIx, Option.getD_none, show (1 : Int) > 0 by decide, if_true]
      by_cases h : i < 0
      · simp only [h, if_true] <;> omega
      · simp only [h, if_false] <;> omega
  · cases hi with
    | none => simp [sliceBounds, HT.sIx]
    | some i =>
      simp only [sliceBounds, HT.sIx, Option.getD_none, show (1 : Int) > 0 by decide, if_true]
      by_cases h : i < 0
      · simp only [h, if_true] <;> omega
      · simp only [h, if_false] <;> omega
theorem slicePick_cut (its : List Value) (lo hi : Option Int) : slicePick its.toArray lo hi none = ((its.drop (HT.sIx its.length 0 lo)).take (HT.sIx its.length its.length hi - HT.sIx its.length 0 lo)).toArray := by
  obtain ⟨h1, h2, h3⟩ := slice_bounds lo hi its.toArray.size
  unfold slicePick
  rw [h1, h2, h3]
  simp only [sliceRange_one, pick_run, List.size_toArray] <;> rfl
/-- xs[lo:hi] of a list: a new list -/
def rSlL (K : PySem.W.Frag) : V → Option Int → Option Int → Hp → VK → Prop := fun x lo hi H Q => ∃ a xs, x = .ref a ∧ SqL K H a xs ∧ ∀ p, H p = none → Q (.ref p) (upd H p (.lst (cutV xs lo hi)))
theorem sl_list : SlR X (rSlL X.K) := by
  intro pins s σ H x v vl vu lo hi sl Q I rx hs pl pu h
  obtain ⟨a, xs, rfl, hx, q⟩ := h
  cases rx
  obtain ⟨its, r, ht, hz⟩ := I.list hx
  have hlen := r.length
  refine ⟨"list", _, slot_list_getitem.lookup, ht.isList.typeIs, ?_⟩
  refine wpAny_getItem_list_slice ht.isList hs pl pu .none (by simp) ?_ (by rw [List.size_toArray] <;> omega)
  rw [slicePick_cut, ← hlen]
  refine ⟨.ref s.heap.objs.size, _, I.laid (t' := s.toks) (o := .lst (cutV xs lo hi)) (fun b ob q => Heap.get?_push_of_some _ q) (Nat.le_refl _) ?_, rfl, q _ (I.hok.fresh (Nat.le_refl _))⟩
  exact ⟨Nat.le_trans (cutV_length xs lo hi) hz, _, 0, (r.drop (HT.sIx xs.length 0 lo)).take (HT.sIx xs.length xs.length hi - HT.sIx xs.length 0 lo), Heap.get?_push_size _ rfl⟩

theorem call_len_seq : CallR X (.builtin "len") (fun xs H Q => ∃ p ys, xs = [.ref p] ∧ (SqL X.K H p ys ∨ SqT X.K H p ys) ∧ Q (.int ys.length) H) := by
  intro pins s σ H xs us Q I r h
  obtain ⟨p, ys, rfl, hq, q⟩ := h
  obtain ⟨u, rfl, rx⟩ := vals1 r
  cases rx
  have hn := line63
  rcases hq with hq | hq
  · obtain ⟨its, r', pl, hz⟩ := I.list hq
    have hlen := r'.length
    exact Calls.call_len_list pl.isList (by simp only [List.size_toArray] <;> omega) ⟨.int ys.length, H, I.tok _, ⟨s.toks + 1, by rw [List.size_toArray, hlen]⟩, q⟩
  · obtain ⟨its, r', pl, hz⟩ := I.tuple hq
    have hlen := r'.length
    exact len_tuple pl (by simp only [List.size_toArray] <;> omega) ⟨.int ys.length, H, I.tok _, ⟨s.toks + 1, by rw [List.size_toArray, hlen]⟩, q⟩
theorem call_len_str : CallR X (.builtin "len") (fun xs H Q => ∃ z, xs = [.str z] ∧ z.length ≤ sizeLine ∧ Q (.int z.length) H) := by
  intro pins s σ H xs us Q I r h
  obtain ⟨z, rfl, hz, q⟩ := h
  obtain ⟨u, rfl, t, rfl⟩ := vals1 r
  have hn := line63
  exact len_str (by omega) ⟨.int z.length, H, I.tok _, ⟨_, rfl⟩, q⟩
theorem CallR.or {f : Value} {r r' : List V → Hp → VK → Prop} (h : CallR X f r) (h' : CallR X f r') : CallR X f (fun xs H Q => r xs H Q ∨ r' xs H Q) := by
  intro pins s σ H xs us Q I rs q
  rcases q with q | q
  · exact h pins s σ H xs us Q I rs q
  · exact h' pins s σ H xs us Q I rs q
theorem call_list_of : CallR X (.type "list") (fun xs H Q => ∃ p ys, xs = [.ref p] ∧ (SqL X.K H p ys ∨ SqT X.K H p ys) ∧ ∀ l, H l = none → Q (.ref l) (upd H l (.lst ys))) := by
  intro pins s σ H xs us Q I r h
  obtain ⟨p, ys, rfl, hq, q⟩ := h
  obtain ⟨u, rfl, rx⟩ := vals1 r
  cases rx
  have fin : ∀ (its : List Value), Vals ys its → ys.length ≤ sizeLine → ∀ (h' : Heap) (c' : Nat), (∀ b o', s.heap.get? b = some o' → h'.get? b = some o') →
      h'.get? s.heap.objs.size = some { cls := .type "list", dict := none, data := .seq its.toArray c', slots := #[] } → EP X pins σ Q (.ref s.heap.objs.size) { s with heap := h' } := fun its r' hz h' c' kp e =>
    ⟨.ref s.heap.objs.size, _, I.laid (t' := s.toks) kp (Nat.le_refl _) (show ObjOk X.prog X.w _ h' _ (.lst ys) from ⟨hz, its, c', r', e⟩), rfl, q _ (I.hok.fresh (Nat.le_refl _))⟩
  rcases hq with hq | hq
  · obtain ⟨its, r', pl, hz⟩ := I.list hq
    have hlen := r'.length
    obtain ⟨o, ho, hc, n, hd⟩ := pl.isList
    exact call_list_seq p (.inl rfl) ho hc hd (fun h' c' kp e => fin its r' hz h' c' kp e) (by simp only [List.size_toArray] <;> omega)
  · obtain ⟨its, r', pl, hz⟩ := I.tuple hq
    have hlen := r'.length
    obtain ⟨o, ho, hc, n, hd⟩ := pl
    exact call_list_seq p (.inr rfl) ho hc hd (fun h' c' kp e => fin its r' hz h' c' kp e) (by simp only [List.size_toArray] <;> omega)
/-- the value is of that builtin type -/
def tyV (K : PySem.W.Frag) (T : String) (x : V) (H : Hp) : Prop := match x with
  | .str _ => T = "str"
  | .int _ => T = "int"
  | .ref p => (T = "list" ∧ ∃ xs, SqL K H p xs) ∨ (T = "tuple" ∧ ∃ o, K.lookup p = some o ∧ o.cls = .type "tuple" ∧ o.dict = none) ∨
      (T = "dict" ∧ ((∃ kvs, H p = some (.dK kvs)) ∨ ∃ kvs, H p = some (.dT kvs))) ∨ (T = "set" ∧ ∃ S n, H p = some (.set S n))
  | _ => False
theorem tyV_is {pins : List (Addr × Obj)} {σ : St} {H : Hp} {s : Shared} {T : String} {x : V} {v : Value} (I : Inv X pins σ H s) (r : RelV x v) (ty : tyV X.K T x H) :
    s.TypeIs v T ∧ ∀ a, v = .ref a → ∃ ob, s.heap.get? a = some ob ∧ ob.dict = none := by
  cases x with
  | str z =>
    obtain ⟨t, rfl⟩ := r
    cases (show T = "str" from ty)
    exact ⟨typeIs_str s z t, fun _ e => nomatch e⟩
  | int i =>
    obtain ⟨t, rfl⟩ := r
    cases (show T = "int" from ty)
    exact ⟨typeIs_int s i t, fun _ e => nomatch e⟩
  | ref p =>
    cases r
    rcases ty with ⟨rfl, xs, hq⟩ | ⟨rfl, o, hk, hc, hd⟩ | ⟨rfl, hk⟩ | ⟨rfl, S, n, hk⟩
    · obtain ⟨its, _, pl, _⟩ := I.list hq
      refine ⟨pl.isList.typeIs, fun a e => ?_⟩
      cases e
      obtain ⟨o, n, e, c, hd, _⟩ := pl
      exact ⟨o, e, hd⟩
    · refine ⟨⟨o, I.kIn p o hk, hc⟩, fun a e => ?_⟩
      cases e
      exact ⟨o, I.kIn _ o hk, hd⟩
    · have z : ∃ o, s.heap.get? p = some o ∧ o.ExactDict := by
        rcases hk with ⟨kvs, hk⟩ | ⟨kvs, hk⟩
        · obtain ⟨_, _, _, _, o, _, _, e, ex, _⟩ := I.hok p _ hk
          exact ⟨o, e, ex⟩
        · obtain ⟨_, _, _, _, o, _, _, e, ex, _⟩ := I.hok p _ hk
          exact ⟨o, e, ex⟩
      obtain ⟨o, e, ex⟩ := z
      refine ⟨⟨o, e, ex.1⟩, fun a e2 => ?_⟩
      cases e2
      exact ⟨o, e, ex.2.1⟩
    · obtain ⟨o, _, _, _, e, ex, _⟩ := I.hok p _ hk
      refine ⟨⟨o, e, ex.1⟩, fun a e2 => ?_⟩
      cases e2
      exact ⟨o, e, ex.2.1⟩
  | _ => exact False.elim ty
def tBM (K : PySem.W.Frag) (T : String) (r : V → List V → Hp → VK → Prop) (to : TE) (t : TA) : TE := fun σ H Q => to σ H fun x H1 => tyV K T x H1 ∧ t σ H1 fun xs H2 => r x xs H2 Q
variable {o e : Expr} {es : List Expr} {to : TE} {t : TA} {name : Str} {apos cpos : Pos} {T id : String} {r : V → List V → Hp → VK → Prop}
theorem pe_bm (pa : PlainAttrs T) (slot : Slot T name id) (hty : typeOf (.builtin id) = pure (.type "method_descriptor")) (hm : MtR X id r) (ho : PE X o to) (ha : PA X (e :: es) t)
    (hbase : attributeBase o name X.env (eval o X.env) = eval o X.env := by rfl)
    (hfew : ((backTo cpos (starEach (e :: es) X.env)).all (fun x => !x.1) && (backToKw cpos (keywordEach [] X.env)).all (fun x => x.1.isSome)
      && decide ((e :: es).length + ([] : List Keyword).length + (if ([] : List Keyword).isEmpty then 0 else 1) < 30)) = true := by rfl)
    (hline : (apos.endLine == cpos.line) = true := by rfl) (hs : starEach (e :: es) X.env = (false, eval e X.env) :: starEach es X.env := by rfl) (hplain : (backTo cpos (starEach es X.env)).any (·.1) = false := by rfl) :
    PE X (.Call (.Attribute o name apos) (e :: es) [] cpos) (tBM X.K T r to t) := by
  intro pins s σ H Q I h
  refine wpAny_Call_method_late hbase hfew hline rfl (thn (ho pins s σ H _ I h) fun v s1 ⟨x, H1, I1, r1, ty, q1⟩ => ?_)
  obtain ⟨h1, h2⟩ := tyV_is I1 r1 ty
  refine ⟨T, id, pa, slot, hty, h1, h2, ?_⟩
  have hA := ha cpos pins s1 σ H1 _ I1 q1
  rw [hs] at hA ⊢
  refine Calls.callWith_builtin (by show (false || (backTo cpos (starEach es X.env)).any (·.1)) = false; rw [hplain] <;> rfl) (Calls.evalArgs_plain ?_)
  exact thn hA fun us s2 ⟨vs, H2, I2, r2, q2⟩ => hm pins s2 σ H2 x vs v us Q I2 r1 r2 q2
end
end L2

namespace L2
open PySem PySem.Spec PyProof.Rows

theorem Vals.one : ∀ {x : V} {us : List Value}, Vals [x] us → ∃ u, us = [u] ∧ RelV x u
  | _, _, .cons r .nil => ⟨_, rfl, r⟩
theorem Vals.two : ∀ {x y : V} {us : List Value}, Vals [x, y] us → ∃ u v, us = [u, v] ∧ RelV x u ∧ RelV y v
  | _, _, _, .cons r (.cons q .nil) => ⟨_, _, rfl, r, q⟩
theorem Vals.zero : ∀ {us : List Value}, Vals [] us → us = []
  | _, .nil => rfl
theorem Vals.reverse {xs : List V} {us : List Value} (h : Vals xs us) : Vals xs.reverse us.reverse := by
  induction h with
  | nil => exact .nil
  | cons r t ih => rw [List.reverse_cons, List.reverse_cons]; exact Vals.append ih (.cons r .nil)
section
variable {X : Cx} {pins : List (Addr × Obj)} {σ : St} {H : Hp} {s : Shared} {l b : Addr} {xs ys zs : List V}

theorem Inv.fresh (I : Inv X pins σ H s) : H s.heap.objs.size = none := I.hok.fresh (Nat.le_refl _)
end

section
variable {X : Cx}

end

section
variable {prog : Program} {w : World} {A : Around} {E : Value → Shared → Prop} {s : Shared}
end

section
variable {X : Cx}
end
end L2

namespace Att
open PySem PySem.W PySem.Calls PyProof.Rows

theorem ints_of_wellAll {P : Params} {h : Heap} : ∀ (ns : List Int) (vs : List Value), WellAll P h vs (ns.map WData.int) → IntsAre vs ns := by
  intro ns
  induction ns with
  | nil =>
    intro vs w
    rw [List.map_nil] at w
    cases w
    exact .nil
  | cons n ns ih =>
    intro vs w
    rw [List.map_cons] at w
    cases w with
    | cons a b =>
      cases a
      exact .cons _ _ (ih _ b)

theorem script_of {l : OpenLaw} {n : Nat} (hn : l.most = some n) {P : Params} {h : Heap} {args : List WData} {vals : List Value}
    (hpre : l.row.toRowW.claim.pre args = true) (hwl : WellAll P h vals args) :
    ∃ a vs ns, vals = [Value.ref a] ∧ args = [WData.list (ns.map WData.int)] ∧ h.get? a = some { cls := .type "list", data := .seq vs.toArray } ∧ IntsAre vs ns ∧ ns.length ≤ n := by
  have hsh : WShape.hasAll [] args [.list .int] = true := (pre_splitW hpre).1
  have hc : l.pre.holds [] { args := args } = true := (pre_splitW hpre).2
  obtain ⟨d, r, rfl, h1, h2⟩ := hasAllW_cons hsh
  obtain rfl := hasAllW_nil h2
  obtain ⟨xs, rfl, h3⟩ := hasW_list h1
  obtain ⟨ns, rfl⟩ := items_int h3
  have hlen : ns.length ≤ n := by
    unfold OpenLaw.pre at hc
    have h4 : (WTm.not (.lt (.lit (.int (n : Int))) (.len (.arg 0)))).holds [] { args := [.list (ns.map .int)] } = true := by
      have h4 := (holds_andW hc).1
      rw [hn] at h4
      exact h4
    have h5 := condW_of h4 (w_not (w_lt w_lit (w_len_list (w_arg rfl))))
    rw [List.length_map] at h5
    refine Nat.le_of_not_lt fun q => ?_
    have q' : (n : Int) < ((ns.length : Nat) : Int) := by omega
    first
      | (rw [decide_eq_true q'] at h5; exact absurd h5 (by decide))
      | (simp at h5; omega)
  cases hwl with
  | cons w1 w2 =>
    cases w2
    cases w1 with
    | list ho hall => exact ⟨_, _, ns, rfl, rfl, ho, ints_of_wellAll ns _ hall, hlen⟩

theorem post_true (l : OpenLaw) (args : List WData) : l.row.toRowW.claim.post args (.bool true) args = true :=
  postW_of (r := l.row.toRowW) (X := (true == true))
    (show WShape.has [] (.bool true) .bool = true by first | rfl | decide | simp [WShape.has, WShape.arms, WShape.armsAll])
    (show (WTm.eq .res (.lit (.bool true))).value [] { args := args, res := some (.bool true), after := args } = some (.bool (true == true)) from w_eq_bool (w_res rfl) w_lit) rfl

/-- the same from a codeAny of the CALL (for a layer whose function contracts speak of calls) -/
theorem attach_call {l : OpenLaw} {n : Nat} {q : Program} {loose : List Str} {XP : (Str → Option Value) → Heap → Prop} {YP : World → Heap → Prop} {d : DefRec}
    (hn : l.most = some n) (hdf : d.params.defaults = [])
    (call : ∀ (w : World) (s₀ s₁ : Shared) (mg mb : Str → Option Value) (fa : Addr) (o : Obj) (pm cd doc : Value) (a : Addr) (vs : List Value) (ns : List Int),
      Ground q loose [] XP w s₀ mg mb s₁.heap → YP w s₁.heap →
      s₁.heap.get? fa = some o → o.data = .func (docDef d.name d.params d.body d.scope pm cd doc) → s₁.heap.CodeRec cd d.name → mg d.name = some (.ref fa) →
      s₁.heap.get? a = some { cls := .type "list", data := .seq vs.toArray } → IntsAre vs ns → ns.length ≤ n → s₁.gens = #[] →
      codeAny (model l.prog w) callerA (.call (.ref fa) ⟨[.ref a], []⟩) (fun r s' => r = .ok (.ret (.bool true)) ∧ OldK s₁.heap s'.heap ∧ s'.os = s₁.os ∧ AllBare s'.gens) s₁) :
    WalkO q loose XP YP l.row.toRowW d [] (fun f vs => PySem.call f vs) := by
  intro w s₀ s₁ mg mb G Y fa o pm cd doc dV kV ho hd hcd hD hmg hg args vals as hpre hlay hrd hwl hlo
  obtain rfl : dV = .none := Dflts.none hD hdf
  obtain rfl : kV = .none := Dflts.noKw hD
  obtain ⟨a, vs, ns, rfl, rfl, hobj, hints, hlen⟩ := script_of hn hpre hwl
  refine enter_call (codeAny_mono (call w s₀ s₁ mg mb fa o pm cd doc a vs ns G Y ho (fd_plain hd) hcd hmg hobj hints hlen hg) fun r s' hq => ?_)
  obtain ⟨rfl, h2, h3, h4⟩ := hq
  exact ⟨.inl ⟨.bool true, .bool true, [], rfl, fun _ => rfl, .bool true, post_true l _, fun _ => ⟨List.Pairwise.nil, fun _ hm => (nomatch hm)⟩⟩, h2, h3, h4⟩

section
variable {prog : Program} {w : World} {A : Around} {E : Value → Shared → Prop} {s : Shared} {K : Frag}

end
end Att

namespace L2
open PySem PySem.Spec PyProof.Rows

theorem vals_ints : ∀ {vs : List Value} {ns : List Int}, IntsAre vs ns → Vals (ns.map V.int) vs
  | _, _, .nil => .nil
  | _, _, .cons n t h => .cons ⟨t, rfl⟩ (vals_ints h)

/-- nothing is tracked but the script, known to the object (or it is an object of the module) -/
def Only (H : Hp) : Prop := ∀ b, H b = none ∨ ∃ o xs, H b = some (.frz o (.lst xs))

/-- THE HEAD: the law's promise, at the heap behind the top. F, the promise of the law's def, may use that base is part of the heap (so K.In base, base.Ns mainGlobals mg stand in Mod) -/
theorem law_call {P : Program} {w : World} {K : PySem.W.Frag} {mg mb : Str → Option Value} {CX : CXT} {k : Nat} {fa a : Addr} {fd : FuncData} {x : Str} {sp : Sp} {s₁ : Shared} {vs : List Value} {ns : List Int}
    (KX : K.In s₁.heap) (hns : s₁.heap.Ns mainGlobals mg) (hb : s₁.heap.Ns builtinsNs mb) (hbb : ∀ x : Str, x ≠ "__name__" → mb x = bootBuiltins x) (hlim : s₁.heap.NoLimit) (hg : s₁.gens = #[])
    (ha : s₁.heap.get? a = some { cls := .type "list", data := .seq vs.toArray }) (hi : IntsAre vs ns) (hl : ns.length ≤ sizeLine) (hr : Room k callerA)
    (F : ∀ base : Heap, K.In base → base.Ns mainGlobals mg → FnOk P w K mg base CX k fa fd [x] sp) (hbind : ∀ (s : Shared) (u : Value), BindsTo s fd ⟨[u], []⟩ [(x, u)])
    (hsp : ∀ H : Hp, Only H → SqL K H a (ns.map V.int) → sp [.ref a] H (fun v _ => v = .bl true) fun _ _ _ => False)
    (hCX : ∀ H e s', CX [] H s₁ (fun _ _ _ => False) e s' → False) :
    codeAny (model P w) callerA (.call (.ref fa) ⟨[.ref a], []⟩) (fun r s' => r = .ok (.ret (.bool true)) ∧ OldK s₁.heap s'.heap ∧ s'.os = s₁.os ∧ AllBare s'.gens) s₁ := by
  have rv := vals_ints hi
  have lenV := hi.length
  -- from an abstract heap in which nothing but the script may be tracked
  have core : ∀ H : Hp, Only H → SqL K H a (ns.map V.int) → HOk P w H s₁.heap → (∀ b, H b ≠ none → b = a) → (H a ≠ none → K.lookup a = none) →
      codeAny (model P w) callerA (.call (.ref fa) ⟨[.ref a], []⟩) (fun r s' => r = .ok (.ret (.bool true)) ∧ OldK s₁.heap s'.heap ∧ s'.os = s₁.os ∧ AllBare s'.gens) s₁ := by
    intro H hO hS hok hA hK
    have base_of : ∀ {b : Addr} {o : Obj}, s₁.heap.get? b = some o → H b = none → (hidT s₁.heap H).get? b = some o := fun e n => hidT_get e n
    have noA : ∀ {b : Addr} {o : Obj} {es : Array DictEntry} {ep : Nat}, s₁.heap.get? b = some o → o.data = .dict es ep → H b = none := fun {b o es ep} e d => by
      cases q : H b with
      | none => rfl
      | some u =>
        have e' : b = a := hA b (by rw [q]; simp)
        subst e'
        rw [ha] at e; cases e
        have d' : Data.seq vs.toArray _ = Data.dict es ep := d
        cases d'
    have nsK : ∀ {b : Addr} {m : Str → Option Value}, s₁.heap.Ns b m → (hidT s₁.heap H).Ns b m := fun {b m} ⟨o, es, ep, e, d, r⟩ => ⟨o, es, ep, base_of e (noA e d), d, r⟩
    have hKb : K.In (hidT s₁.heap H) := fun b o e => base_of (KX b o e) (by
      cases q : H b with
      | none => rfl
      | some u =>
        have e' : b = a := hA b (by rw [q]; simp)
        subst e'
        rw [hK (by rw [q]; simp)] at e; cases e)
    have hM : Mod K mg (hidT s₁.heap H) := ⟨hKb, nsK hns, ⟨mb, nsK hb, hbb⟩, let ⟨mc, h1, h2⟩ := hlim; ⟨mc, nsK h1, h2⟩⟩
    have e0 : Env0 P w K mg (hidT s₁.heap H) callerA [] s₁ H := ⟨rfl, hM, fun b o e => of_hidT e, Nat.le_of_eq (hidT_size _ _), trivial, fun b hb => absurd (show b ∈ ([] : List Addr) from hb) (by simp), hok, .of_eq hg⟩
    refine codeAny_mono ((F _ hKb (nsK hns)).run callerA [] s₁ H ⟨[.ref a], []⟩ [.ref a] [.ref a] _ _ hr e0 (hbind s₁ (.ref a)) (.cons rfl .nil) (hsp H hO hS)) fun r s' h => ?_
    cases r with
    | error e => exact (hCX H e s' h).elim
    | ok fl =>
      cases fl with
      | next => exact False.elim h
      | brk => exact False.elim h
      | cont => exact False.elim h
      | ret u =>
        obtain ⟨v, H', os, bare, un, hok', r', q⟩ := h
        have q' : v = .bl true := q
        subst q'
        obtain rfl : u = Value.bool true := r'
        refine ⟨rfl, OldK.of_keep fun b o e => ?_, os, bare⟩
        cases q : H b with
        | none => exact un.keep b o e q (by intro z; exact absurd (show b ∈ ([] : List Addr) from z) (by simp)) (by simp)
        | some u =>
          rcases hO b with z | ⟨ob, xs, z⟩
          · rw [q] at z; cases z
          · have z2 := un.frzs b ob _ z
            obtain ⟨e1, _⟩ := hok b _ z
            obtain ⟨e2, _⟩ := hok' b _ z2
            rw [e] at e1; cases e1
            exact e2
  cases hk : K.lookup a with
  | some o =>
    -- the script is one of the module's own objects
    have e := KX a o hk
    rw [ha] at e
    cases e
    refine core (fun _ => none) (fun _ => .inl rfl) (.inr ⟨_, vs.toArray, _, hk, rfl, rfl, rfl, by rw [List.size_toArray, lenV]; exact hl, by simpa using rv⟩) (fun b u z => by have z' : (none : Option HO) = some u := z; cases z') (fun b z => absurd rfl z) fun z => absurd rfl z
  | none =>
    refine core (fun b => if b = a then some (.frz { cls := .type "list", data := .seq vs.toArray } (.lst (ns.map V.int))) else none) (fun b => ?_) (.inl (.inr ⟨{ cls := .type "list", data := .seq vs.toArray }, if_pos rfl⟩)) (fun b u z => ?_) (fun b z => ?_) fun _ => hk
    · by_cases hb : b = a
      · exact .inr ⟨_, _, if_pos hb⟩
      · exact .inl (if_neg hb)
    · by_cases hb : b = a
      · have z' := (if_pos hb).symm.trans z
        cases z'
        subst hb
        exact ⟨ha, by rw [List.length_map]; exact hl, vs, _, rv, ha⟩
      · have z' := (if_neg hb).symm.trans z
        cases z'
    · by_cases hb : b = a
      · exact hb
      · exact absurd (if_neg hb) z
end L2

namespace L2
open PySem PySem.Spec PyProof.Rows

/-- the goal that k_head leaves (case hc), from the law's promise. F gives the function object fd (K's own) once, then the promise over every base -/
theorem walk_of {l : PySem.W.OpenLaw} {n k : Nat} {q : Program} {loose : List Str} {XP : (Str → Option Value) → Heap → Prop} {YP : World → Heap → Prop} {d : DefRec} {K : Params → PySem.W.Frag} {CX : World → CXT} {sp : World → Sp} {x : Str}
    (hn : l.most = some n) (hn2 : n ≤ sizeLine) (hdf : d.params.defaults = []) (hr : Room k callerA)
    (hY : ∀ (w : World) (h : Heap), YP w h → (K w.params).In h)
    (F : ∀ (w : World) (mg : Str → Option Value) (fa : Addr) (h : Heap), (K w.params).In h → h.Ns mainGlobals mg → mg d.name = some (.ref fa) →
      ∃ fd : FuncData, (∀ (s : Shared) (u : Value), BindsTo s fd ⟨[u], []⟩ [(x, u)]) ∧
        ∀ base : Heap, (K w.params).In base → base.Ns mainGlobals mg → FnOk l.prog w (K w.params) mg base (CX w) k fa fd [x] (sp w))
    (hsp : ∀ (w : World) (H : Hp) (a : Addr) (ns : List Int), ns.length ≤ n → Only H → SqL (K w.params) H a (ns.map V.int) → sp w [.ref a] H (fun v _ => v = .bl true) fun _ _ _ => False)
    (hCX : ∀ (w : World) (H : Hp) (s : Shared) (e : Value) (s' : Shared), CX w [] H s (fun _ _ _ => False) e s' → False) :
    PySem.W.WalkO q loose XP YP l.row.toRowW d [] (fun f vs => PySem.call f vs) := by
  refine Att.attach_call hn hdf fun w s₀ s₁ mg mb fa o pm cd doc a vs ns G Y ho hd hcd hmg hobj hints hlen hg => ?_
  have KX := hY w _ Y
  obtain ⟨fd, hb, hF⟩ := F w mg fa _ KX G.T.g hmg
  exact law_call KX G.T.g G.T.b G.T.builtins G.T.nolimit hg hobj hints (Nat.le_trans hlen hn2) hr hF hb (fun H hO hS => hsp w H a ns hlen hO hS) fun H e s' => hCX w H s₁ e s'
end L2


namespace L2
open PySem PySem.Spec PyProof.Rows

def defArgs (s : Stmt) : Arguments := match s with
  | .FunctionDef _ a _ _ _ _ _ _ _ _ => a
  | _ => { posonlyargs := [], args := [], vararg := none, kwonlyargs := [], kw_defaults := [], kwarg := none, defaults := [] }
def defBody (s : Stmt) : List Stmt := match s with
  | .FunctionDef _ _ b _ _ _ _ _ _ _ => b
  | _ => []
def defScope (s : Stmt) : Scope := match s with
  | .FunctionDef _ _ _ _ _ _ sc _ _ _ => sc
  | _ => { kind := .function, names := [], isGenerator := false, isCoroutine := false }

abbrev CX0 : CXT := fun _ _ _ _ _ _ => False
abbrev E0 : XK := fun _ _ _ => False
theorem pass0 {X : Cx} : Passes CX0 X E0 := fun _ _ _ _ _ _ _ h => h.elim

structure Fun (K : PySem.W.Frag) (x qual : Str) (st : Stmt) (f : Addr) (fd : FuncData) : Prop where
  ex : ∃ (oc : Value) (od : Option Addr) (kV doc pm : Value) (an : Option Addr) (cdv ct : Value) (osl : Array (Option Value)),
    fd = PySem.W.fnOf x qual (defArgs st) (defBody st) (defScope st) .none kV doc pm an cdv ct ∧ K.lookup f = some ⟨oc, od, .func fd, osl⟩ ∧ PySem.W.codeIn K cdv qual = true
  kp : PySem.W.keepIn K (.ref f) = true
section
variable {P : Program} {w : World} {K : PySem.W.Frag} {mg : Str → Option Value} {base : Heap}
/-- THE RULE for a def: its body as a term of rules, and the reading of that term -/
theorem Fun.ok {x qual : Str} {st : Stmt} {f : Addr} {fd : FuncData} {N ps : List Str} {k : Nat} {sp : Sp} (F : Fun K x qual st f fd) (S : FnScope N ps (defScope st)) (len : ∀ vs H Q E, sp vs H Q E → vs.length = ps.length)
    (hbody : ∀ (cdv : Value) (A : Around) (outer : List Env) (s : Shared) (H : Hp) (vs : List V) (Q : VK) (E : XK), Room k (A.deeper (envOfC qual (defScope st) s.heap.objs.size f cdv)) → sp vs H Q E →
      ∃ t, PSs (cxOf CX0 P w K mg base N qual (defScope st) f cdv A outer s H E).nox (defBody st) t ∧ t { nx := fun _ H' => Q .non H', rt := Q } (start N vs) H) : FnOk P w K mg base CX0 (k + 1) f fd ps sp := by
  obtain ⟨oc, od, kV, doc, pm, an, cdv, ct, osl, rfl, lk, hcd⟩ := F.ex
  refine fn_of lk hcd S len fun A outer s H vs Q E hr hsp => ?_
  obtain ⟨t, h, q⟩ := hbody cdv A outer s H vs Q E hr hsp
  exact ⟨t, h.nox, q⟩
/-- how its arguments bind (no defaults): h is «fun _ _ _ _ _ _ us hl => match us, hl with | [_, _], _ => rfl», one _ a parameter -/
theorem Fun.binds {x qual : Str} {st : Stmt} {f : Addr} {fd : FuncData} {ps : List Str} (F : Fun K x qual st f fd)
    (h : ∀ (kV doc pm : Value) (an : Option Addr) (cdv ct : Value) (us : List Value), us.length = ps.length → bindArgs (PySem.W.fnOf x qual (defArgs st) (defBody st) (defScope st) .none kV doc pm an cdv ct) ⟨us, []⟩ = pure (ps.zip us)) : Binds K fd ps [] := by
  obtain ⟨oc, od, kV, doc, pm, an, cdv, ct, osl, rfl, lk, hcd⟩ := F.ex
  exact .all (h kV doc pm an cdv ct)
theorem fun_mk {x qual : Str} {st : Stmt} {f : Addr} {oc : Value} {od an : Option Addr} {osl : Array (Option Value)} {kV doc pm cdv ct : Value} (l : K.lookup f = some ⟨oc, od, .func (PySem.W.fnOf x qual (defArgs st) (defBody st) (defScope st) .none kV doc pm an cdv ct), osl⟩)
    (c : PySem.W.codeIn K cdv qual = true) (k : PySem.W.keepIn K (.ref f) = true) : Fun K x qual st f (PySem.W.fnOf x qual (defArgs st) (defBody st) (defScope st) .none kV doc pm an cdv ct) := ⟨⟨oc, od, kV, doc, pm, an, cdv, ct, osl, rfl, l, c⟩, k⟩
end
theorem small1000 {n : Nat} (h : n ≤ 1000) : n < sizeLine := Nat.lt_of_le_of_lt h (by decide)

section
variable {X : Cx}
theorem pv (i : Nat) {x : Str} {pos : Pos} (hN : X.N[i]? = some x := by rfl) (hv : Vis X.env.scope x := by first | exact Or.inl rfl | exact Or.inr (Or.inl rfl) | exact Or.inr (Or.inr rfl)) (hd : (x == ("__debug__" : Str)) = false := by decide)
    (hcd : (x == ("__classdict__" : Str)) = false := by decide) : PE X (.Name x pos) (tVar i) := pe_var hN hv hd hcd
end

/-- all that was tracked is as it was -/
def Same (H H' : Hp) : Prop := ∀ b o, H b = some o → H' b = some o
theorem Same.refl (H : Hp) : Same H H := fun _ _ h => h
theorem Same.trans {H H1 H2 : Hp} (a : Same H H1) (b : Same H1 H2) : Same H H2 := fun c o h => b c o (a c o h)
theorem Same.free {H H' : Hp} (e : Same H H') {l : Addr} (h : H' l = Option.none) : H l = Option.none := by
  cases q : H l with
  | none => rfl
  | some o =>
    rw [e l o q] at h
    cases h
theorem Same.seq {K : PySem.W.Frag} {H H' : Hp} {a : Addr} {xs : List V} (e : Same H H') (h : SqL K H a xs) : SqL K H' a xs := by
  rcases h with (h | ⟨o, h⟩) | h
  · exact .inl (.inl (e _ _ h))
  · exact .inl (.inr ⟨o, e _ _ h⟩)
  · exact .inr h

end L2
end
section
set_option Elab.async false
set_option linter.all false
set_option maxRecDepth 100000
namespace L2
open PySem PySem.Spec PyProof.Rows

section
variable {κ : Type} [DecidableEq κ]
def valV (kvs : List (κ × V)) (k : κ) : Option V := (kvs.find? fun kv => decide (kv.1 = k)).map (·.2)
/-- in its place, or at the end -/
def putK (kvs : List (κ × V)) (k : κ) (v : V) : List (κ × V) :=
  if (kvs.any fun kv => decide (kv.1 = k)) = true then kvs.map (fun kv => if kv.1 = k then (kv.1, v) else kv) else kvs ++ [(k, v)]
def dropK (kvs : List (κ × V)) (k : κ) : List (κ × V) := kvs.filter fun kv => decide (kv.1 ≠ k)

theorem valV_pos {p : κ × V} {r : List (κ × V)} {k : κ} (e : p.1 = k) : valV (p :: r) k = some p.2 := by simp [valV, List.find?_cons, e]
theorem valV_neg {p : κ × V} {r : List (κ × V)} {k : κ} (e : ¬ p.1 = k) : valV (p :: r) k = valV r k := by simp [valV, List.find?_cons, e]
theorem valV_any (k : κ) : ∀ kvs : List (κ × V), (kvs.any fun kv => decide (kv.1 = k)) = (valV kvs k).isSome
  | [] => rfl
  | p :: r => by
    rw [List.any_cons]
    by_cases e : p.1 = k
    · simp only [valV_pos e, decide_eq_true e, Bool.true_or, Option.isSome_some]
    · rw [valV_neg e, decide_eq_false e, Bool.false_or]; exact valV_any k r
theorem RelO.isSome_eq {o : Option V} {u : Option Value} (r : RelO o u) : o.isSome = u.isSome := by
  cases o with
  | none => cases u with
    | none => rfl
    | some _ => exact (show False from r).elim
  | some _ => cases u with
    | none => exact (show False from r).elim
    | some _ => rfl
theorem RelO.getD {o : Option V} {u : Option Value} {d : V} {d' : Value} (r : RelO o u) (rd : RelV d d') : RelV (o.getD d) (u.getD d') := by
  cases o with
  | none => cases u with
    | none => exact rd
    | some _ => exact (show False from r).elim
  | some _ => cases u with
    | none => exact (show False from r).elim
    | some _ => exact r

/-- raw tables of the same keys -/
theorem KV.val {kvs : List (κ × V)} {vs : List (κ × Value)} (r : KV kvs vs) (k : κ) : RelO (valV kvs k) (valueAt vs k) := by
  unfold KV at r
  induction r with
  | nil => exact True.intro
  | @cons p q ps qs h t ih =>
    obtain ⟨h1, h2⟩ := h
    by_cases e : p.1 = k
    · have e' : q.1 = k := h1.symm.trans e
      have b : valueAt (q :: qs) k = some q.2 := by simp [valueAt, List.find?_cons, e']
      rw [valV_pos e, b]; exact h2
    · have e' : ¬ q.1 = k := fun z => e (h1.trans z)
      have b : valueAt (q :: qs) k = valueAt qs k := by simp [valueAt, List.find?_cons, e']
      rw [valV_neg e, b]; exact ih
theorem KV.any {kvs : List (κ × V)} {vs : List (κ × Value)} (r : KV kvs vs) (k : κ) : (kvs.any fun kv => decide (kv.1 = k)) = vs.any fun kv => decide (kv.1 = k) := by
  unfold KV at r
  induction r with
  | nil => rfl
  | cons h t ih => rw [List.any_cons, List.any_cons, ih, h.1]
theorem KV.repl {kvs : List (κ × V)} {vs : List (κ × Value)} (r : KV kvs vs) (k : κ) {y : V} {u : Value} (ry : RelV y u) :
    KV (kvs.map fun kv => if kv.1 = k then (kv.1, y) else kv) (vs.map fun kv => if kv.1 = k then (kv.1, u) else kv) := by
  unfold KV at r ⊢
  induction r with
  | nil => exact .nil
  | @cons p q ps qs h t ih =>
    rw [List.map_cons, List.map_cons]
    refine .cons ?_ ih
    obtain ⟨h1, h2⟩ := h
    by_cases e : p.1 = k
    · rw [if_pos e, if_pos (h1.symm.trans e)]; exact ⟨h1, ry⟩
    · rw [if_neg e, if_neg (fun z => e (h1.trans z))]; exact ⟨h1, h2⟩
theorem KV.put {kvs : List (κ × V)} {vs : List (κ × Value)} (r : KV kvs vs) (k : κ) {y : V} {u : Value} (ry : RelV y u) : KV (putK kvs k y) (stored vs k u) := by
  unfold putK stored
  rw [r.any k]
  by_cases e : (vs.any fun kv => decide (kv.1 = k)) = true
  · rw [if_pos e, if_pos e]; exact r.repl k ry
  · rw [if_neg e, if_neg e]; exact Paired.snoc r ⟨rfl, ry⟩
theorem KV.drop {kvs : List (κ × V)} {vs : List (κ × Value)} (r : KV kvs vs) (k : κ) : KV (dropK kvs k) (without vs k) := by
  unfold KV at r ⊢
  unfold dropK without
  induction r with
  | nil => exact .nil
  | @cons p q ps qs h t ih =>
    obtain ⟨h1, h2⟩ := h
    rw [List.filter_cons, List.filter_cons]
    by_cases e : p.1 = k
    · have a : ¬ decide (p.1 ≠ k) = true := by simp [e]
      have b : ¬ decide (q.1 ≠ k) = true := by simp [h1.symm.trans e]
      rw [if_neg a, if_neg b]; exact ih
    · have e' : ¬ q.1 = k := fun z => e (h1.trans z)
      have a : decide (p.1 ≠ k) = true := by simp [e]
      have b : decide (q.1 ≠ k) = true := by simp [e']
      rw [if_pos a, if_pos b]; exact .cons ⟨h1, h2⟩ ih
theorem KV.keys {kvs : List (κ × V)} {vs : List (κ × Value)} (r : KV kvs vs) : kvs.map (·.1) = vs.map (·.1) := by
  unfold KV at r
  induction r with
  | nil => rfl
  | cons h t ih => rw [List.map_cons, List.map_cons, ih, h.1]
theorem KV.length {kvs : List (κ × V)} {vs : List (κ × Value)} (r : KV kvs vs) : kvs.length = vs.length := Paired.length r
end


/-- raw entries of a dict with tuple keys -/
abbrev KT (H : Hp) : List (List Key × V) → List (List Key × Addr × Value) → Prop := Paired fun p q => p.1 = q.1 ∧ H q.2.1 = some (.tup (p.1.map kV)) ∧ RelV p.2 q.2.2
theorem KT.val {H : Hp} {kvs : List (List Key × V)} {xs : List (List Key × Addr × Value)} (r : KT H kvs xs) (k : List Key) : RelO (valV kvs k) ((atKey xs k).map (·.2)) := by
  induction r with
  | nil => exact True.intro
  | @cons p q ps qs h t ih =>
    obtain ⟨h1, _, h2⟩ := h
    by_cases e : p.1 = k
    · have e' : q.1 = k := h1.symm.trans e
      have b : atKey (q :: qs) k = some q.2 := by simp [atKey, List.find?_cons, e']
      rw [valV_pos e, b]; exact h2
    · have e' : ¬ q.1 = k := fun z => e (h1.trans z)
      have b : atKey (q :: qs) k = atKey qs k := by simp [atKey, List.find?_cons, e']
      rw [valV_neg e, b]; exact ih
theorem KT.repl {H : Hp} {kvs : List (List Key × V)} {xs : List (List Key × Addr × Value)} (r : KT H kvs xs) (k : List Key) {y : V} {u : Value} (ry : RelV y u) :
    KT H (kvs.map fun kv => if kv.1 = k then (kv.1, y) else kv) (xs.map (putAt k u)) := by
  induction r with
  | nil => exact .nil
  | @cons p q ps qs h t ih =>
    rw [List.map_cons, List.map_cons]
    refine .cons ?_ ih
    obtain ⟨h1, h2, h3⟩ := h
    unfold putAt
    by_cases e : p.1 = k
    · rw [if_pos e, if_pos (h1.symm.trans e)]; exact ⟨h1, h2, ry⟩
    · rw [if_neg e, if_neg (fun z => e (h1.trans z))]; exact ⟨h1, h2, h3⟩
theorem KT.put {H : Hp} {kvs : List (List Key × V)} {xs : List (List Key × Addr × Value)} (r : KT H kvs xs) (k : List Key) {b : Addr} {y : V} {u : Value} (hb : H b = some (.tup (k.map kV))) (ry : RelV y u) :
    KT H (putK kvs k y) (storedH xs k b u) := by
  have e : (kvs.any fun kv => decide (kv.1 = k)) = (atKey xs k).isSome := by
    rw [valV_any, (r.val k).isSome_eq, Option.isSome_map]
  unfold putK storedH
  rw [e]
  by_cases q : (atKey xs k).isSome = true
  · rw [if_pos q, if_pos q]; exact r.repl k ry
  · rw [if_neg q, if_neg q]; exact Paired.snoc r ⟨rfl, hb, ry⟩
theorem KT.keeps {H H' : Hp} {kvs : List (List Key × V)} {xs : List (List Key × Addr × Value)} (r : KT H kvs xs) (ht : ∀ b ys, H b = some (.tup ys) → H' b = some (.tup ys)) : KT H' kvs xs :=
  Paired.mapP r fun _ _ z => ⟨z.1, ht _ _ z.2.1, z.2.2⟩

section
variable {P : Program} {w : World} {H : Hp} {h : Heap} {a : Addr}
end

/-- what the dict at a holds at the key y -/
def DGet (H : Hp) (a : Addr) (y : V) (r : Option V) : Prop :=
  (∃ kvs k, Rd H a (.dK kvs) ∧ y = kV k ∧ r = valV kvs k) ∨ ∃ kvs k b, Rd H a (.dT kvs) ∧ y = .ref b ∧ H b = some (.tup (k.map kV)) ∧ r = valV kvs k
/-- the heap behind a[y] = v -/
def DPut (H : Hp) (a : Addr) (y v : V) (H' : Hp) : Prop :=
  (∃ kvs k, H a = some (.dK kvs) ∧ y = kV k ∧ kvs.length < sizeLine ∧ H' = upd H a (.dK (putK kvs k v))) ∨
  ∃ kvs k b, H a = some (.dT kvs) ∧ y = .ref b ∧ H b = some (.tup (k.map kV)) ∧ kvs.length < sizeLine ∧ H' = upd H a (.dT (putK kvs k v))
theorem DGet.k {H : Hp} {a : Addr} {kvs : List (Key × V)} {k : Key} (e : H a = some (.dK kvs)) : DGet H a (kV k) (valV kvs k) := .inl ⟨kvs, k, .inl e, rfl, rfl⟩
theorem DGet.t {H : Hp} {a b : Addr} {kvs : List (List Key × V)} {k : List Key} (e : H a = some (.dT kvs)) (eb : H b = some (.tup (k.map kV))) : DGet H a (.ref b) (valV kvs k) := .inr ⟨kvs, k, b, .inl e, rfl, eb, rfl⟩
theorem DPut.k {H : Hp} {a : Addr} {kvs : List (Key × V)} {k : Key} {v : V} (e : H a = some (.dK kvs)) (hl : kvs.length < sizeLine) : DPut H a (kV k) v (upd H a (.dK (putK kvs k v))) := .inl ⟨kvs, k, e, rfl, hl, rfl⟩
theorem DPut.t {H : Hp} {a b : Addr} {kvs : List (List Key × V)} {k : List Key} {v : V} (e : H a = some (.dT kvs)) (eb : H b = some (.tup (k.map kV))) (hl : kvs.length < sizeLine) :
    DPut H a (.ref b) v (upd H a (.dT (putK kvs k v))) := .inr ⟨kvs, k, b, e, rfl, eb, hl, rfl⟩


section
variable {X : Cx} {pins : List (Addr × Obj)} {σ : St} {H : Hp} {s : Shared} {a : Addr} {y v : V} {u r : Value} {o : Option V} {A : Around} {E : Value → Shared → Prop}

end

section
variable {X : Cx} {pins : List (Addr × Obj)} {σ : St} {H : Hp} {s : Shared} {a : Addr} {kvs : List (Key × V)} {k : Key} {u : Value} {A : Around} {E : Value → Shared → Prop}
end


section
variable {X : Cx} {o i e value : Expr} {pos pos' tpos : Pos} {td ty tv : TE}
end


section
variable {X : Cx} {pos : Pos}
end

def mergeK (kvs more : List (Key × V)) : List (Key × V) := more.foldl (fun acc kv => putK acc kv.1 kv.2) kvs
section
variable {X : Cx} {pins : List (Addr × Obj)} {σ : St} {H : Hp} {s : Shared} {a : Addr} {y d : V} {u r : Value} {o : Option V} {A : Around} {E : Value → Shared → Prop}
end

section
variable {X : Cx} {o e f : Expr} {apos cpos : Pos} {td ty tx : TE}
end

section
variable {X : Cx} {pins : List (Addr × Obj)} {σ : St} {H : Hp} {s : Shared} {a : Addr} {kvs : List (Key × V)} {A : Around} {E : Value → Shared → Prop}
end


section
variable {X : Cx} {pins : List (Addr × Obj)} {σ : St} {H : Hp} {s : Shared} {a : Addr} {y : V} {u : Value} {A : Around} {E : Value → Shared → Prop}
end
end L2
end
section
set_option linter.all false
namespace FD
open PySem

abbrev D := PyData
abbrev En := List (Option D)
abbrev FE := En → Option D
abbrev FT := En → Option Bool
abbrev FA := En → Option (List D)

@[simp] theorem bind_ite {α β : Type} {c : Prop} [Decidable c] (a b : Option α) (f : α → Option β) : (if c then a else b).bind f = if c then a.bind f else b.bind f := by split <;> rfl
@[simp] def eVar (i : Nat) : FE := fun ρ => (ρ[i]?).bind id
@[simp] def eC (d : D) : FE := fun _ => some d
@[simp] def eUn (g : D → Option D) (a : FE) : FE := fun ρ => (a ρ).bind g
@[simp] def eBin (g : D → D → Option D) (a b : FE) : FE := fun ρ => (a ρ).bind fun x => (b ρ).bind fun y => g x y
@[simp] def aNil : FA := fun _ => some []
@[simp] def aCons (a : FE) (r : FA) : FA := fun ρ => (a ρ).bind fun x => (r ρ).bind fun xs => some (x :: xs)
@[simp] def few (xs : List D) : Bool := decide (xs.length ≤ 1000)
@[simp] def eTup (a : FA) : FE := fun ρ => (a ρ).bind fun xs => if few xs then some (.tuple xs) else none
@[simp] def eLst (a : FA) : FE := fun ρ => (a ρ).bind fun xs => if few xs then some (.list xs) else none
@[simp] def eCall (F : List D → Option D) (a : FA) : FE := fun ρ => (a ρ).bind F
@[simp] def boolOf : D → Option Bool
  | .bool b => some b
  | _ => none
@[simp] def eAnd (a b : FE) : FE := fun ρ => ((a ρ).bind boolOf).bind fun c => if c then b ρ else some (.bool false)
@[simp] def eOr (a b : FE) : FE := fun ρ => ((a ρ).bind boolOf).bind fun c => if c then some (.bool true) else b ρ
@[simp] def eNot (a : FE) : FE := fun ρ => ((a ρ).bind boolOf).bind fun c => some (.bool (!c))
@[simp] def tVal (a : FE) : FT := fun ρ => (a ρ).bind boolOf
@[simp] def tAnd (a b : FT) : FT := fun ρ => (a ρ).bind fun c => if c then b ρ else some false
@[simp] def tOr (a b : FT) : FT := fun ρ => (a ρ).bind fun c => if c then some true else b ρ
@[simp] def tNot (a : FT) : FT := fun ρ => (a ρ).bind fun c => some (!c)
@[simp] def eIf (t : FT) (a b : FE) : FE := fun ρ => (t ρ).bind fun c => if c then a ρ else b ρ

def okEq (x y : D) : Bool := x.canLay0 && y.canLay0 && decide (min x.depth y.depth ≤ 60)
def eqD (x y : D) : Option D := if okEq x y then some (.bool (x.eqv y)) else none
def neD (x y : D) : Option D := if okEq x y then some (.bool (!x.eqv y)) else none
@[simp] def cmpD (p : Int → Int → Bool) : D → D → Option D
  | .int i, .int j => some (.bool (p i j))
  | _, _ => none
@[simp] def ltD := cmpD fun i j => decide (i < j)
@[simp] def leD := cmpD fun i j => decide (i ≤ j)
@[simp] def gtD := cmpD fun i j => decide (j < i)
@[simp] def geD := cmpD fun i j => decide (j ≤ i)
@[simp] def isND : D → Option D
  | .none => some (.bool true)
  | _ => some (.bool false)
@[simp] def notND : D → Option D
  | .none => some (.bool false)
  | _ => some (.bool true)
@[simp] def seqOf : D → Option (List D)
  | .list xs => some xs
  | .tuple xs => some xs
  | _ => none
def okIn (x : D) (xs : List D) : Bool := x.canLay0 && PyData.canLayAll0 xs && decide (x.depth ≤ 60)
def inD (x y : D) : Option D := (seqOf y).bind fun xs => if okIn x xs then some (.bool (xs.any fun z => PyData.eqv z x)) else none
def notInD (x y : D) : Option D := (seqOf y).bind fun xs => if okIn x xs then some (.bool (!xs.any fun z => PyData.eqv z x)) else none
def addD : D → D → Option D
  | .int i, .int j => some (.int (i + j))
  | .str x, .str y => if x.length + y.length ≤ 1000 then some (.str (x ++ y)) else none
  | .list xs, .list ys => if xs.length + ys.length ≤ 1000 then some (.list (xs ++ ys)) else none
  | .tuple xs, .tuple ys => if xs.length + ys.length ≤ 1000 then some (.tuple (xs ++ ys)) else none
  | _, _ => none
@[simp] def subD : D → D → Option D
  | .int i, .int j => some (.int (i - j))
  | _, _ => none
def okMul (i j : Int) : Bool := decide (i.natAbs < 18446744073709551616) || decide (j.natAbs < 18446744073709551616) || (decide (i.natAbs < 2 ^ 500) && decide (j.natAbs < 2 ^ 500))
def mulD : D → D → Option D
  | .int i, .int j => if okMul i j then some (.int (i * j)) else none
  | _, _ => none
def fdivD : D → D → Option D
  | .int i, .int j => if 0 < j ∧ j < 1073741824 then some (.int (i / j)) else none
  | _, _ => none
def modD : D → D → Option D
  | .int i, .int j => if 0 < j then some (.int (i % j)) else none
  | _, _ => none
@[simp] def negD : D → Option D
  | .int i => some (.int (-i))
  | _ => none
def at? {α : Type} (xs : List α) (i : Int) : Option α := if 0 ≤ i then xs[i.toNat]? else if -(xs.length : Int) ≤ i then xs[(i + xs.length).toNat]? else none
def chr1 (c : Nat) : D := .str ⟨#[c]⟩
@[simp] def ixD : D → D → Option D
  | .list xs, .int i => at? xs i
  | .tuple xs, .int i => at? xs i
  | .str z, .int i => if z.length ≤ 1000 then (at? z.cps.toList i).map chr1 else none
  | _, _ => none
def clip (n d : Nat) : Option Int → Nat
  | none => d
  | some v => if v < 0 then (v + n).toNat else min v.toNat n
def cut {α : Type} (xs : List α) (lo hi : Option Int) : List α := (xs.drop (clip xs.length 0 lo)).take (clip xs.length xs.length hi - clip xs.length 0 lo)
@[simp] def sliceD (x : D) (lo hi : Option Int) : Option D := match x with
  | .list xs => some (.list (cut xs lo hi))
  | .tuple xs => some (.tuple (cut xs lo hi))
  | .str z => if z.length ≤ 1000 then some (.str ⟨(cut z.cps.toList lo hi).toArray⟩) else none
  | _ => none
abbrev FO := En → Option (Option Int)
@[simp] def oNone : FO := fun _ => some none
@[simp] def intOf : D → Option Int
  | .int i => some i
  | _ => none
@[simp] def oSome (a : FE) : FO := fun ρ => ((a ρ).bind intOf).map some
@[simp] def eSlice (a : FE) (lo hi : FO) : FE := fun ρ => (a ρ).bind fun x => (lo ρ).bind fun l => (hi ρ).bind fun h => sliceD x l h
@[simp] def revD : D → Option D
  | .tuple xs => some (.tuple xs.reverse)
  | _ => none
@[simp] def lenD : List D → Option D
  | [.list xs] => some (.int xs.length)
  | [.tuple xs] => some (.int xs.length)
  | [.str z] => if z.length ≤ 1000 then some (.int z.length) else none
  | _ => none
@[simp] def absD : List D → Option D
  | [.int i] => some (.int (if i < 0 then -i else i))
  | _ => none
@[simp] def intD : List D → Option D
  | [.int i] => some (.int i)
  | [.bool k] => some (.int (if k then 1 else 0))
  | _ => none
def dig (i : Int) : Str := Str.ofString (toString i)
def strD : List D → Option D
  | [.int i] => if i.natAbs < 2 ^ 500 then some (.str (dig i)) else none
  | _ => none
@[simp] def listD : List D → Option D
  | [.list xs] => some (.list xs)
  | [.tuple xs] => some (.list xs)
  | _ => none
@[simp] def tupleD : List D → Option D
  | [.list xs] => some (.tuple xs)
  | [.tuple xs] => some (.tuple xs)
  | _ => none
@[simp] def maxD : List D → Option D
  | [.int i, .int j] => some (.int (if j > i then j else i))
  | _ => none
@[simp] def minD : List D → Option D
  | [.int i, .int j] => some (.int (if j < i then j else i))
  | _ => none
inductive Ty where | tup | lst | int | bool | str
@[simp] def isiB : Ty → D → Bool
  | .tup, .tuple _ => true
  | .lst, .list _ => true
  | .int, .int _ => true
  | .int, .bool _ => true
  | .bool, .bool _ => true
  | .str, .str _ => true
  | _, _ => false
@[simp] def plainD : D → Bool
  | .dict _ => false
  | _ => true
@[simp] def isiD (t : Ty) (x : D) : Option D := if plainD x then some (.bool (isiB t x)) else none
def findLR (c : Nat) : Int := if c = 108 then 0 else if c = 114 then 1 else -1
def findD : D → D → Option D
  | .str x, .str y => if x.cps = #[108, 114] then (match y.cps.toList with
    | [c] => some (.int (findLR c))
    | _ => none) else none
  | _, _ => none
def swS (x y : Str) : Bool := decide (0 + y.length ≤ x.length) && x.cps.extract 0 (0 + y.length) == y.cps
def swD : D → D → Option D
  | .str x, .str y => some (.bool (swS x y))
  | _, _ => none
def compGo (t : FT) (e : FE) (caps : En) : List D → Option (List D)
  | [] => some []
  | x :: r => (t (some x :: caps)).bind fun c => if c then (e (some x :: caps)).bind fun y => (compGo t e caps r).bind fun ys => some (y :: ys) else compGo t e caps r
@[simp] def tTrue : FT := fun _ => some true
def eComp (src : FE) (caps : List Nat) (t : FT) (e : FE) : FE := fun ρ => ((src ρ).bind seqOf).bind fun xs => if few xs then (compGo t e (caps.map fun i => (ρ[i]?).bind id) xs).map .list else none

inductive Out where
  | nx (ρ : En) | rt (d : D) | bk (ρ : En) | ct (ρ : En)
abbrev FS := En → Option Out
@[simp] def sNil : FS := fun ρ => some (.nx ρ)
@[simp] def sSeq (a b : FS) : FS := fun ρ => (a ρ).bind fun o => match o with
  | .nx ρ' => b ρ'
  | .rt d => some (.rt d)
  | .bk ρ' => some (.bk ρ')
  | .ct ρ' => some (.ct ρ')
@[simp] def sSet (i : Nat) (a : FE) : FS := fun ρ => (a ρ).bind fun d => some (.nx (ρ.set i (some d)))
@[simp] def setAll : List Nat → List D → En → En
  | i :: is, d :: ds, ρ => setAll is ds (ρ.set i (some d))
  | _, _, ρ => ρ
@[simp] def tupOf : D → Option (List D)
  | .tuple xs => some xs
  | _ => none
@[simp] def sUnp (is : List Nat) (a : FE) : FS := fun ρ => ((a ρ).bind tupOf).bind fun xs => if xs.length = is.length then some (.nx (setAll is xs ρ)) else none
@[simp] def sIf (t : FT) (a b : FS) : FS := fun ρ => (t ρ).bind fun c => if c then a ρ else b ρ
@[simp] def sRet (a : FE) : FS := fun ρ => (a ρ).bind fun d => some (.rt d)
@[simp] def sBrk : FS := fun ρ => some (.bk ρ)
@[simp] def sCnt : FS := fun ρ => some (.ct ρ)
def chars (z : Str) : List D := z.cps.toList.map chr1
def forGo (i : Nat) (body : FS) : List D → En → Option Out
  | [], ρ => some (.nx ρ)
  | x :: r, ρ => (body (ρ.set i (some x))).bind fun o => match o with
    | .nx ρ' => forGo i body r ρ'
    | .ct ρ' => forGo i body r ρ'
    | .bk ρ' => some (.nx ρ')
    | .rt d => some (.rt d)
@[simp] def sForSeq (i : Nat) (src : FE) (body : FS) : FS := fun ρ => ((src ρ).bind seqOf).bind fun xs => forGo i body xs ρ
@[simp] def strOf : D → Option Str
  | .str z => some z
  | _ => none
@[simp] def sForStr (i : Nat) (src : FE) (body : FS) : FS := fun ρ => ((src ρ).bind strOf).bind fun z => forGo i body (chars z) ρ
@[simp] def start (n : Nat) (ds : List D) : En := ds.map some ++ List.replicate (n - ds.length) none
@[simp] def retOf : Out → Option D
  | .rt d => some d
  | .nx _ => some .none
  | _ => none
@[simp] def bodyF (n np : Nat) (s : FS) (ds : List D) : Option D := if ds.length = np then (s (start n ds)).bind retOf else none
end FD
end
section
set_option Elab.async false
set_option linter.all false
set_option maxRecDepth 100000
set_option maxHeartbeats 4000000
namespace FD
open PySem PySem.Spec PyProof.Rows L2

abbrev St := L2.St
mutual
inductive Rep (K : PySem.W.Frag) (H : Hp) : V → D → Prop
  | non : Rep K H .non .none
  | bl (b : Bool) : Rep K H (.bl b) (.bool b)
  | int (i : Int) : Rep K H (.int i) (.int i)
  | str (x : Str) : Rep K H (.str x) (.str x)
  | lst {a : Addr} {xs : List V} {ds : List D} : SqL K H a xs → Reps K H xs ds → Rep K H (.ref a) (.list ds)
  | tup {a : Addr} {xs : List V} {ds : List D} : SqT K H a xs → Reps K H xs ds → Rep K H (.ref a) (.tuple ds)
inductive Reps (K : PySem.W.Frag) (H : Hp) : List V → List D → Prop
  | nil : Reps K H [] []
  | cons {v : V} {d : D} {vs : List V} {ds : List D} : Rep K H v d → Reps K H vs ds → Reps K H (v :: vs) (d :: ds)
end
theorem sqT_mono {K : PySem.W.Frag} {H H' : Hp} {a : Addr} {xs : List V} (e : Same H H') (h : SqT K H a xs) : SqT K H' a xs := by
  rcases h with (h | ⟨o, h⟩) | h
  · exact .inl (.inl (e _ _ h))
  · exact .inl (.inr ⟨o, e _ _ h⟩)
  · exact .inr h
mutual
theorem Rep.mono {K : PySem.W.Frag} {H H' : Hp} (e : Same H H') : ∀ {v : V} {d : D}, Rep K H v d → Rep K H' v d
  | _, _, .non => .non
  | _, _, .bl b => .bl b
  | _, _, .int i => .int i
  | _, _, .str x => .str x
  | _, _, .lst h r => .lst (e.seq h) (Reps.mono e r)
  | _, _, .tup h r => .tup (sqT_mono e h) (Reps.mono e r)
theorem Reps.mono {K : PySem.W.Frag} {H H' : Hp} (e : Same H H') : ∀ {vs : List V} {ds : List D}, Reps K H vs ds → Reps K H' vs ds
  | _, _, .nil => .nil
  | _, _, .cons h r => .cons (Rep.mono e h) (Reps.mono e r)
end
section
variable {X : Cx} {pins : List (Addr × Obj)} {σ : St} {H H' : Hp} {s : Shared}
mutual
theorem Rep.reads (I : Inv X pins σ H s) : ∀ {v : V} {d : D} {u : Value}, Rep X.K H v d → RelV v u → ∃ as, Reads s.heap u d as
  | _, _, _, .non, r => by cases r; exact ⟨_, .none⟩
  | _, _, _, .bl b, r => by cases r; exact ⟨_, .bool b⟩
  | _, _, _, .int i, r => by obtain ⟨t, rfl⟩ := r; exact ⟨_, .int i t⟩
  | _, _, _, .str x, r => by obtain ⟨t, rfl⟩ := r; exact ⟨_, .str x t⟩
  | _, _, _, .lst h q, r => by
    cases r
    obtain ⟨its, rv, ⟨o, n, e, c, _, d⟩, _⟩ := I.list h
    obtain ⟨as, ra⟩ := Reps.reads I q rv
    exact ⟨_, .list e c d (by simpa using ra)⟩
  | _, _, _, .tup h q, r => by
    cases r
    obtain ⟨its, rv, ⟨o, e, c, n, d⟩, _⟩ := I.tuple h
    obtain ⟨as, ra⟩ := Reps.reads I q rv
    exact ⟨_, .tuple e c d (by simpa using ra)⟩
theorem Reps.reads (I : Inv X pins σ H s) : ∀ {vs : List V} {ds : List D} {us : List Value}, Reps X.K H vs ds → Vals vs us → ∃ as, ReadsAll s.heap us ds as
  | _, _, _, .nil, r => by cases r; exact ⟨_, .nil⟩
  | _, _, _, .cons h q, r => by
    cases r with
    | cons r1 r2 =>
      obtain ⟨as, ra⟩ := Rep.reads I h r1
      obtain ⟨bs, rb⟩ := Reps.reads I q r2
      exact ⟨_, .cons ra rb⟩
end
end
theorem Reps.length {K : PySem.W.Frag} {H : Hp} : ∀ {vs : List V} {ds : List D}, Reps K H vs ds → vs.length = ds.length
  | _, _, .nil => rfl
  | _, _, .cons _ r => by simp [Reps.length r]
theorem Reps.get {K : PySem.W.Frag} {H : Hp} : ∀ {vs : List V} {ds : List D} {i : Nat} {d : D}, Reps K H vs ds → ds[i]? = some d → ∃ v, vs[i]? = some v ∧ Rep K H v d
  | _, _, _, _, .nil, e => by simp at e
  | _, _, 0, _, .cons h _, e => by simp at e; subst e; exact ⟨_, rfl, h⟩
  | _, _, i + 1, d, .cons _ r, e => by
    obtain ⟨v, h1, h2⟩ := Reps.get (i := i) (d := d) r (by simpa using e)
    exact ⟨v, by simpa using h1, h2⟩
theorem Reps.append {K : PySem.W.Frag} {H : Hp} : ∀ {xs ys : List V} {ds es : List D}, Reps K H xs ds → Reps K H ys es → Reps K H (xs ++ ys) (ds ++ es)
  | _, _, _, _, .nil, s => s
  | _, _, _, _, .cons h r, s => .cons h (Reps.append r s)
theorem Reps.take {K : PySem.W.Frag} {H : Hp} : ∀ {xs : List V} {ds : List D} (n : Nat), Reps K H xs ds → Reps K H (xs.take n) (ds.take n)
  | _, _, 0, _ => .nil
  | _, _, _ + 1, .nil => .nil
  | _, _, n + 1, .cons h r => .cons h (Reps.take n r)
theorem Reps.drop {K : PySem.W.Frag} {H : Hp} : ∀ {xs : List V} {ds : List D} (n : Nat), Reps K H xs ds → Reps K H (xs.drop n) (ds.drop n)
  | _, _, 0, r => r
  | _, _, _ + 1, .nil => .nil
  | _, _, n + 1, .cons _ r => Reps.drop n r
theorem Reps.reverse {K : PySem.W.Frag} {H : Hp} : ∀ {xs : List V} {ds : List D}, Reps K H xs ds → Reps K H xs.reverse ds.reverse
  | _, _, .nil => .nil
  | _, _, .cons h r => by
    simp only [List.reverse_cons]
    exact (Reps.reverse r).append (.cons h .nil)
theorem same_new {H : Hp} {p : Addr} (h : H p = none) (o : HO) : Same H (upd H p o) := fun b u q => by rw [upd_ne (ne_of_none q h)]; exact q

/-- the environment's data stand in the slots -/
def RepS (K : PySem.W.Frag) (H : Hp) (σ : St) (ρ : En) : Prop := ρ.length = σ.length ∧ ∀ (i : Nat) (d : D), ρ[i]? = some (some d) → ∃ v, σ[i]? = some (some v) ∧ Rep K H v d
theorem RepS.mono {K : PySem.W.Frag} {H H' : Hp} {σ : St} {ρ : En} (r : RepS K H σ ρ) (e : Same H H') : RepS K H' σ ρ :=
  ⟨r.1, fun i d h => let ⟨v, h1, h2⟩ := r.2 i d h; ⟨v, h1, h2.mono e⟩⟩
theorem RepS.set {K : PySem.W.Frag} {H : Hp} {σ : St} {ρ : En} {v : V} {d : D} (r : RepS K H σ ρ) (h : Rep K H v d) (i : Nat) : RepS K H (σ.set i (some v)) (ρ.set i (some d)) := by
  refine ⟨by simp [r.1], fun j e he => ?_⟩
  rw [List.getElem?_set] at he ⊢
  by_cases c : i = j
  · rw [if_pos c] at he ⊢
    by_cases hl : i < ρ.length
    · rw [if_pos hl] at he
      rw [if_pos (by rw [← r.1]; exact hl)]
      simp only [Option.some.injEq] at he
      subst he
      exact ⟨v, rfl, h⟩
    · rw [if_neg hl] at he; cases he
  · rw [if_neg c] at he ⊢
    exact r.2 j e he

/-- an end: the value bears the datum -/
def FP (X : Cx) (pins : List (Addr × Obj)) (σ : St) (H : Hp) (d : D) (u : Value) (s' : Shared) : Prop := ∃ v H', Inv X pins σ H' s' ∧ RelV v u ∧ Same H H' ∧ Rep X.K H' v d
def FExR (X : Cx) (e : Expr) (f : FE) : Prop :=
  ∀ (pins : List (Addr × Obj)) (s : Shared) (σ : St) (H : Hp) (ρ : En) (d : D), Inv X pins σ H s → RepS X.K H σ ρ → f ρ = some d → wpAny (model X.prog X.w) X.A (eval e X.env) (FP X pins σ H d) X.xe s
structure FEx (X : Cx) (e : Expr) (f : FE) : Prop where
  go : FExR X e f
instance {X : Cx} {e : Expr} {f : FE} : CoeFun (FEx X e f) (fun _ => FExR X e f) := ⟨fun h => h.go⟩
def TPx (X : Cx) (pins : List (Addr × Obj)) (σ : St) (H : Hp) (b : Bool) (c : Bool) (s' : Shared) : Prop := c = b ∧ ∃ H', Inv X pins σ H' s' ∧ Same H H'
def FTxR (X : Cx) (e : Expr) (f : FT) : Prop :=
  ∀ (pins : List (Addr × Obj)) (s : Shared) (σ : St) (H : Hp) (ρ : En) (b : Bool), Inv X pins σ H s → RepS X.K H σ ρ → f ρ = some b → wpAny (model X.prog X.w) X.A (isTrue e X.env (eval e X.env)) (TPx X pins σ H b) X.xe s
structure FTx (X : Cx) (e : Expr) (f : FT) : Prop where
  go : FTxR X e f
instance {X : Cx} {e : Expr} {f : FT} : CoeFun (FTx X e f) (fun _ => FTxR X e f) := ⟨fun h => h.go⟩
def FWxR (X : Cx) (e : Expr) (f : FT) : Prop :=
  ∀ (whole : Sem Value) (pins : List (Addr × Obj)) (s : Shared) (σ : St) (H : Hp) (ρ : En) (b : Bool), Inv X pins σ H s → RepS X.K H σ ρ → f ρ = some b → wpAny (model X.prog X.w) X.A (isTrue e X.env whole) (TPx X pins σ H b) X.xe s
structure FWx (X : Cx) (e : Expr) (f : FT) : Prop where
  go : FWxR X e f
instance {X : Cx} {e : Expr} {f : FT} : CoeFun (FWx X e f) (fun _ => FWxR X e f) := ⟨fun h => h.go⟩
theorem FWx.pt {X : Cx} {e : Expr} {f : FT} (h : FWx X e f) : FTx X e f := ⟨h.go _⟩
def FPs (X : Cx) (pins : List (Addr × Obj)) (σ : St) (H : Hp) (ds : List D) (us : List Value) (s' : Shared) : Prop := ∃ vs H', Inv X pins σ H' s' ∧ Vals vs us ∧ Same H H' ∧ Reps X.K H' vs ds
def FAxR (X : Cx) (es : List Expr) (f : FA) : Prop :=
  ∀ (pos : Pos) (pins : List (Addr × Obj)) (s : Shared) (σ : St) (H : Hp) (ρ : En) (ds : List D), Inv X pins σ H s → RepS X.K H σ ρ → f ρ = some ds → wpAny (model X.prog X.w) X.A (spliced (backTo pos (starEach es X.env))) (FPs X pins σ H ds) X.xe s
structure FAx (X : Cx) (es : List Expr) (f : FA) : Prop where
  go : FAxR X es f
instance {X : Cx} {es : List Expr} {f : FA} : CoeFun (FAx X es f) (fun _ => FAxR X es f) := ⟨fun h => h.go⟩

/-- from the layer's reading -/
theorem FEx.of {X : Cx} {e : Expr} {f : FE} {t : TE} (h : PE X e t) (hq : ∀ σ H ρ d, RepS X.K H σ ρ → f ρ = some d → t σ H fun v H' => Same H H' ∧ Rep X.K H' v d) : FEx X e f :=
  ⟨fun pins s σ H ρ d I r ef => thn (h pins s σ H _ I (hq σ H ρ d r ef)) fun u s' ⟨v, H', I', rv, a, b⟩ => ⟨v, H', I', rv, a, b⟩⟩
/-- to the layer's reading -/
def tF (K : PySem.W.Frag) (f : FE) : TE := fun σ H Q => ∃ (ρ : En) (d : D), RepS K H σ ρ ∧ f ρ = some d ∧ ∀ v H', Same H H' → Rep K H' v d → Q v H'
theorem FEx.pe {X : Cx} {e : Expr} {f : FE} (h : FEx X e f) : PE X e (tF X.K f) := fun pins s σ H Q I ⟨ρ, d, r, ef, q⟩ =>
  thn (h pins s σ H ρ d I r ef) fun u s' ⟨v, H', I', rv, a, b⟩ => ⟨v, H', I', rv, q v H' a b⟩
def tFA (K : PySem.W.Frag) (f : FA) : TA := fun σ H Q => ∃ (ρ : En) (ds : List D), RepS K H σ ρ ∧ f ρ = some ds ∧ ∀ vs H', Same H H' → Reps K H' vs ds → Q vs H'
theorem FAx.pa {X : Cx} {es : List Expr} {f : FA} (h : FAx X es f) : PA X es (tFA X.K f) := fun pos pins s σ H Q I ⟨ρ, ds, r, ef, q⟩ =>
  thn (h pos pins s σ H ρ ds I r ef) fun us s' ⟨vs, H', I', rv, a, b⟩ => ⟨vs, H', I', rv, q vs H' a b⟩

section
variable {X : Cx} {a b : Expr} {fa fb : FE} {pos : Pos}

theorem fe_var (i : Nat) {x : Str} {pos : Pos} (hN : X.N[i]? = some x := by rfl) (hv : Vis X.env.scope x := by first | exact Or.inl rfl | exact Or.inr (Or.inl rfl) | exact Or.inr (Or.inr rfl)) (hd : (x == ("__debug__" : Str)) = false := by decide)
    (hcd : (x == ("__classdict__" : Str)) = false := by decide) : FEx X (.Name x pos) (eVar i) := by
  refine FEx.of (pe_var hN hv hd hcd) fun σ H ρ d r e => ?_
  have e' : ρ[i]? = some (some d) := by
    simp only [eVar] at e
    cases h : ρ[i]? with
    | none => rw [h] at e; cases e
    | some o => rw [h] at e; simp only [Option.bind_some, id] at e; rw [e]
  obtain ⟨v, h1, h2⟩ := r.2 i d e'
  exact ⟨v, h1, Same.refl _, h2⟩
theorem fe_c {e : Expr} {v : V} {d : D} (h : PE X e (tC v)) (hr : ∀ H, Rep X.K H v d) : FEx X e (eC d) := FEx.of h fun σ H ρ d' r e => by
  simp only [eC, Option.some.injEq] at e
  subst e
  exact ⟨Same.refl _, hr H⟩
theorem fe_int {i : Int} {j : Nat} {pos : Pos} : FEx X (.Constant (.int i) j pos) (eC (.int i)) := fe_c pe_int fun _ => .int i
theorem fe_bl {c : Bool} {j : Nat} {pos : Pos} : FEx X (.Constant (.bool c) j pos) (eC (.bool c)) := fe_c pe_bl fun _ => .bl c
theorem fe_non {j : Nat} {pos : Pos} : FEx X (.Constant .none j pos) (eC .none) := fe_c pe_non fun _ => .non
theorem fe_str {x : Str} {j : Nat} {pos : Pos} : FEx X (.Constant (.str x) j pos) (eC (.str x)) := fe_c pe_str fun _ => .str x
/-- a constant of the top -/
structure Gc (K : PySem.W.Frag) (mg : Str → Option Value) (x : Str) (d : D) : Prop where
  ex : ∃ (u : Value) (v : V), mg x = some u ∧ RelV v u ∧ ∀ H, Rep K H v d
theorem fe_glob {x : Str} {d : D} (hg : Gl X x) (h : Gc X.K X.mg x d) (hd : (x == ("__debug__" : Str)) = false := by decide) : FEx X (.Name x pos) (eC d) := by
  obtain ⟨u, v, h1, h2, h3⟩ := h.ex
  exact fe_c (pe_glob hg h1 h2 hd) h3

def OpD (X : Cx) (f : Value → Value → Sem Value) (g : D → D → Option D) : Prop :=
  ∀ (pins : List (Addr × Obj)) (s : Shared) (σ : St) (H : Hp) (x y : V) (u v : Value) (dx dy d : D), Inv X pins σ H s → RelV x u → RelV y v → Rep X.K H x dx → Rep X.K H y dy → g dx dy = some d →
    wpAny (model X.prog X.w) X.A (f u v) (FP X pins σ H d) X.xe s
theorem fin {pins : List (Addr × Obj)} {σ : St} {H : Hp} {s : Shared} {d : D} {t : Sem Value} (h : wpAny (model X.prog X.w) X.A t (EP X pins σ fun v H' => Same H H' ∧ Rep X.K H' v d) X.xe s) : wpAny (model X.prog X.w) X.A t (FP X pins σ H d) X.xe s :=
  thn h fun u s' ⟨v, H', I', rv, a, b⟩ => ⟨v, H', I', rv, a, b⟩
theorem OpD.of {f : Value → Value → Sem Value} {r : R2} {g : D → D → Option D} (h : OpR X f r) (hr : ∀ H x y dx dy d, Rep X.K H x dx → Rep X.K H y dy → g dx dy = some d → r x y H fun v H' => Same H H' ∧ Rep X.K H' v d) : OpD X f g :=
  fun pins s σ H x y u v dx dy d I rx ry px py e => fin (h pins s σ H x y u v _ I rx ry (hr H x y dx dy d px py e))
theorem fbin {g : D → D → Option D} {α : Type} (ha : FEx X a fa) (hb : FEx X b fb) {pins : List (Addr × Obj)} {s : Shared} {σ : St} {H : Hp} {ρ : En} {d : D} (I : Inv X pins σ H s) (r : RepS X.K H σ ρ) (e : eBin g fa fb ρ = some d)
    {Q : α → Shared → Prop} {f : Value → Value → Sem α}
    (hf : ∀ u v s2 x y H2 dx dy, Inv X pins σ H2 s2 → RelV x u → RelV y v → Same H H2 → Rep X.K H2 x dx → Rep X.K H2 y dy → g dx dy = some d → wpAny (model X.prog X.w) X.A (f u v) Q X.xe s2) :
    wpAny (model X.prog X.w) X.A (eval a X.env) (fun v s₁ => wpAny (model X.prog X.w) X.A (eval b X.env) (fun u s₂ => wpAny (model X.prog X.w) X.A (f v u) Q X.xe s₂) X.xe s₁) X.xe s := by
  simp only [eBin] at e
  obtain ⟨dx, ea, e⟩ := Option.bind_eq_some_iff.mp e
  obtain ⟨dy, eb, e⟩ := Option.bind_eq_some_iff.mp e
  refine thn (ha pins s σ H ρ dx I r ea) fun u s1 ⟨x, H1, I1, r1, m1, p1⟩ => ?_
  refine thn (hb pins s1 σ H1 ρ dy I1 (r.mono m1) eb) fun v s2 ⟨y, H2, I2, r2, m2, p2⟩ => ?_
  exact hf u v s2 x y H2 dx dy I2 r1 r2 (m1.trans m2) (p1.mono m2) p2 e
theorem FP.up {pins : List (Addr × Obj)} {σ : St} {H H2 : Hp} {d : D} {u : Value} {s' : Shared} (m : Same H H2) (h : FP X pins σ H2 d u s') : FP X pins σ H d u s' :=
  let ⟨v, H', I', rv, a, b⟩ := h; ⟨v, H', I', rv, m.trans a, b⟩
theorem fe_op {op : Operator} {g : D → D → Option D} (ho : OpD X (binaryOp op) g) (ha : FEx X a fa) (hb : FEx X b fb) : FEx X (.BinOp a op b pos) (eBin g fa fb) := by
  refine ⟨fun pins s σ H ρ d I r e => ?_⟩
  exact wpAny_BinOp (fbin ha hb I r e fun u v s2 x y H2 dx dy I2 rx ry m px py e' => thn (ho pins s2 σ H2 x y u v dx dy d I2 rx ry px py e') fun _ _ h => h.up m)
theorem fe_cmp {op : CmpOp} {g : D → D → Option D} (ho : OpD X (compareOp op) g) (ha : FEx X a fa) (hb : FEx X b fb) (hm : behindInMarks op b = false) : FEx X (.Compare a [op] [b] pos) (eBin g fa fb) := by
  refine ⟨fun pins s σ H ρ d I r e => ?_⟩
  exact wpAny_Compare1 (fbin ha hb I r e fun u v s2 x y H2 dx dy I2 rx ry m px py e' => thn (ho pins s2 σ H2 x y u v dx dy d I2 rx ry px py e') fun _ _ h => h.up m) hm
theorem tru {pins : List (Addr × Obj)} {σ : St} {H : Hp} {d : D} {b : Bool} {u : Value} {s' : Shared} (h : FP X pins σ H d u s') (e : boolOf d = some b) : wpAny (model X.prog X.w) X.A (truthy u) (TPx X pins σ H b) X.xe s' := by
  obtain ⟨v, H', I', rv, m, p⟩ := h
  cases p <;> simp only [boolOf] at e <;> try contradiction
  cases rv
  simp only [Option.some.injEq] at e
  subst e
  exact wpAny_truthy_bool ⟨rfl, H', I', m⟩
theorem ft_cmp {op : CmpOp} {g : D → D → Option D} (ho : OpD X (compareOp op) g) (ha : FEx X a fa) (hb : FEx X b fb) (hm : behindInMarks op b = false) : FTx X (.Compare a [op] [b] pos) (tVal (eBin g fa fb)) := by
  refine ⟨fun pins s σ H ρ c I r e => ?_⟩
  simp only [tVal] at e
  obtain ⟨d, ed, e⟩ := Option.bind_eq_some_iff.mp e
  exact wpAny_isTrue_Compare1 (fbin ha hb I r ed fun u v s2 x y H2 dx dy I2 rx ry m px py e' => thn (ho pins s2 σ H2 x y u v dx dy d I2 rx ry px py e') fun _ _ h => tru (h.up m) e) hm
theorem fe_un {op : UnaryOp} {g : D → Option D} (ho : ∀ (pins : List (Addr × Obj)) (s : Shared) (σ : St) (H : Hp) (x : V) (u : Value) (dx d : D), Inv X pins σ H s → RelV x u → Rep X.K H x dx → g dx = some d → wpAny (model X.prog X.w) X.A (unaryOp op u) (FP X pins σ H d) X.xe s)
    (ha : FEx X a fa) : FEx X (.UnaryOp op a pos) (eUn g fa) := by
  refine ⟨fun pins s σ H ρ d I r e => ?_⟩
  simp only [eUn] at e
  obtain ⟨dx, ea, e⟩ := Option.bind_eq_some_iff.mp e
  refine UnaryOp_ (thn (ha pins s σ H ρ dx I r ea) fun u s1 ⟨x, H1, I1, r1, m1, p1⟩ => ?_)
  exact thn (ho pins s1 σ H1 x u dx d I1 r1 p1 e) fun _ _ h => h.up m1
theorem un_negD (pins : List (Addr × Obj)) (s : Shared) (σ : St) (H : Hp) (x : V) (u : Value) (dx d : D) (I : Inv X pins σ H s) (r : RelV x u) (p : Rep X.K H x dx) (e : negD dx = some d) : wpAny (model X.prog X.w) X.A (unaryOp .USub u) (FP X pins σ H d) X.xe s := by
  cases p <;> simp only [negD] at e <;> try contradiction
  simp only [Option.some.injEq] at e
  subst e
  exact fin (un_neg pins s σ H _ u _ I r ⟨_, rfl, Same.refl _, .int _⟩)
/-- is None, is not None -/
theorem rep_non {K : PySem.W.Frag} {H : Hp} {x : V} {d : D} (p : Rep K H x d) : isND d = some (.bool (decide (x = .non))) ∧ notND d = some (.bool (!decide (x = .non))) := by
  cases p <;> simp [isND, notND]
theorem fe_notN {j : Nat} {pos' : Pos} (ha : FEx X a fa) : FEx X (.Compare a [.IsNot] [.Constant .none j pos'] pos) (eUn notND fa) := by
  refine FEx.of (pe_cmp (pc_notN ha.pe) (nobehind _ (by decide) (by decide))) fun σ H ρ d r e => ?_
  simp only [eUn] at e
  obtain ⟨dx, ea, e⟩ := Option.bind_eq_some_iff.mp e
  refine ⟨ρ, dx, r, ea, fun v H' m p => ⟨m, ?_⟩⟩
  rw [(rep_non p).2] at e
  cases e
  exact .bl _
theorem FTx.of {e : Expr} {f : FT} {t : TT} (h : PT X e t) (hq : ∀ σ H ρ b, RepS X.K H σ ρ → f ρ = some b → t σ H fun c H' => c = b ∧ Same H H') : FTx X e f :=
  ⟨fun pins s σ H ρ b I r ef => thn (h pins s σ H _ I (hq σ H ρ b r ef)) fun c s' ⟨H', I', a, m⟩ => ⟨a, H', I', m⟩⟩
theorem ft_isN {j : Nat} {pos' : Pos} (ha : FEx X a fa) : FTx X (.Compare a [.Is] [.Constant .none j pos'] pos) (tVal (eUn isND fa)) := by
  refine FTx.of (pt_cmp (pc_isN ha.pe) (nobehind _ (by decide) (by decide))) fun σ H ρ c r e => ?_
  simp only [tVal, eUn] at e
  obtain ⟨d, ed, e⟩ := Option.bind_eq_some_iff.mp e
  obtain ⟨dx, ea, ed⟩ := Option.bind_eq_some_iff.mp ed
  refine ⟨ρ, dx, r, ea, fun v H' m p => ?_⟩
  rw [(rep_non p).1] at ed
  cases ed
  simp only [boolOf, Option.some.injEq] at e
  exact ⟨_, rfl, e, m⟩
theorem ft_val {e : Expr} {f : FE} (h : FEx X e f) (he : ∀ whole, isTrue e X.env whole = (do let v ← whole; standAt e.pos; holding [v] (truthy v)) := by intro _; rfl) : FTx X e (tVal f) := by
  refine ⟨fun pins s σ H ρ c I r ef => ?_⟩
  simp only [tVal] at ef
  obtain ⟨d, ed, ef⟩ := Option.bind_eq_some_iff.mp ef
  exact isTrue_plain (thn (h pins s σ H ρ d I r ed) fun u s1 q => tru q ef) (he _)
variable {ta tb : FT} {rest : List Expr}
theorem TPx.up {pins : List (Addr × Obj)} {σ : St} {H H2 : Hp} {b c : Bool} {s' : Shared} (m : Same H H2) (h : TPx X pins σ H2 b c s') : TPx X pins σ H b c s' :=
  let ⟨e, H', I', a⟩ := h; ⟨e, H', I', m.trans a⟩
theorem fw_and1 (ha : FTx X a ta) : FWx X (.BoolOp .And [a] pos) ta := by
  refine ⟨fun wh pins s σ H ρ c I r e => ?_⟩
  refine isTrue_and (thn (ha pins s σ H ρ c I r e) fun c' s1 h => ?_)
  cases c' with
  | true => exact isTrue_and_nil h
  | false => exact h
theorem fw_or1 (ha : FTx X a ta) : FWx X (.BoolOp .Or [a] pos) ta := by
  refine ⟨fun wh pins s σ H ρ c I r e => ?_⟩
  refine isTrue_or (thn (ha pins s σ H ρ c I r e) fun c' s1 h => ?_)
  cases c' with
  | false => exact isTrue_or_nil h
  | true => exact h
theorem fw_and (ha : FTx X a ta) (hb : FWx X (.BoolOp .And (b :: rest) pos) tb) : FWx X (.BoolOp .And (a :: b :: rest) pos) (FD.tAnd ta tb) := by
  refine ⟨fun wh pins s σ H ρ c I r e => ?_⟩
  simp only [FD.tAnd] at e
  obtain ⟨c1, e1, e⟩ := Option.bind_eq_some_iff.mp e
  refine isTrue_and (thn (ha pins s σ H ρ c1 I r e1) fun c' s1 ⟨ec, H1, I1, m1⟩ => ?_)
  subst ec
  cases c' with
  | true => exact thn (hb wh pins s1 σ H1 ρ c I1 (r.mono m1) (by simpa using e)) fun _ _ h => h.up m1
  | false =>
    have e' : false = c := by simpa using e
    exact ⟨e', H1, I1, m1⟩
theorem fw_or (ha : FTx X a ta) (hb : FWx X (.BoolOp .Or (b :: rest) pos) tb) : FWx X (.BoolOp .Or (a :: b :: rest) pos) (FD.tOr ta tb) := by
  refine ⟨fun wh pins s σ H ρ c I r e => ?_⟩
  simp only [FD.tOr] at e
  obtain ⟨c1, e1, e⟩ := Option.bind_eq_some_iff.mp e
  refine isTrue_or (thn (ha pins s σ H ρ c1 I r e1) fun c' s1 ⟨ec, H1, I1, m1⟩ => ?_)
  subst ec
  cases c' with
  | false => exact thn (hb wh pins s1 σ H1 ρ c I1 (r.mono m1) (by simpa using e)) fun _ _ h => h.up m1
  | true =>
    have e' : true = c := by simpa using e
    exact ⟨e', H1, I1, m1⟩
theorem ft_not (ha : FTx X a ta) : FTx X (.UnaryOp .Not a pos) (FD.tNot ta) := by
  refine ⟨fun pins s σ H ρ c I r e => ?_⟩
  simp only [FD.tNot] at e
  obtain ⟨c1, e1, e⟩ := Option.bind_eq_some_iff.mp e
  simp only [Option.some.injEq] at e
  refine isTrue_not (thn (ha pins s σ H ρ c1 I r e1) fun c' s1 ⟨ec, H1, I1, m1⟩ => ?_)
  exact ⟨by rw [ec]; exact e, H1, I1, m1⟩
theorem fe_one {op : BoolOp} {f : FE} (h : FEx X a f) : FEx X (.BoolOp op [a] pos) f := ⟨fun pins s σ H ρ d I r e => BoolOp_one (h pins s σ H ρ d I r e)⟩
theorem of_boolOf {K : PySem.W.Frag} {H : Hp} {v : V} {d : D} {c : Bool} (p : Rep K H v d) (e : boolOf d = some c) : v = .bl c := by
  cases p <;> simp only [boolOf] at e <;> first | contradiction | (simp only [Option.some.injEq] at e; rw [e])
theorem fe_and (ha : FEx X a fa) (hb : FEx X (.BoolOp .And (b :: rest) pos) fb) : FEx X (.BoolOp .And (a :: b :: rest) pos) (eAnd fa fb) := by
  refine ⟨fun pins s σ H ρ d I r e => ?_⟩
  simp only [eAnd] at e
  obtain ⟨c, ec, e⟩ := Option.bind_eq_some_iff.mp e
  obtain ⟨dx, ea, ec⟩ := Option.bind_eq_some_iff.mp ec
  refine BoolOp_and (thn (ha pins s σ H ρ dx I r ea) fun u s1 ⟨x, H1, I1, r1, m1, p1⟩ => ?_)
  obtain rfl := of_boolOf p1 ec
  cases r1
  refine wpAny_truthy_bool ?_
  cases c with
  | true => exact thn (hb pins s1 σ H1 ρ d I1 (r.mono m1) (by simpa using e)) fun _ _ h => h.up m1
  | false =>
    have e' : PyData.bool false = d := by simpa using e
    subst e'
    exact ⟨.bl false, H1, I1, rfl, m1, .bl _⟩
theorem fe_not (ha : FEx X a fa) : FEx X (.UnaryOp .Not a pos) (eNot fa) := by
  refine ⟨fun pins s σ H ρ d I r e => ?_⟩
  simp only [eNot] at e
  obtain ⟨c, ec, e⟩ := Option.bind_eq_some_iff.mp e
  obtain ⟨dx, ea, ec⟩ := Option.bind_eq_some_iff.mp ec
  refine UnaryOp_ (thn (ha pins s σ H ρ dx I r ea) fun u s1 ⟨x, H1, I1, r1, m1, p1⟩ => ?_)
  obtain rfl := of_boolOf p1 ec
  cases r1
  simp only [Option.some.injEq] at e
  subst e
  exact not_of (wpAny_truthy_bool ⟨.bl (!c), H1, I1, rfl, m1, .bl _⟩)
end
end FD
end
section
set_option Elab.async false
set_option linter.all false
set_option maxRecDepth 100000
set_option maxHeartbeats 4000000
namespace FD
open PySem PySem.Spec PyProof.Rows L2
section
variable {X : Cx} {a b : Expr} {fa fb : FE} {pos : Pos}

theorem le_line {n : Nat} (h : n ≤ 1000) : n ≤ sizeLine := Nat.le_of_lt (small1000 h)
theorem fI {f : Value → Value → Sem Value} {C : Int → Int → Prop} {gv : Int → Int → V} {g : D → D → Option D} (h : OpR X f (rI C gv))
    (hg : ∀ H x y dx dy d, Rep X.K H x dx → Rep X.K H y dy → g dx dy = some d → ∃ i j, x = .int i ∧ y = .int j ∧ C i j ∧ Rep X.K H (gv i j) d) : OpD X f g :=
  OpD.of h fun H x y dx dy d px py e => let ⟨i, j, e1, e2, c, p⟩ := hg H x y dx dy d px py e; ⟨i, j, e1, e2, c, Same.refl _, p⟩
theorem fI0 {f : Value → Value → Sem Value} {gv : Int → Int → V} {g : D → D → Option D} (h : OpR X f (rI0 gv))
    (hg : ∀ H x y dx dy d, Rep X.K H x dx → Rep X.K H y dy → g dx dy = some d → ∃ i j, x = .int i ∧ y = .int j ∧ Rep X.K H (gv i j) d) : OpD X f g :=
  OpD.of h fun H x y dx dy d px py e => let ⟨i, j, e1, e2, p⟩ := hg H x y dx dy d px py e; ⟨i, j, e1, e2, Same.refl _, p⟩
theorem op_subD : OpD X (binaryOp .Sub) subD := fI0 op_sub fun H x y dx dy d px py e => by
  cases px <;> cases py <;> simp only [subD] at e <;> first | contradiction | (cases e; exact ⟨_, _, rfl, rfl, .int _⟩)
theorem op_fdivD : OpD X (binaryOp .FloorDiv) fdivD := fI op_fdiv fun H x y dx dy d px py e => by
  cases px <;> cases py <;> simp only [fdivD] at e <;> first | contradiction | skip
  split at e
  · rename_i hc; cases e; exact ⟨_, _, rfl, rfl, hc, .int _⟩
  · exact nomatch e
theorem op_modD : OpD X (binaryOp .Mod) modD := fI op_mod fun H x y dx dy d px py e => by
  cases px <;> cases py <;> simp only [modD] at e <;> first | contradiction | skip
  split at e
  · rename_i hc; cases e; exact ⟨_, _, rfl, rfl, hc, .int _⟩
  · exact nomatch e
theorem bits_500 {i : Int} (h : i.natAbs < 2 ^ 500) : Builtin.Int.intBits i ≤ 2 ^ 20 := by
  unfold Builtin.Int.intBits
  split
  · exact Nat.zero_le _
  · rename_i hz
    have hz' : i.natAbs ≠ 0 := by
      intro z
      have : i = 0 := Int.natAbs_eq_zero.mp z
      simp [this] at hz
    have h1 : i.natAbs.log2 < 500 := (Nat.log2_lt hz').mpr h
    have e : (2 : Nat) ^ 20 = 1048576 := by decide
    omega
theorem okMul_ok {i j : Int} (h : okMul i j = true) : IntMulOk i j := by
  simp only [okMul, Bool.or_eq_true, Bool.and_eq_true, decide_eq_true_eq] at h
  rcases h with (h | h) | ⟨h1, h2⟩
  · exact IntMulOk.of_left (intBits_le_64 (by omega) (by omega))
  · exact IntMulOk.of_right (intBits_le_64 (by omega) (by omega))
  · exact IntMulOk.of_bits (bits_500 h1) (bits_500 h2)
theorem op_mulD : OpD X (binaryOp .Mult) mulD := by
  intro pins s σ H x y u v dx dy d I rx ry px py e
  cases px <;> cases py <;> simp only [mulD] at e <;> first | contradiction | skip
  split at e
  · rename_i hc
    cases e
    obtain ⟨t, rfl⟩ := rx
    obtain ⟨t', rfl⟩ := ry
    exact mul_int ⟨.int _, H, I.tok _, ⟨_, rfl⟩, Same.refl _, .int _⟩ (okMul_ok hc)
  · exact nomatch e
theorem rep_new_lst {K : PySem.W.Frag} {H : Hp} {p : Addr} {xs : List V} {ds : List D} (hp : H p = none) (r : Reps K H xs ds) : Rep K (upd H p (.lst xs)) (.ref p) (.list ds) := .lst (SqL.of upd_same) (r.mono (same_new hp _))
theorem rep_new_tup {K : PySem.W.Frag} {H : Hp} {p : Addr} {xs : List V} {ds : List D} (hp : H p = none) (r : Reps K H xs ds) : Rep K (upd H p (.tup xs)) (.ref p) (.tuple ds) := .tup (SqT.of upd_same) (r.mono (same_new hp _))
/-- a new tuple, a new list laid -/
theorem laid_tup {pins : List (Addr × Obj)} {σ : St} {H : Hp} {s : Shared} {xs : List V} {us : List Value} {ds : List D} (I : Inv X pins σ H s) (r : Vals xs us) (p : Reps X.K H xs ds) (hz : xs.length ≤ sizeLine) :
    FP X pins σ H (.tuple ds) (.ref s.heap.objs.size) { s with heap := s.heap.push { cls := .type "tuple", data := .seq us.toArray } } :=
  ⟨.ref s.heap.objs.size, upd H s.heap.objs.size (.tup xs), I.laid (t' := s.toks) (fun b ob q => Heap.get?_push_of_some _ q) (Nat.le_refl _) ⟨hz, _, r, IsTup.new _ _⟩, rfl, same_new (I.hok.fresh (Nat.le_refl _)) _, rep_new_tup (I.hok.fresh (Nat.le_refl _)) p⟩
theorem laid_lst {pins : List (Addr × Obj)} {σ : St} {H : Hp} {s : Shared} {xs : List V} {us : List Value} {ds : List D} (I : Inv X pins σ H s) (r : Vals xs us) (p : Reps X.K H xs ds) (hz : xs.length ≤ sizeLine) :
    FP X pins σ H (.list ds) (.ref s.heap.objs.size) { s with heap := s.heap.push { cls := .type "list", data := .seq us.toArray } } :=
  ⟨.ref s.heap.objs.size, upd H s.heap.objs.size (.lst xs), I.laid (t' := s.toks) (fun b ob q => Heap.get?_push_of_some _ q) (Nat.le_refl _) ⟨hz, _, 0, r, Heap.get?_push_size _ rfl⟩, rfl, same_new (I.hok.fresh (Nat.le_refl _)) _, rep_new_lst (I.hok.fresh (Nat.le_refl _)) p⟩
theorem op_addD : OpD X (binaryOp .Add) addD := by
  intro pins s σ H x y u v dx dy d I rx ry px py e
  cases px <;> cases py <;> simp only [addD] at e <;> first | contradiction | skip
  · cases e
    exact fin (op_add pins s σ H _ _ u v _ I rx ry ⟨_, _, rfl, rfl, Same.refl _, .int _⟩)
  · split at e
    · rename_i hc
      cases e
      exact fin (op_add_str pins s σ H _ _ u v _ I rx ry ⟨_, _, rfl, rfl, le_line hc, Same.refl _, .str _⟩)
    · exact nomatch e
  · rename_i l1 xs1 ds1 h1 p1 l2 xs2 ds2 h2 p2
    split at e
    · rename_i hc
      cases e
      cases rx
      cases ry
      obtain ⟨its, r1, q1, z1⟩ := I.list h1
      obtain ⟨its2, r2, q2, z2⟩ := I.list h2
      have n1 := p1.length
      have n2 := p2.length
      have e1 := r1.length
      have e2 := r2.length
      have ea : its.toArray ++ its2.toArray = (its ++ its2).toArray := by simp
      obtain ⟨⟨cls, dd, data, sl⟩, ho, hc', n, hd⟩ := q1.isList
      obtain ⟨⟨cls2, dd2, data2, sl2⟩, ho2, hc2, m, hd2⟩ := q2.isList
      simp only at hc' hd hc2 hd2
      subst hc' hd hc2 hd2
      refine concat_meets ⟨_, ho, rfl⟩ ⟨_, ho2, rfl⟩ noFill_list_add seq_list_add PySem.F.slot_list_add PySem.F.entry_list_add (PySem.F.args_list_add_2 _ _) (list_addW l1 l2 its.toArray its2.toArray n m dd dd2 sl sl2 (by rw [List.size_toArray, List.size_toArray]; exact le_line (by omega))) ⟨ho, ho2, ?_⟩
      rw [ea]
      exact laid_lst I (r1.append r2) (p1.append p2) (by rw [List.length_append]; exact le_line (by omega))
    · exact nomatch e
  · rename_i l1 xs1 ds1 h1 p1 l2 xs2 ds2 h2 p2
    split at e
    · rename_i hc
      cases e
      have n1 := p1.length
      have n2 := p2.length
      cases rx
      cases ry
      obtain ⟨its, r1, q1, z1⟩ := I.tuple h1
      obtain ⟨its2, r2, q2, z2⟩ := I.tuple h2
      have e1 := r1.length
      have e2 := r2.length
      by_cases hz : its = []
      · subst hz
        cases r1
        cases p1
        obtain ⟨⟨cls, dd, data, sl⟩, ho, hc', n, hd⟩ := id q1
        obtain ⟨⟨cls2, dd2, data2, sl2⟩, ho2, hc2, m, hd2⟩ := id q2
        simp only at hc' hd hc2 hd2
        subst hc' hd hc2 hd2
        exact concat_meets ⟨_, ho, rfl⟩ ⟨_, ho2, rfl⟩ noFill_tuple_add seq_tuple_add PySem.F.slot_tuple_add PySem.F.entry_tuple_add (PySem.F.args_tuple_add_2 _ _) (tuple_addW0 l1 l2 _ its2.toArray n m dd dd2 sl sl2 (by simp))
          ⟨ho, ho2, ⟨.ref l2, H, I, rfl, Same.refl _, by rw [List.nil_append]; exact .tup h2 p2⟩⟩
      · refine HT.cat_tup q1 q2 hz (fun z => ?_) (fun z => ?_) (by rw [← e1, ← e2]; exact le_line (by omega))
        · subst z
          cases r2
          cases p2
          exact ⟨.ref l1, H, I, rfl, Same.refl _, by rw [List.append_nil]; exact .tup h1 p1⟩
        · exact laid_tup I (r1.append r2) (p1.append p2) (by rw [List.length_append]; exact le_line (by omega))
    · exact nomatch e
theorem op_ltD : OpD X (compareOp .Lt) ltD := fI0 op_lt fun H x y dx dy d px py e => by
  cases px <;> cases py <;> simp only [ltD, cmpD] at e <;> first | contradiction | (cases e; exact ⟨_, _, rfl, rfl, .bl _⟩)
theorem op_leD : OpD X (compareOp .LtE) leD := fI0 op_le fun H x y dx dy d px py e => by
  cases px <;> cases py <;> simp only [leD, cmpD] at e <;> first | contradiction | (cases e; exact ⟨_, _, rfl, rfl, .bl _⟩)
theorem op_gtD : OpD X (compareOp .Gt) gtD := fI0 op_gt fun H x y dx dy d px py e => by
  cases px <;> cases py <;> simp only [gtD, cmpD] at e <;> first | contradiction | (cases e; exact ⟨_, _, rfl, rfl, .bl _⟩)
theorem op_eqD (hu : X.A.units + 64 < cLine) : OpD X (compareOp .Eq) eqD := by
  intro pins s σ H x y u v dx dy d I rx ry px py e
  simp only [eqD] at e
  split at e
  · rename_i hk
    cases e
    simp only [okEq, Bool.and_eq_true, decide_eq_true_eq] at hk
    obtain ⟨as, ra⟩ := px.reads I rx
    obtain ⟨bs, rb⟩ := py.reads I ry
    exact PySem.SeqAt.compareEq_reads ra rb hk.1.1 hk.1.2 (by omega) ⟨.bl _, H, I, rfl, Same.refl _, .bl _⟩
  · exact nomatch e
theorem op_neD (hu : X.A.units + 64 < cLine) : OpD X (compareOp .NotEq) neD := by
  intro pins s σ H x y u v dx dy d I rx ry px py e
  simp only [neD] at e
  split at e
  · rename_i hk
    cases e
    simp only [okEq, Bool.and_eq_true, decide_eq_true_eq] at hk
    obtain ⟨as, ra⟩ := px.reads I rx
    obtain ⟨bs, rb⟩ := py.reads I ry
    exact PySem.SeqAt.compareNe_reads ra rb hk.1.1 hk.1.2 (by omega) ⟨.bl _, H, I, rfl, Same.refl _, .bl _⟩
  · exact nomatch e
theorem op_inD (hu : X.A.units + 64 < cLine) : OpD X (compareOp .In) inD := by
  intro pins s σ H x y u v dx dy d I rx ry px py e
  simp only [inD] at e
  obtain ⟨xs, es, e⟩ := Option.bind_eq_some_iff.mp e
  split at e
  · rename_i hk
    cases e
    simp only [okIn, Bool.and_eq_true, decide_eq_true_eq] at hk
    obtain ⟨as, ra⟩ := px.reads I rx
    obtain ⟨bs, rb⟩ := py.reads I ry
    cases dy <;> simp only [seqOf] at es <;> first | contradiction | skip
    · cases es
      exact PySem.SeqAt.in_list_reads rb ra hk.1.2 hk.1.1 (by omega) ⟨.bl _, H, I, rfl, Same.refl _, .bl _⟩
    · cases es
      exact PySem.SeqAt.in_tuple_reads rb ra hk.1.2 hk.1.1 (by omega) ⟨.bl _, H, I, rfl, Same.refl _, .bl _⟩
  · exact nomatch e
theorem op_notInD (hu : X.A.units + 64 < cLine) : OpD X (compareOp .NotIn) notInD := by
  intro pins s σ H x y u v dx dy d I rx ry px py e
  simp only [notInD] at e
  obtain ⟨xs, es, e⟩ := Option.bind_eq_some_iff.mp e
  split at e
  · rename_i hk
    cases e
    simp only [okIn, Bool.and_eq_true, decide_eq_true_eq] at hk
    obtain ⟨as, ra⟩ := px.reads I rx
    obtain ⟨bs, rb⟩ := py.reads I ry
    cases dy <;> simp only [seqOf] at es <;> first | contradiction | skip
    · cases es
      exact PySem.SeqAt.notIn_list_reads rb ra hk.1.2 hk.1.1 (by omega) ⟨.bl _, H, I, rfl, Same.refl _, .bl _⟩
    · cases es
      exact PySem.SeqAt.notIn_tuple_reads rb ra hk.1.2 hk.1.1 (by omega) ⟨.bl _, H, I, rfl, Same.refl _, .bl _⟩
  · exact nomatch e

def nostar : Expr → Bool
  | .Starred _ _ => false
  | _ => true
theorem star_no {e : Expr} {es : List Expr} {env : Env} (h : nostar e = true) : starEach (e :: es) env = (false, eval e env) :: starEach es env := by
  cases e <;> first | rfl | cases h
theorem back_no {p : Pos} {env : Env} : ∀ {es : List Expr}, es.all nostar = true → (backTo p (starEach es env)).any (·.1) = false
  | [], _ => rfl
  | e :: es, h => by
    simp only [List.all_cons, Bool.and_eq_true] at h
    have ih := back_no (p := p) (env := env) h.2
    rw [star_no h.1]
    simp only [backTo, List.map_cons, List.any_cons, Bool.false_or] at ih ⊢
    exact ih
theorem fa_nil : FAx X [] aNil := by
  refine ⟨fun pos pins s σ H ρ ds I r e => ?_⟩
  simp only [aNil, Option.some.injEq] at e
  subst e
  exact Calls.spliced_nil ⟨[], H, I, .nil, Same.refl _, .nil⟩
theorem fa_cons {e : Expr} {es : List Expr} {f : FE} {g : FA} (ha : FEx X e f) (hr : FAx X es g) (hs : nostar e = true := by rfl) : FAx X (e :: es) (aCons f g) := by
  refine ⟨fun pos pins s σ H ρ ds I r ef => ?_⟩
  simp only [aCons] at ef
  obtain ⟨d, e1, ef⟩ := Option.bind_eq_some_iff.mp ef
  obtain ⟨dr, e2, ef⟩ := Option.bind_eq_some_iff.mp ef
  cases ef
  rw [star_no hs]
  show wpAny _ _ (spliced ((false, eval e X.env) :: backTo pos (starEach es X.env))) _ _ s
  refine Calls.spliced_cons (thn (ha pins s σ H ρ d I r e1) fun u s1 ⟨x, H1, I1, r1, m1, p1⟩ => ?_)
  exact thn (hr pos pins s1 σ H1 ρ dr I1 (r.mono m1) e2) fun us s2 ⟨xs, H2, I2, r2, m2, p2⟩ => ⟨x :: xs, H2, I2, .cons r1 r2, m1.trans m2, .cons (p1.mono m2) p2⟩
theorem fe_tup {es : List Expr} {g : FA} {x1 : Nat} (h : FAx X es g) : FEx X (.Tuple es x1 pos) (eTup g) := by
  refine FEx.of (pe_tup h.pa) fun σ H ρ d r e => ?_
  simp only [eTup] at e
  obtain ⟨ds, e1, e⟩ := Option.bind_eq_some_iff.mp e
  split at e
  · rename_i hf
    cases e
    simp only [few, decide_eq_true_eq] at hf
    exact ⟨ρ, ds, r, e1, fun vs H' m p => ⟨le_line (by rw [p.length]; exact hf), fun q hq => ⟨m.trans (same_new hq _), rep_new_tup hq p⟩⟩⟩
  · exact nomatch e
theorem fe_lst {es : List Expr} {g : FA} (h : FAx X es g) : FEx X (.List es pos) (eLst g) := by
  refine FEx.of (pe_lst h.pa) fun σ H ρ d r e => ?_
  simp only [eLst] at e
  obtain ⟨ds, e1, e⟩ := Option.bind_eq_some_iff.mp e
  split at e
  · rename_i hf
    cases e
    simp only [few, decide_eq_true_eq] at hf
    exact ⟨ρ, ds, r, e1, fun vs H' m p => ⟨le_line (by rw [p.length]; exact hf), fun q hq => ⟨m.trans (same_new hq _), rep_new_lst hq p⟩⟩⟩
  · exact nomatch e

/-- what a def promises: F tells its answer -/
def spF (K : PySem.W.Frag) (F : List D → Option D) : Sp := fun vs H Q _ => ∃ ds d, Reps K H vs ds ∧ F ds = some d ∧ ∀ v H', Same H H' → Rep K H' v d → Q v H'
/-- a def of the text, as it is called -/
structure Kn (P : Program) (w : World) (K : PySem.W.Frag) (mg : Str → Option Value) (base : Heap) (k : Nat) (x : Str) (ps : List Str) (F : List D → Option D) : Prop where
  ex : ∃ (f : Addr) (fd : FuncData), FnOk P w K mg base CX0 k f fd ps (spF K F) ∧ mg x = some (.ref f) ∧ PySem.W.keepIn K (.ref f) = true ∧ Binds K fd ps []
theorem fe_call {k : Nat} {x : Str} {ps : List Str} {F : List D → Option D} {e : Expr} {es : List Expr} {g : FA} {p : Pos} (h : Kn X.prog X.w X.K X.mg X.base k x ps F) (hr : Room k X.A) (hg : Gl X x) (ha : FAx X (e :: es) g)
    (hdb : (x == ("__debug__" : Str)) = false := by decide) (he : nostar e = true := by rfl) (hpl : es.all nostar = true := by rfl) :
    FEx X (.Call (.Name x p) (e :: es) [] pos) (eCall F g) := by
  obtain ⟨f, fd, G, hm, hk, hb⟩ := h.ex
  refine FEx.of (pe_call G hr hg hm hk hb .nil pass0 ha.pa hdb (star_no he) (back_no hpl)) fun σ H ρ d r e => ?_
  simp only [eCall] at e
  obtain ⟨ds, e1, e⟩ := Option.bind_eq_some_iff.mp e
  refine ⟨ρ, ds, r, e1, fun vs H' m q => ?_⟩
  show spF X.K F (vs ++ []) H' (fun v H' => Same H H' ∧ Rep X.K H' v d) E0
  rw [List.append_nil]
  exact ⟨ds, d, q, e, fun v H2 m2 p2 => ⟨m.trans m2, p2⟩⟩
/-- a built-in by its values -/
def CbD (X : Cx) (f : Value) (g : List D → Option D) : Prop :=
  ∀ (pins : List (Addr × Obj)) (s : Shared) (σ : St) (H : Hp) (xs : List V) (us : List Value) (ds : List D) (d : D), Inv X pins σ H s → Vals xs us → Reps X.K H xs ds → g ds = some d → wpAny (model X.prog X.w) X.A (call f us) (FP X pins σ H d) X.xe s
theorem cbR {f : Value} {g : List D → Option D} (h : CbD X f g) : CallR X f (fun xs H Q => ∃ ds d, Reps X.K H xs ds ∧ g ds = some d ∧ ∀ v H', Same H H' → Rep X.K H' v d → Q v H') :=
  fun pins s σ H xs us Q I r ⟨ds, d, p, e, q⟩ => thn (h pins s σ H xs us ds d I r p e) fun u s' ⟨v, H', I', rv, m, pv⟩ => ⟨v, H', I', rv, q v H' m pv⟩
theorem fe_blt {id : String} {x : Str} {g : List D → Option D} {e : Expr} {es : List Expr} {ga : FA} {p : Pos} (hc : CbD X (.builtin id) g) (hg : Gl X x) (hm : X.mg x = none) (hv : bootBuiltins x = some (.builtin id)) (ha : FAx X (e :: es) ga) (hn : x ≠ "__name__" := by decide) (hdb : (x == ("__debug__" : Str)) = false := by decide)
    (he : nostar e = true := by rfl) (hpl : es.all nostar = true := by rfl) : FEx X (.Call (.Name x p) (e :: es) [] pos) (eCall g ga) := by
  refine FEx.of (pe_callB (cbR hc) hg hm hv ha.pa hn hdb (star_no he) (back_no hpl)) fun σ H ρ d r e => ?_
  simp only [eCall] at e
  obtain ⟨ds, e1, e⟩ := Option.bind_eq_some_iff.mp e
  exact ⟨ρ, ds, r, e1, fun vs H' m q => ⟨ds, d, q, e, fun v H2 m2 p2 => ⟨m.trans m2, p2⟩⟩⟩
theorem fe_typ {T : String} {x : Str} {g : List D → Option D} {e : Expr} {es : List Expr} {ga : FA} {p : Pos} (hc : CbD X (.type T) g) (hg : Gl X x) (hm : X.mg x = none) (hv : bootBuiltins x = some (.type T)) (ha : FAx X (e :: es) ga) (hn : x ≠ "__name__" := by decide) (hdb : (x == ("__debug__" : Str)) = false := by decide)
    (he : nostar e = true := by rfl) (hpl : es.all nostar = true := by rfl) : FEx X (.Call (.Name x p) (e :: es) [] pos) (eCall g ga) := by
  refine FEx.of (pe_callTy (cbR hc) hg hm hv ha.pa hn hdb (star_no he) (back_no hpl)) fun σ H ρ d r e => ?_
  simp only [eCall] at e
  obtain ⟨ds, e1, e⟩ := Option.bind_eq_some_iff.mp e
  exact ⟨ρ, ds, r, e1, fun vs H' m q => ⟨ds, d, q, e, fun v H2 m2 p2 => ⟨m.trans m2, p2⟩⟩⟩
theorem CbD.of {f : Value} {r : List V → Hp → VK → Prop} {g : List D → Option D} (h : CallR X f r) (hr : ∀ H xs ds d, Reps X.K H xs ds → g ds = some d → r xs H fun v H' => Same H H' ∧ Rep X.K H' v d) : CbD X f g :=
  fun pins s σ H xs us ds d I rv p e => fin (h pins s σ H xs us _ I rv (hr H xs ds d p e))
theorem cb_len : CbD X (.builtin "len") lenD := CbD.of (call_len_seq.or call_len_str) fun H xs ds d p e => by
  cases p with
  | nil => exact nomatch e
  | cons p1 p2 =>
    cases p2 with
    | cons _ _ => cases p1 <;> exact nomatch e
    | nil =>
      cases p1 <;> simp only [lenD] at e <;> first | contradiction | skip
      · split at e
        · rename_i hz; cases e; exact .inr ⟨_, rfl, le_line hz, Same.refl _, .int _⟩
        · exact nomatch e
      · rename_i h r; cases e; exact .inl ⟨_, _, rfl, .inl h, Same.refl _, by rw [r.length]; exact .int _⟩
      · rename_i h r; cases e; exact .inl ⟨_, _, rfl, .inr h, Same.refl _, by rw [r.length]; exact .int _⟩
theorem cb_abs : CbD X (.builtin "abs") absD := CbD.of call_abs fun H xs ds d p e => by
  cases p with
  | nil => exact nomatch e
  | cons p1 p2 =>
    cases p2 with
    | cons _ _ => cases p1 <;> exact nomatch e
    | nil =>
      cases p1 <;> simp only [absD] at e <;> first | contradiction | skip
      cases e; exact ⟨_, rfl, Same.refl _, .int _⟩
theorem cb_int : CbD X (.type "int") intD := CbD.of call_int1 fun H xs ds d p e => by
  cases p with
  | nil => exact nomatch e
  | cons p1 p2 =>
    cases p2 with
    | cons _ _ => cases p1 <;> exact nomatch e
    | nil =>
      cases p1 <;> simp only [intD] at e <;> first | contradiction | skip
      · cases e; exact .inr ⟨_, rfl, Same.refl _, .int _⟩
      · cases e; exact .inl ⟨_, rfl, Same.refl _, .int _⟩
theorem cb_str : CbD X (.type "str") strD := CbD.of call_str_int fun H xs ds d p e => by
  cases p with
  | nil => exact nomatch e
  | cons p1 p2 =>
    cases p2 with
    | cons _ _ => cases p1 <;> exact nomatch e
    | nil =>
      cases p1 <;> simp only [strD] at e <;> first | contradiction | skip
      rename_i i
      split at e
      · rename_i hz
        cases e
        refine ⟨_, rfl, ?_, Same.refl _, .str _⟩
        by_cases h0 : i.natAbs = 0
        · rw [h0]; decide
        · exact Nat.lt_trans ((Nat.log2_lt h0).mpr hz) (by decide)
      · exact nomatch e
theorem cb_list : CbD X (.type "list") listD := CbD.of call_list_of fun H xs ds d p e => by
  cases p with
  | nil => exact nomatch e
  | cons p1 p2 =>
    cases p2 with
    | cons _ _ => cases p1 <;> exact nomatch e
    | nil =>
      cases p1 <;> simp only [listD] at e <;> first | contradiction | skip
      · rename_i h r; cases e; exact ⟨_, _, rfl, .inl h, fun l hl => ⟨same_new hl _, rep_new_lst hl r⟩⟩
      · rename_i h r; cases e; exact ⟨_, _, rfl, .inr h, fun l hl => ⟨same_new hl _, rep_new_lst hl r⟩⟩
theorem cb_isi {T : String} {t : Ty} (hT : ∀ (d : D) (tv : String), plainD d = true → (tv = match d with | .none => "NoneType" | .bool _ => "bool" | .int _ => "int" | .str _ => "str" | .list _ => "list" | .tuple _ => "tuple" | .dict _ => "dict") → PySem.W.kitOne X.K (.type tv) (.type T) = some (isiB t d))
    (pins : List (Addr × Obj)) (s : Shared) (σ : St) (H : Hp) (x : V) (u : Value) (dx d : D) (I : Inv X pins σ H s) (rx : RelV x u) (p : Rep X.K H x dx) (e : isiD t dx = some d) :
    wpAny (model X.prog X.w) X.A (call (.builtin "isinstance") [u, .type T]) (FP X pins σ H d) X.xe s := by
  simp only [isiD] at e
  split at e
  · rename_i hp
    cases e
    have done : ∀ tv, TyOf X.K H x (.type tv) → PySem.W.kitOne X.K (.type tv) (.type T) = some (isiB t dx) → wpAny (model X.prog X.w) X.A (call (.builtin "isinstance") [u, .type T]) (FP X pins σ H (.bool (isiB t dx))) X.xe s := fun tv ty hk =>
      isinst_ok I rx ty hk fun tk => ⟨.bl _, H, I.tok tk, rfl, Same.refl _, .bl _⟩
    cases p with
    | non => exact done _ .non (hT _ _ hp rfl)
    | bl b => exact done _ (.bl b) (hT _ _ hp rfl)
    | int i => exact done _ (.int i) (hT _ _ hp rfl)
    | str z => exact done _ (.str z) (hT _ _ hp rfl)
    | lst h r =>
      cases rx
      obtain ⟨its, _, ⟨o, n, e1, c1, _⟩, _⟩ := I.list h
      exact PySem.W.kia_one PySem.W.kitx_list I.kIn ⟨o, e1, c1⟩ (hT _ _ hp rfl) (fun z => nomatch z) fun tk => ⟨.bl _, H, I.tok tk, rfl, Same.refl _, .bl _⟩
    | tup h r =>
      cases rx
      obtain ⟨its, _, ⟨o, e1, c1, _⟩, _⟩ := I.tuple h
      exact PySem.W.kia_one PySem.W.kitx_tuple I.kIn ⟨o, e1, c1⟩ (hT _ _ hp rfl) (fun z => nomatch z) fun tk => ⟨.bl _, H, I.tok tk, rfl, Same.refl _, .bl _⟩
  · exact nomatch e
end
end FD
end
section
set_option Elab.async false
set_option linter.all false
set_option maxRecDepth 100000
set_option maxHeartbeats 4000000
namespace FD
open PySem PyProof.Rows PySem.Builtin PySem.Builtin.Str
theorem fm_range {α : Type} (l : List α) (a : Nat) : ∀ k : Nat, (List.range k).filterMap (fun m => l[a + m]?) = (l.drop a).take k
  | 0 => by simp
  | k + 1 => by
    rw [List.range_succ, List.filterMap_append, fm_range l a k, List.take_add_one, List.getElem?_drop]
    cases h : l[a + k]? <;> simp [h]
theorem slice_cut (x : Str) (lo hi : Option Int) : Txt.slice x lo hi = ⟨(cut x.cps.toList lo hi).toArray⟩ := by
  have key : ∀ (a b : Nat), strSliceIndices lo hi 1 x.length = (List.range (b - a)).map (fun k => a + k) → a = clip x.length 0 lo → b = clip x.length x.length hi → (⟨((strSliceIndices lo hi 1 x.length).filterMap (x.cps[·]?)).toArray⟩ : Str) = ⟨(cut x.cps.toList lo hi).toArray⟩ := fun a b h ha hb => by
    rw [h, List.filterMap_map]
    have e : ((fun y => x.cps[y]?) ∘ fun k => a + k) = fun m => x.cps.toList[a + m]? := by funext m; simp
    rw [e, fm_range]
    have hl : x.cps.toList.length = x.length := by simp [Str.length]
    simp only [cut, hl, ← ha, ← hb]
  have hidx : strSliceIndices lo hi 1 x.length = (List.range (clip x.length x.length hi - clip x.length 0 lo)).map (fun k => clip x.length 0 lo + k) := by
    have e1 : ∀ (o : Option Int) (d : Nat), d ≤ x.length → (match o with | none => (d : Int) | some i => max 0 (min (if i < 0 then i + (x.length : Int) else i) (x.length : Int))) = ((clip x.length d o : Nat) : Int) := fun o d hd => by
      cases o with
      | none => rfl
      | some i =>
        simp only [clip]
        split <;> omega
    have h0 := e1 lo 0 (Nat.zero_le _)
    have hn := e1 hi x.length (Nat.le_refl _)
    have hs : strSliceIndices lo hi 1 x.length = sliceRange (clip x.length 0 lo : Nat) (clip x.length x.length hi : Nat) 1 := by
      rw [← h0, ← hn]
      cases lo <;> cases hi <;> simp [strSliceIndices]
    rw [hs, sliceRange_one]
  have hk := key _ _ hidx rfl rfl
  unfold Txt.slice
  split
  · rename_i hc
    rw [← hk]
    have hlen : (strSliceIndices lo hi 1 x.length).length = x.length := by simpa using hc
    rw [hidx, List.length_map, List.length_range] at hlen
    have hc0 : clip x.length x.length hi ≤ x.length := by
      cases hi with
      | none => exact Nat.le_refl _
      | some i => simp only [clip]; split <;> omega
    have hc1 : clip x.length 0 lo ≤ x.length := by
      cases lo with
      | none => exact Nat.zero_le _
      | some i => simp only [clip]; split <;> omega
    have ha : clip x.length 0 lo = 0 := by omega
    have hb : clip x.length x.length hi = x.length := by omega
    rw [hk]
    have hl : x.cps.toList.length = x.length := by simp [Str.length]
    simp only [cut, hl, ha, hb, List.drop_zero, Nat.sub_zero]
    rw [← hl, List.take_length]
  · exact hk
theorem find_lr (x : Str) (c : Nat) (hx : x.cps = #[108, 114]) : Txt.find x ⟨#[c]⟩ = findLR c := by
  cases x with
  | mk xs =>
    simp only at hx
    subst hx
    have e0 : (#[108, 114] : Array Nat).extract 0 (0 + 1) = #[108] := by decide
    have e1 : (#[108, 114] : Array Nat).extract 1 (1 + 1) = #[114] := by decide
    have h0 : subAt ⟨#[108, 114]⟩ ⟨#[c]⟩ 0 = decide (c = 108) := by
      show ((#[108, 114] : Array Nat).extract 0 (0 + 1) == #[c]) = _
      rw [e0, Bool.eq_iff_iff, beq_iff_eq, decide_eq_true_eq]
      exact ⟨fun h => by injection h with h; injection h with h _; exact h.symm, fun h => by rw [h]⟩
    have h1 : subAt ⟨#[108, 114]⟩ ⟨#[c]⟩ 1 = decide (c = 114) := by
      show ((#[108, 114] : Array Nat).extract 1 (1 + 1) == #[c]) = _
      rw [e1, Bool.eq_iff_iff, beq_iff_eq, decide_eq_true_eq]
      exact ⟨fun h => by injection h with h; injection h with h _; exact h.symm, fun h => by rw [h]⟩
    unfold Txt.find occurrences
    by_cases c0 : c = 108
    · subst c0; decide +kernel
    · by_cases c1 : c = 114
      · subst c1; decide +kernel
      · simp [Str.length, Std.Legacy.Range.forIn_eq_forIn_range', Std.Legacy.Range.size, List.range', h0, h1, findLR, c0, c1]
section
variable {prog : Program} {w : World} {A : Around} {E : Value → Shared → Prop} {s : Shared} {x y : Str} {t u : Tok} {Q : Value → Shared → Prop}
theorem find2 (hq : Q (.int (Txt.find x y) s.toks) { s with toks := s.toks + 1 }) : wpAny (model prog w) A (call (.builtin "str.find") [.str x t, .str y u]) Q E s :=
  call_gives F.slot_str_find (typeIs_str _ _ _) F.entry_str_find (F.args_str_find_2 _ _) (gives_str_find x y t u) hq
theorem startswith2 (hq : Q (.bool (Txt.startswith x y)) s) : wpAny (model prog w) A (call (.builtin "str.startswith") [.str x t, .str y u]) Q E s :=
  call_gives F.slot_str_startswith (typeIs_str _ _ _) F.entry_str_startswith (F.args_str_startswith_2 _ _) (gives_str_startswith x y t u) hq
theorem str_slice {sl : Addr} {vl vu : Value} {lo hi : Option Int} (hs : s.heap.IsSliceOf sl vl vu .none) (pl : IsPart vl lo) (pu : IsPart vu hi) (hsz : x.length ≤ sizeLine) (hq : ∀ t' k, Q (.str (Txt.slice x lo hi) t') { s with toks := k }) :
    wpAny (model prog w) A (getItem (.str x t) (.ref sl)) Q E s := by
  cases pl with
  | none =>
    cases pu with
    | none => exact wpAny_getItem_str_slice (l := none) (u := none) (st := none) hs rfl (post_val_or_str ⟨Nat.le_trans (Txt.slice_le x _ _) hsz, fun t' k => hq t' k⟩)
    | int j uj => exact wpAny_getItem_str_slice (l := none) (u := some (j, uj)) (st := none) hs rfl (post_val_or_str ⟨Nat.le_trans (Txt.slice_le x _ _) hsz, fun t' k => hq t' k⟩)
  | int i ui =>
    cases pu with
    | none => exact wpAny_getItem_str_slice (l := some (i, ui)) (u := none) (st := none) hs rfl (post_val_or_str ⟨Nat.le_trans (Txt.slice_le x _ _) hsz, fun t' k => hq t' k⟩)
    | int j uj => exact wpAny_getItem_str_slice (l := some (i, ui)) (u := some (j, uj)) (st := none) hs rfl (post_val_or_str ⟨Nat.le_trans (Txt.slice_le x _ _) hsz, fun t' k => hq t' k⟩)
end
end FD
namespace FD
open PySem PyProof.Rows
section
variable {prog : Program} {w : World} {A : Around} {E : Value → Shared → Prop} {s : Shared}
theorem tuple_whole {t sl : Addr} {items : Array Value} {vl vu : Value} {lo hi : Option Int} {Q : Value → Shared → Prop} (ht : IsTup s.heap t items) (hs : s.heap.IsSliceOf sl vl vu .none) (pl : IsPart vl lo) (pu : IsPart vu hi)
    (hw : HT.sIx items.size 0 lo = 0 ∧ HT.sIx items.size items.size hi = items.size) (h : Q (.ref t) s) : wpAny (model prog w) A (getItem (.ref t) (.ref sl)) Q E s := by
  obtain ⟨os, hos, hcs, hds⟩ := id hs
  have hTs : s.TypeIs (.ref sl) "slice" := ⟨os, hos, hcs⟩
  unfold getItem
  try with_reducible refine wpAny_holding ?_
  first | refine wpAny_bind (wpAny_pure ?_) | skip
  refine wpAny_bind (wpAny_sequenceKey ht.typeIs (by decide) ?_)
  refine wpAny_bind (wpAny_callSpecial?_slot (name := Str.ofString "__getitem__") ht.typeIs PyProof.Rows.slot_tuple_getitem
    (wpAny_call_entry PyProof.Rows.slot_tuple_getitem ht.typeIs entry_tuple_getitem ?_ (args_tuple_getitem _ _)))
  show wpAny _ _ (Builtin.Tuple.tupleItemsOf (.ref t) >>= _) _ _ s
  refine wpAny_bind (tupleItemsOf_ ht ?_)
  refine wpAny_bind (wpAny_typeOf hTs ?_)
  rw [if_pos (by decide)]
  refine wpAny_bind (HT.sliceApplied_gen hs pl pu ?_)
  show wpAny _ _ (if (((HT.sIx items.size 0 lo : Nat) : Int) == 0 && (1 : Int) == 1 && (HT.sIx items.size items.size hi - HT.sIx items.size 0 lo) == items.size) = true then _ else _) _ _ s
  rw [if_pos (by rw [hw.1, hw.2]; simp)]
  unfold Builtin.Tuple.tupleIsExact
  refine wpAny_bind (wpAny_bind (wpAny_typeOf ht.typeIs (wpAny_pure ?_)))
  rw [if_pos (by decide)]
  refine wpAny_bind (wpAny_rule ?_)
  exact wpAny_pure ⟨_, rfl, wpAny_pure h⟩
theorem fm_congr {α β : Type} {f g : α → Option β} : ∀ l : List α, (∀ x ∈ l, f x = g x) → l.filterMap f = l.filterMap g
  | [], _ => rfl
  | x :: r, h => by
    rw [List.filterMap_cons, List.filterMap_cons, h x (List.mem_cons_self ..), fm_congr r fun y hy => h y (List.mem_cons_of_mem _ hy)]
theorem rev_pick (l : List Value) : (List.range l.length).filterMap (fun (k : Nat) => l[((l.length : Int) - 1 + (k : Int) * -1).toNat]?) = l.reverse := by
  have h1 : ∀ k ∈ List.range l.length, l[((l.length : Int) - 1 + (k : Int) * -1).toNat]? = some (l.reverse.getD k .none) := fun k hk => by
    have hk' : k < l.length := List.mem_range.mp hk
    have e : ((l.length : Int) - 1 + (k : Int) * -1).toNat = l.length - 1 - k := by omega
    rw [e, List.getD_eq_getElem?_getD, List.getElem?_reverse hk', List.getElem?_eq_getElem (by omega)]
    rfl
  have h2 : (List.range l.length).filterMap (fun (k : Nat) => l[((l.length : Int) - 1 + (k : Int) * -1).toNat]?) = (List.range l.length).map fun k => l.reverse.getD k .none := by
    rw [← List.filterMap_eq_map]
    exact fm_congr _ h1
  rw [h2]
  apply List.ext_getElem?
  intro i
  by_cases hi : i < l.length
  · rw [List.getElem?_map, List.getElem?_range hi, List.getElem?_eq_getElem (by simpa using hi)]
    simp [List.getD_eq_getElem?_getD, hi]
  · rw [List.getElem?_eq_none_iff.mpr (by simp; omega), List.getElem?_eq_none_iff.mpr (by simp; omega)]
theorem tuple_rev {t sl : Addr} {items : Array Value} {tk : Tok} {Q : Value → Shared → Prop} (ht : IsTup s.heap t items) (hs : s.heap.IsSliceOf sl .none .none (.int (-1) tk)) (hsz : items.size ≤ sizeLine)
    (h : Q (.ref s.heap.objs.size) { s with heap := s.heap.push { cls := .type "tuple", data := .seq items.toList.reverse.toArray } }) : wpAny (model prog w) A (getItem (.ref t) (.ref sl)) Q E s := by
  obtain ⟨os, hos, hcs, hds⟩ := id hs
  have hTs : s.TypeIs (.ref sl) "slice" := ⟨os, hos, hcs⟩
  have hpick : ((List.range items.size).filterMap fun (k : Nat) => items[((items.size : Int) - 1 + (k : Int) * -1).toNat]?).toArray = items.toList.reverse.toArray := by
    apply congrArg List.toArray
    have := rev_pick items.toList
    simpa using this
  unfold getItem
  try with_reducible refine wpAny_holding ?_
  first | refine wpAny_bind (wpAny_pure ?_) | skip
  refine wpAny_bind (wpAny_sequenceKey ht.typeIs (by decide) ?_)
  refine wpAny_bind (wpAny_callSpecial?_slot (name := Str.ofString "__getitem__") ht.typeIs PyProof.Rows.slot_tuple_getitem
    (wpAny_call_entry PyProof.Rows.slot_tuple_getitem ht.typeIs entry_tuple_getitem ?_ (args_tuple_getitem _ _)))
  show wpAny _ _ (Builtin.Tuple.tupleItemsOf (.ref t) >>= _) _ _ s
  refine wpAny_bind (tupleItemsOf_ ht ?_)
  refine wpAny_bind (wpAny_typeOf hTs ?_)
  rw [if_pos (by decide)]
  unfold Builtin.Slice.sliceApplied Builtin.Slice.sliceFields
  refine wpAny_bind (wpAny_bind (wpAny_bind (wpAny_field hos hds (x := .none) rfl (wpAny_bind (wpAny_field hos hds (x := .none) rfl (wpAny_bind (wpAny_field hos hds (x := .int (-1) tk) rfl (wpAny_pure ?_))))))))
  refine wpAny_bind (HT.slicePart_ (.int (-1) tk) ?_)
  show wpAny _ _ (if ((-1 : Int) == 0) = true then _ else _) _ _ s
  rw [if_neg (by decide)]
  refine wpAny_bind (HT.slicePart_ .none (wpAny_bind (HT.slicePart_ .none (wpAny_bind (wpAny_pure ?_)))))
  have e : Builtin.Slice.sliceAdjust none none (-1) (items.size : Int) = ((items.size : Int) - 1, -1) := by
    simp [Builtin.Slice.sliceAdjust]
  have e2 : Builtin.Slice.slicePlaces ((items.size : Int) - 1) (-1) (-1) = items.size := by
    simp only [Builtin.Slice.slicePlaces]
    by_cases h0 : items.size = 0
    · rw [h0]; decide
    · simp; omega
  show wpAny _ _ (match Builtin.Slice.sliceAdjust none none (-1) (items.size : Int) with | (lo, hi) => pure (lo, (-1 : Int), Builtin.Slice.slicePlaces lo hi (-1))) _ _ s
  rw [e]
  show wpAny _ _ (pure ((items.size : Int) - 1, (-1 : Int), Builtin.Slice.slicePlaces ((items.size : Int) - 1) (-1) (-1))) _ _ s
  rw [e2]
  refine wpAny_pure ?_
  show wpAny _ _ (if (((items.size : Int) - 1 == 0) && ((-1 : Int) == 1) && items.size == items.size) = true then _ else _) _ _ s
  rw [if_neg (by simp), hpick]
  have htake : sizeOk (.seq items.toList.reverse.toArray) := by
    show items.toList.reverse.toArray.size ≤ sizeLine
    simpa using hsz
  first
    | exact wpAny_bind (m := Builtin.Tuple.tupleExact _) (wpAny_newObj_type (wpAny_pure ⟨_, rfl, wpAny_pure h⟩) htake)
    | exact wpAny_bind (m := Builtin.Tuple.tupleExact _) (wpAny_newObj_type (wpAny_bind (wpAny_pure (wpAny_pure ⟨_, rfl, wpAny_pure h⟩))) htake)
    | exact wpAny_bind (wpAny_bind (m := Builtin.Tuple.tupleExact _) (wpAny_newObj_type (wpAny_pure (wpAny_pure ⟨_, rfl, wpAny_pure h⟩)) htake))
    | exact wpAny_bind (wpAny_bind (m := Builtin.Tuple.tupleExact _) (wpAny_newObj_type (wpAny_pure ⟨_, rfl, wpAny_pure h⟩) htake))
end
end FD
namespace FD
open PySem PySem.Spec PyProof.Rows L2
theorem at_eq {α : Type} (xs : List α) (i : Int) : at? xs i = atI xs i := by
  unfold at? atI ixN
  by_cases h : 0 ≤ i
  · rw [if_pos h, if_pos h]
    by_cases h2 : i < xs.length
    · rw [if_pos h2]; rfl
    · rw [if_neg h2]
      exact List.getElem?_eq_none_iff.mpr (by omega)
  · rw [if_neg h, if_neg h]
    by_cases h2 : -(xs.length : Int) ≤ i
    · rw [if_pos h2, if_pos h2]; rfl
    · rw [if_neg h2, if_neg h2] <;> rfl
theorem Reps.at {K : PySem.W.Frag} {H : Hp} {vs : List V} {ds : List D} {i : Int} {d : D} (r : Reps K H vs ds) (e : at? ds i = some d) : ∃ v, atI vs i = some v ∧ Rep K H v d := by
  rw [← at_eq]
  have hl := r.length
  unfold at? at e ⊢
  by_cases h : 0 ≤ i
  · rw [if_pos h] at e ⊢
    exact r.get e
  · rw [if_neg h] at e ⊢
    by_cases h2 : -(ds.length : Int) ≤ i
    · rw [if_pos h2] at e
      rw [if_pos (by rw [hl]; exact h2), hl]
      exact r.get e
    · rw [if_neg h2] at e; cases e
theorem clip_eq (n d : Nat) (o : Option Int) : clip n d o = HT.sIx n d o := by
  cases o with
  | none => rfl
  | some v =>
    simp only [clip, HT.sIx]
theorem Reps.cut {K : PySem.W.Frag} {H : Hp} {vs : List V} {ds : List D} (r : Reps K H vs ds) (lo hi : Option Int) : Reps K H (cutV vs lo hi) (FD.cut ds lo hi) := by
  unfold cutV FD.cut
  rw [clip_eq, clip_eq, ← r.length]
  exact (r.drop _).take _


section
variable {X : Cx} {a b : Expr} {fa fb : FE} {pos : Pos}
theorem fe_ix (ha : FEx X a fa) (hb : FEx X b fb) (hs : PlainIx b) : FEx X (.Subscript a b pos) (eBin ixD fa fb) := by
  refine ⟨fun pins s σ H ρ d I r e => ?_⟩
  refine Subscript_ (fbin ha hb I r e fun u v s2 x y H2 dx dy I2 rx ry m px py e' => ?_)
  refine thn (ix_seq a b pins s2 σ H2 x y u v (fun z H' => Same H2 H' ∧ Rep X.K H' z d) I2 rx ry ?_ (hs _ _)) fun _ _ ⟨z, H', I', rz, m', pz⟩ => ⟨z, H', I', rz, m.trans m', pz⟩
  cases px <;> cases py <;> simp only [ixD] at e' <;> first | contradiction | skip
  · split at e'
    · rename_i hz
      obtain ⟨c, hc, e'⟩ := Option.map_eq_some_iff.mp e'
      subst e'
      exact .inr (.inr ⟨_, _, c, rfl, rfl, le_line hz, by rw [← at_eq]; exact hc, Same.refl _, .str _⟩)
    · exact nomatch e'
  · rename_i h q i
    obtain ⟨z, hz, pz⟩ := q.at e'
    exact .inl ⟨_, _, _, z, rfl, rfl, h, hz, Same.refl _, pz⟩
  · rename_i h q i
    obtain ⟨z, hz, pz⟩ := q.at e'
    exact .inr (.inl ⟨_, _, _, z, rfl, rfl, h, hz, Same.refl _, pz⟩)
def FOxR (X : Cx) (e : Option Expr) (f : FO) : Prop :=
  ∀ (pins : List (Addr × Obj)) (s : Shared) (σ : St) (H : Hp) (ρ : En) (o : Option Int), Inv X pins σ H s → RepS X.K H σ ρ → f ρ = some o →
    wpAny (model X.prog X.w) X.A (evalPart e X.env) (fun u s' => ∃ H', Inv X pins σ H' s' ∧ IsPart u o ∧ Same H H') X.xe s
structure FOx (X : Cx) (e : Option Expr) (f : FO) : Prop where
  go : FOxR X e f
instance {X : Cx} {e : Option Expr} {f : FO} : CoeFun (FOx X e f) (fun _ => FOxR X e f) := ⟨fun h => h.go⟩
theorem fo_none : FOx X none oNone := by
  refine ⟨fun pins s σ H ρ o I r e => ?_⟩
  simp only [oNone, Option.some.injEq] at e
  subst e
  rw [evalPart_none]
  exact wpAny_pure ⟨H, I, .none, Same.refl _⟩
theorem fo_some (h : FEx X a fa) : FOx X (some a) (oSome fa) := by
  refine ⟨fun pins s σ H ρ o I r e => ?_⟩
  simp only [oSome] at e
  obtain ⟨i, ei, e⟩ := Option.map_eq_some_iff.mp e
  obtain ⟨d, ed, ei⟩ := Option.bind_eq_some_iff.mp ei
  subst e
  rw [evalPart_some]
  refine thn (h pins s σ H ρ d I r ed) fun u s1 ⟨x, H1, I1, r1, m1, p1⟩ => ?_
  cases p1 <;> simp only [intOf] at ei <;> first | contradiction | skip
  cases ei
  obtain ⟨t, rfl⟩ := r1
  exact ⟨H1, I1, .int _ t, m1⟩
theorem fe_slice {lo hi : Option Expr} {fl fh : FO} {p2 : Pos} (he : FEx X a fa) (hl : FOx X lo fl) (hu : FOx X hi fh) : FEx X (.Subscript a (.Slice lo hi none p2) pos) (eSlice fa fl fh) := by
  refine ⟨fun pins s σ H ρ d I r e => ?_⟩
  simp only [eSlice] at e
  obtain ⟨dx, ea, e⟩ := Option.bind_eq_some_iff.mp e
  obtain ⟨l, el, e⟩ := Option.bind_eq_some_iff.mp e
  obtain ⟨h, eh, e⟩ := Option.bind_eq_some_iff.mp e
  refine Subscript_ (thn (he pins s σ H ρ dx I r ea) fun v s1 ⟨x, H1, I1, r1, m1, p1⟩ => ?_)
  refine wpAny_Slice (thn (hl pins s1 σ H1 ρ l I1 (r.mono m1) el) fun vl s2 ⟨H2, I2, pl, m2⟩ => thn (hu pins s2 σ H2 ρ h I2 (r.mono (m1.trans m2)) eh) fun vu s3 ⟨H3, I3, pu, m3⟩ => ?_)
  rw [evalPart_none]
  refine wpAny_pure ?_
  have I4 : Inv X pins σ H3 { s3 with heap := s3.heap.push { cls := .type "slice", data := .fields #[vl, vu, .none] } } := I3.kept (t' := s3.toks) fun b ob q => Heap.get?_push_of_some _ q
  have hsl := Heap.IsSliceOf.new s3.heap vl vu .none
  have m13 : Same H H3 := m1.trans (m2.trans m3)
  have p3 : Rep X.K H3 x dx := p1.mono (m2.trans m3)
  show wpAny (model X.prog X.w) X.A (subscriptTail a (.Slice lo hi none p2) v (.ref s3.heap.objs.size)) (FP X pins σ H d) X.xe { s3 with heap := s3.heap.push { cls := .type "slice", data := .fields #[vl, vu, .none] } }
  have up : ∀ {q : Sem Value}, wpAny (model X.prog X.w) X.A q (FP X pins σ H3 d) X.xe { s3 with heap := s3.heap.push { cls := .type "slice", data := .fields #[vl, vu, .none] } } → wpAny (model X.prog X.w) X.A q (FP X pins σ H d) X.xe { s3 with heap := s3.heap.push { cls := .type "slice", data := .fields #[vl, vu, .none] } } := fun h => thn h fun _ _ z => z.up m13
  cases p3 with
  | str z =>
    simp only [sliceD] at e
    split at e
    · rename_i hz
      cases e
      obtain ⟨t, rfl⟩ := r1
      refine up (tail_any (ops := [.ref s3.heap.objs.size, .str z t]) (typeIs_str _ z t) slot_str_getitem.lookup (str_slice hsl pl pu (le_line hz) fun t' k => ⟨.str _, H3, I4.tok k, ⟨t', rfl⟩, Same.refl _, ?_⟩) (by with_unfolding_all rfl))
      rw [slice_cut]
      exact .str _
    · exact nomatch e
  | @lst a1 xs1 ds1 h1 q1 =>
    simp only [sliceD, Option.some.injEq] at e
    subst e
    cases r1
    refine up (tail_any (ops := [.ref s3.heap.objs.size, .ref a1]) ?_ slot_list_getitem.lookup ?_ (by with_unfolding_all rfl))
    · obtain ⟨its, r, ht, hz⟩ := I4.list h1
      exact ht.isList.typeIs
    · obtain ⟨_, _, _, _, hg⟩ := sl_list pins _ σ H3 (.ref a1) (.ref a1) vl vu l h _ (fun v H' => Same H3 H' ∧ Rep X.K H' v (.list (FD.cut ds1 l h))) I4 (show RelV (.ref a1) (.ref a1) from rfl) hsl pl pu ⟨_, _, rfl, h1, fun p hp => ⟨same_new hp _, rep_new_lst hp (q1.cut l h)⟩⟩
      exact fin hg
  | @tup a1 xs1 ds1 h1 q1 =>
    simp only [sliceD, Option.some.injEq] at e
    subst e
    cases r1
    obtain ⟨its, rv, ht, hz⟩ := I4.tuple h1
    have hlen : its.toArray.size = xs1.length := by rw [List.size_toArray]; exact rv.length.symm
    refine up (tail_any (ops := [.ref s3.heap.objs.size, .ref a1]) ht.typeIs PyProof.Rows.slot_tuple_getitem.lookup ?_ (by with_unfolding_all rfl))
    by_cases hw : HT.sIx xs1.length 0 l = 0 ∧ HT.sIx xs1.length xs1.length h = xs1.length
    · refine tuple_whole ht hsl pl pu (by rw [hlen]; exact hw) ⟨.ref a1, H3, I4, rfl, Same.refl _, ?_⟩
      have hd : FD.cut ds1 l h = ds1 := by
        unfold FD.cut
        rw [clip_eq, clip_eq, ← q1.length, hw.1, hw.2, List.drop_zero, Nat.sub_zero, q1.length, List.take_length]
      rw [hd]
      exact .tup h1 q1
    · obtain ⟨_, _, _, _, hg⟩ := sl_tup pins _ σ H3 (.ref a1) (.ref a1) vl vu l h _ (fun v H' => Same H3 H' ∧ Rep X.K H' v (.tuple (FD.cut ds1 l h))) I4 (show RelV (.ref a1) (.ref a1) from rfl) hsl pl pu ⟨_, _, rfl, h1, hw, fun p hp => ⟨same_new hp _, rep_new_tup hp (q1.cut l h)⟩⟩
      exact fin hg
  | non => simp only [sliceD] at e; contradiction
  | bl _ => simp only [sliceD] at e; contradiction
  | int _ => simp only [sliceD] at e; contradiction
theorem fe_rev {p2 p3 p4 : Pos} {j : Nat} (he : FEx X a fa) : FEx X (.Subscript a (.Slice none none (some (.UnaryOp .USub (.Constant (.int 1) j p4) p3)) p2) pos) (eUn revD fa) := by
  refine ⟨fun pins s σ H ρ d I r e => ?_⟩
  simp only [eUn] at e
  obtain ⟨dx, ea, e⟩ := Option.bind_eq_some_iff.mp e
  refine Subscript_ (thn (he pins s σ H ρ dx I r ea) fun v s1 ⟨x, H1, I1, r1, m1, p1⟩ => ?_)
  refine wpAny_Slice ?_
  rw [evalPart_none, evalPart_some]
  refine wpAny_pure (wpAny_pure ?_)
  have hneg : FEx X (.UnaryOp .USub (.Constant (.int 1) j p4) p3) (eUn negD (eC (.int 1))) := fe_un un_negD fe_int
  refine thn (hneg pins s1 σ H1 ρ (.int (-1)) I1 (r.mono m1) rfl) fun vs s2 ⟨y, H2, I2, r2, m2, p2⟩ => ?_
  cases p2
  obtain ⟨tk, rfl⟩ := r2
  have I4 : Inv X pins σ H2 { s2 with heap := s2.heap.push { cls := .type "slice", data := .fields #[.none, .none, .int (-1) tk] } } := I2.kept (t' := s2.toks) fun b ob q => Heap.get?_push_of_some _ q
  have hsl := Heap.IsSliceOf.new s2.heap .none .none (.int (-1) tk)
  have p3' : Rep X.K H2 x dx := p1.mono m2
  cases p3' with
  | @tup a1 xs1 ds1 h1 q1 =>
    simp only [revD, Option.some.injEq] at e
    subst e
    cases r1
    obtain ⟨its, rv, ht, hz⟩ := I4.tuple h1
    have hlen := rv.length
    refine tail_any (ops := [.ref a1, .ref s2.heap.objs.size]) ht.typeIs PyProof.Rows.slot_tuple_getitem.lookup (tuple_rev ht hsl (by rw [List.size_toArray, ← hlen]; exact hz) ?_) (by with_unfolding_all rfl)
    have := laid_tup (X := X) I4 (rv.reverse) (q1.reverse) (by rw [List.length_reverse]; exact hz)
    exact this.up (m1.trans m2)
  | non => simp only [revD] at e; contradiction
  | bl _ => simp only [revD] at e; contradiction
  | int _ => simp only [revD] at e; contradiction
  | str _ => simp only [revD] at e; contradiction
  | lst _ _ => simp only [revD] at e; contradiction
theorem bm1 {name : Str} {id : String} {g : D → D → Option D} {apos cpos : Pos} (pa : PlainAttrs "str") (slot : Slot "str" name id) (hty : typeOf (.builtin id) = pure (.type "method_descriptor"))
    (hg : ∀ (pins : List (Addr × Obj)) (s : Shared) (σ : St) (H : Hp) (x y : Str) (t u : Tok) (d : D), Inv X pins σ H s → g (.str x) (.str y) = some d → wpAny (model X.prog X.w) X.A (call (.builtin id) [.str x t, .str y u]) (FP X pins σ H d) X.xe s)
    (hstr : ∀ dx dy d, g dx dy = some d → ∃ x y, dx = .str x ∧ dy = .str y)
    (ha : FEx X a fa) (hb : FEx X b fb) (hbase : attributeBase a name X.env (eval a X.env) = eval a X.env)
    (hfew : ((backTo cpos (starEach [b] X.env)).all (fun x => !x.1) && (backToKw cpos (keywordEach [] X.env)).all (fun x => x.1.isSome)
      && decide (([b] : List Expr).length + ([] : List Keyword).length + (if ([] : List Keyword).isEmpty then 0 else 1) < 30)) = true)
    (hline : (apos.endLine == cpos.line) = true) (hs : starEach [b] X.env = (false, eval b X.env) :: starEach [] X.env) (hplain : (backTo cpos (starEach [] X.env)).any (·.1) = false) :
    FEx X (.Call (.Attribute a name apos) [b] [] cpos) (eBin g fa fb) := by
  have hm : MtR X id (fun x xs H Q => ∃ p q d, x = .str p ∧ xs = [.str q] ∧ g (.str p) (.str q) = some d ∧ ∀ v H', Same H H' → Rep X.K H' v d → Q v H') := by
    intro pins s σ H x xs v us Q I rx rs ⟨p, q, d, e1, e2, e3, k⟩
    subst e1 e2
    obtain ⟨t, rfl⟩ := rx
    obtain ⟨u, rfl, t', rfl⟩ := vals1 rs
    exact thn (hg pins s σ H p q t t' d I e3) fun _ _ ⟨z, H', I', rz, m, pz⟩ => ⟨z, H', I', rz, k z H' m pz⟩
  refine FEx.of (pe_bm pa slot hty hm ha.pe (pa_cons hb.pe pa_nil hs) hbase hfew hline hs hplain) fun σ H ρ d r e => ?_
  simp only [eBin] at e
  obtain ⟨dx, ea, e⟩ := Option.bind_eq_some_iff.mp e
  obtain ⟨dy, eb, e⟩ := Option.bind_eq_some_iff.mp e
  obtain ⟨p, q, rfl, rfl⟩ := hstr dx dy d e
  refine ⟨ρ, _, r, ea, fun v H1 m1 p1 => ?_⟩
  cases p1
  refine ⟨rfl, ρ, _, r.mono m1, eb, fun v2 H2 m2 p2 => ?_⟩
  cases p2
  exact ⟨p, q, d, rfl, rfl, e, fun v H' m pv => ⟨m1.trans (m2.trans m), pv⟩⟩
theorem fe_find {apos cpos : Pos} (ha : FEx X a fa) (hb : FEx X b fb) (hbase : attributeBase a "find" X.env (eval a X.env) = eval a X.env := by rfl)
    (hfew : ((backTo cpos (starEach [b] X.env)).all (fun x => !x.1) && (backToKw cpos (keywordEach [] X.env)).all (fun x => x.1.isSome)
      && decide (([b] : List Expr).length + ([] : List Keyword).length + (if ([] : List Keyword).isEmpty then 0 else 1) < 30)) = true := by rfl)
    (hline : (apos.endLine == cpos.line) = true := by rfl) (hs : starEach [b] X.env = (false, eval b X.env) :: starEach [] X.env := by rfl) (hplain : (backTo cpos (starEach [] X.env)).any (·.1) = false := by rfl) :
    FEx X (.Call (.Attribute a "find" apos) [b] [] cpos) (eBin findD fa fb) := by
  refine bm1 PySem.F.plainAttrs_str PySem.F.slot_str_find PySem.F.type_str_find (fun pins s σ H x y t u d I e => ?_) (fun dx dy d e => ?_) ha hb hbase hfew hline hs hplain
  · simp only [findD] at e
    split at e
    · rename_i hx
      split at e
      · rename_i c hc
        cases e
        have ey : y = ⟨#[c]⟩ := by cases y; simp only at hc; simp [← Array.toList_inj, hc]
        subst ey
        exact find2 ⟨.int _, H, I.tok _, ⟨_, rfl⟩, Same.refl _, by rw [find_lr x c hx]; exact .int _⟩
      · exact nomatch e
    · exact nomatch e
  · cases dx <;> cases dy <;> simp only [findD] at e <;> first | contradiction | exact ⟨_, _, rfl, rfl⟩
theorem fe_startswith {apos cpos : Pos} (ha : FEx X a fa) (hb : FEx X b fb) (hbase : attributeBase a "startswith" X.env (eval a X.env) = eval a X.env := by rfl)
    (hfew : ((backTo cpos (starEach [b] X.env)).all (fun x => !x.1) && (backToKw cpos (keywordEach [] X.env)).all (fun x => x.1.isSome)
      && decide (([b] : List Expr).length + ([] : List Keyword).length + (if ([] : List Keyword).isEmpty then 0 else 1) < 30)) = true := by rfl)
    (hline : (apos.endLine == cpos.line) = true := by rfl) (hs : starEach [b] X.env = (false, eval b X.env) :: starEach [] X.env := by rfl) (hplain : (backTo cpos (starEach [] X.env)).any (·.1) = false := by rfl) :
    FEx X (.Call (.Attribute a "startswith" apos) [b] [] cpos) (eBin swD fa fb) := by
  refine bm1 PySem.F.plainAttrs_str PySem.F.slot_str_startswith PySem.F.type_str_startswith (fun pins s σ H x y t u d I e => ?_) (fun dx dy d e => ?_) ha hb hbase hfew hline hs hplain
  · simp only [swD, Option.some.injEq] at e
    subst e
    exact startswith2 ⟨.bl _, H, I, rfl, Same.refl _, .bl _⟩
  · cases dx <;> cases dy <;> simp only [swD] at e <;> first | contradiction | exact ⟨_, _, rfl, rfl⟩
theorem fe_isi {x y : Str} {T : String} {t : Ty} {p p' : Pos} (hT : ∀ (d : D) (tv : String), plainD d = true → (tv = match d with | .none => "NoneType" | .bool _ => "bool" | .int _ => "int" | .str _ => "str" | .list _ => "list" | .tuple _ => "tuple" | .dict _ => "dict") → PySem.W.kitOne X.K (.type tv) (.type T) = some (isiB t d))
    (hv : bootBuiltins x = some (.builtin "isinstance")) (hv' : bootBuiltins y = some (.type T)) (hg : Gl X x) (hm : X.mg x = none) (hg' : Gl X y) (hm' : X.mg y = none) (ha : FEx X a fa) (hn : x ≠ "__name__") (hdb : (x == ("__debug__" : Str)) = false) (hn' : y ≠ "__name__") (hdb' : (y == ("__debug__" : Str)) = false)
    (he : starEach [a, .Name y p'] X.env = (false, eval a X.env) :: starEach [.Name y p'] X.env) (he' : starEach [.Name y p'] X.env = (false, eval (.Name y p') X.env) :: starEach [] X.env) (hpl : (backTo pos (starEach [.Name y p'] X.env)).any (·.1) = false) :
    FEx X (.Call (.Name x p) [a, .Name y p'] [] pos) (eUn (isiD t) fa) := by
  have hc : CallR X (.builtin "isinstance") (fun xs H Q => ∃ v dx d, xs = [v, .ty T] ∧ Rep X.K H v dx ∧ isiD t dx = some d ∧ ∀ v H', Same H H' → Rep X.K H' v d → Q v H') := by
    intro pins s σ H xs us Q I r ⟨v, dx, d, e1, pv, e2, k⟩
    subst e1
    obtain ⟨u, w', rfl, rv, rw'⟩ := vals2 r
    cases rw'
    exact thn (cb_isi hT pins s σ H v u dx d I rv pv e2) fun _ _ ⟨z, H', I', rz, m, pz⟩ => ⟨z, H', I', rz, k z H' m pz⟩
  have hy : PE X (.Name y p') (tC (.ty T)) := pe_bltn hg' hm' hv' rfl hn' hdb'
  refine FEx.of (pe_callB hc hg hm hv (pa_cons ha.pe (pa_cons hy pa_nil he') he) hn hdb he hpl) fun σ H ρ d r e => ?_
  simp only [eUn] at e
  obtain ⟨dx, ea, e⟩ := Option.bind_eq_some_iff.mp e
  exact ⟨ρ, dx, r, ea, fun v H1 m1 p1 => ⟨v, dx, d, rfl, p1, e, fun z H' m pz => ⟨m1.trans m, pz⟩⟩⟩
end
end FD
end
section
set_option Elab.async false
set_option linter.all false
set_option maxRecDepth 100000
set_option maxHeartbeats 4000000
namespace FD
open PySem PySem.Spec PyProof.Rows L2

/-- what is wanted behind a statement that comes to o -/
def endsOf (K : PySem.W.Frag) (H : Hp) (o : Out) : Ends where
  nx := fun σ' H' => ∃ ρ', o = .nx ρ' ∧ Same H H' ∧ RepS K H' σ' ρ'
  rt := fun v H' => ∃ d, o = .rt d ∧ Same H H' ∧ Rep K H' v d
  bk := fun σ' H' => ∃ ρ', o = .bk ρ' ∧ Same H H' ∧ RepS K H' σ' ρ'
  ct := fun σ' H' => ∃ ρ', o = .ct ρ' ∧ Same H H' ∧ RepS K H' σ' ρ'
def FSxR (X : Cx) (st : Stmt) (g : FS) : Prop :=
  ∀ (pins : List (Addr × Obj)) (s : Shared) (σ : St) (H : Hp) (ρ : En) (o : Out), Inv X pins σ H s → RepS X.K H σ ρ → g ρ = some o → wpAny (model X.prog X.w) X.A (exec st X.env) (SP X pins (endsOf X.K H o)) X.xe s
structure FSx (X : Cx) (st : Stmt) (g : FS) : Prop where
  go : FSxR X st g
instance {X : Cx} {st : Stmt} {g : FS} : CoeFun (FSx X st g) (fun _ => FSxR X st g) := ⟨fun h => h.go⟩
def FSsR (X : Cx) (sts : List Stmt) (g : FS) : Prop :=
  ∀ (pins : List (Addr × Obj)) (s : Shared) (σ : St) (H : Hp) (ρ : En) (o : Out), Inv X pins σ H s → RepS X.K H σ ρ → g ρ = some o → wpAny (model X.prog X.w) X.A (execs sts X.env) (SP X pins (endsOf X.K H o)) X.xe s
structure FSs (X : Cx) (sts : List Stmt) (g : FS) : Prop where
  go : FSsR X sts g
instance {X : Cx} {sts : List Stmt} {g : FS} : CoeFun (FSs X sts g) (fun _ => FSsR X sts g) := ⟨fun h => h.go⟩
structure Ent (E D : Ends) : Prop where
  nx : ∀ σ H, E.nx σ H → D.nx σ H
  rt : ∀ v H, E.rt v H → D.rt v H
  bk : ∀ σ H, E.bk σ H → D.bk σ H
  ct : ∀ σ H, E.ct σ H → D.ct σ H
theorem spImp {X : Cx} {pins : List (Addr × Obj)} {E D : Ends} {f : Flow} {s' : Shared} (h : SP X pins E f s') (e : Ent E D) : SP X pins D f s' := by
  cases f with
  | next => obtain ⟨σ', H', I, q⟩ := h; exact ⟨σ', H', I, e.nx _ _ q⟩
  | brk => obtain ⟨σ', H', I, q⟩ := h; exact ⟨σ', H', I, e.bk _ _ q⟩
  | cont => obtain ⟨σ', H', I, q⟩ := h; exact ⟨σ', H', I, e.ct _ _ q⟩
  | ret u => obtain ⟨v, σ', H', I, r, q⟩ := h; exact ⟨v, σ', H', I, r, e.rt _ _ q⟩
theorem ends_up {K : PySem.W.Frag} {H H1 : Hp} {o : Out} (m : Same H H1) : Ent (endsOf K H1 o) (endsOf K H o) where
  nx := fun _ _ ⟨ρ', e, m', r⟩ => ⟨ρ', e, m.trans m', r⟩
  rt := fun _ _ ⟨d, e, m', r⟩ => ⟨d, e, m.trans m', r⟩
  bk := fun _ _ ⟨ρ', e, m', r⟩ => ⟨ρ', e, m.trans m', r⟩
  ct := fun _ _ ⟨ρ', e, m', r⟩ => ⟨ρ', e, m.trans m', r⟩
def tFS (K : PySem.W.Frag) (g : FS) : TS := fun D σ H => ∃ (ρ : En) (o : Out), RepS K H σ ρ ∧ g ρ = some o ∧ Ent (endsOf K H o) D
theorem FSs.ps {X : Cx} {sts : List Stmt} {g : FS} (h : FSs X sts g) : PSs X sts (tFS X.K g) := fun pins s σ H D I ⟨ρ, o, r, e, k⟩ => thn (h pins s σ H ρ o I r e) fun f s' q => spImp q k
theorem FSx.of {X : Cx} {st : Stmt} {g : FS} {t : TS} (h : PS X st t) (hq : ∀ σ H ρ o, RepS X.K H σ ρ → g ρ = some o → t (endsOf X.K H o) σ H) : FSx X st g :=
  ⟨fun pins s σ H ρ o I r e => h pins s σ H _ I (hq σ H ρ o r e)⟩

section
variable {X : Cx} {pos : Pos}
theorem fs_nil : FSs X [] sNil := by
  refine ⟨fun pins s σ H ρ o I r e => ?_⟩
  simp only [sNil, Option.some.injEq] at e
  subst e
  exact wpAny_execs_nil ⟨σ, H, I, ρ, rfl, Same.refl _, r⟩
theorem fs_one {st : Stmt} {g : FS} (h : FSx X st g) : FSs X [st] g := by
  refine ⟨fun pins s σ H ρ o I r e => ?_⟩
  refine wpAny_execs_cons (thn (h pins s σ H ρ o I r e) fun f s1 q => ?_)
  cases f with
  | next => exact wpAny_execs_nil q
  | ret v => exact q
  | brk => exact q
  | cont => exact q
theorem fs_cons {st : Stmt} {rest : List Stmt} {g1 g2 : FS} (h1 : FSx X st g1) (h2 : FSs X rest g2) : FSs X (st :: rest) (sSeq g1 g2) := by
  refine ⟨fun pins s σ H ρ o I r e => ?_⟩
  simp only [sSeq] at e
  obtain ⟨o1, e1, e⟩ := Option.bind_eq_some_iff.mp e
  refine wpAny_execs_cons (thn (h1 pins s σ H ρ o1 I r e1) fun f s1 q => ?_)
  cases f with
  | next =>
    obtain ⟨σ', H', I', ρ', eo, m, r'⟩ := q
    subst eo
    exact thn (h2 pins s1 σ' H' ρ' o I' r' e) fun _ _ z => spImp z (ends_up m)
  | ret u =>
    obtain ⟨v, σ', H', I', rv, d, eo, m, p⟩ := q
    subst eo
    simp only [Option.some.injEq] at e
    subst e
    exact ⟨v, σ', H', I', rv, d, rfl, m, p⟩
  | brk =>
    obtain ⟨σ', H', I', ρ', eo, m, r'⟩ := q
    subst eo
    simp only [Option.some.injEq] at e
    subst e
    exact ⟨σ', H', I', ρ', rfl, m, r'⟩
  | cont =>
    obtain ⟨σ', H', I', ρ', eo, m, r'⟩ := q
    subst eo
    simp only [Option.some.injEq] at e
    subst e
    exact ⟨σ', H', I', ρ', rfl, m, r'⟩
theorem fs_ret {e : Expr} {f : FE} (h : FEx X e f) : FSx X (.Return (some e) pos) (sRet f) := by
  refine ⟨fun pins s σ H ρ o I r ef => ?_⟩
  simp only [sRet] at ef
  obtain ⟨d, ed, ef⟩ := Option.bind_eq_some_iff.mp ef
  cases ef
  exact wpAny_Return_some (thn (h pins s σ H ρ d I r ed) fun u s1 ⟨v, H1, I1, rv, m, p⟩ => ⟨v, σ, H1, I1, rv, d, rfl, m, p⟩)
theorem fs_if {c : Expr} {a b : List Stmt} {t : FT} {ga gb : FS} (hc : FTx X c t) (ha : FSs X a ga) (hb : FSs X b gb) : FSx X (.If c a b pos) (sIf t ga gb) := by
  refine ⟨fun pins s σ H ρ o I r e => ?_⟩
  simp only [sIf] at e
  obtain ⟨c1, e1, e⟩ := Option.bind_eq_some_iff.mp e
  refine wpAny_If (thn (hc pins s σ H ρ c1 I r e1) fun c' s1 ⟨ec, H1, I1, m1⟩ => ?_)
  subst ec
  cases c' with
  | true => exact thn (ha pins s1 σ H1 ρ o I1 (r.mono m1) (by simpa using e)) fun _ _ z => spImp z (ends_up m1)
  | false => exact thn (hb pins s1 σ H1 ρ o I1 (r.mono m1) (by simpa using e)) fun _ _ z => spImp z (ends_up m1)
theorem fs_set {i : Nat} {x : Str} {e : Expr} {f : FE} {pos' : Pos} (hN : X.N.Nodup) (hi : X.N[i]? = some x) (hx : Loc X.env.scope x) (he : FEx X e f) (hs : swapsWith e (some (.Name x pos')) pos.line X.env = pure false := by rfl)
    (hf : X.fn x = true ∨ X.env.scope.names.lookup x = some .local := by first | exact .inl rfl | exact .inr rfl | assumption) : FSx X (.Assign [.Name x pos'] e pos) (sSet i f) := by
  refine FSx.of (ps_set hN hi hx he.pe hs hf) fun σ H ρ o r eo => ?_
  simp only [sSet] at eo
  obtain ⟨d, ed, eo⟩ := Option.bind_eq_some_iff.mp eo
  cases eo
  exact ⟨ρ, d, r, ed, fun v H' m p => ⟨_, rfl, m, (r.mono m).set p i⟩⟩
def gNames : List Nat → TGs
  | [] => gNil
  | i :: is => gCons (gName i) (gNames is)
theorem fg_nil : PGs X [] (gNames []) := pgs_nil
theorem fg_cons {i : Nat} {x : Str} {es : List Expr} {is : List Nat} {pos : Pos} (hN : X.N.Nodup) (hi : X.N[i]? = some x) (hx : Loc X.env.scope x) (h2 : PGs X es (gNames is))
    (hf : X.fn x = true ∨ X.env.scope.names.lookup x = some .local := by first | exact .inl rfl | exact .inr rfl | assumption)
    (hs : (assignEach (.Name x pos :: es) X.env).map (·.2) = assign (.Name x pos) X.env :: (assignEach es X.env).map (·.2) := by rfl) : PGs X (.Name x pos :: es) (gNames (i :: is)) := pgs_cons (pg_name hN hi hx hf) h2 hs
theorem gNames_read {K : PySem.W.Frag} {H : Hp} : ∀ (is : List Nat) {vs : List V} {ds : List D} {σ : St} {ρ : En} {Q : St → Hp → Prop}, Reps K H vs ds → ds.length = is.length → RepS K H σ ρ → (∀ σ', RepS K H σ' (setAll is ds ρ) → Q σ' H) → gNames is vs σ H Q
  | [], _, _, σ, ρ, Q, .nil, _, r, k => ⟨rfl, k σ r⟩
  | [], _, _, _, _, _, .cons _ _, h, _, _ => by simp at h
  | i :: is, _, _, _, _, _, .nil, h, _, _ => by simp at h
  | i :: is, v :: vs, d :: ds, σ, ρ, Q, .cons p q, h, r, k => ⟨v, vs, rfl, gNames_read is q (by simpa using h) (r.set p i) k⟩
theorem fs_unp {es : List Expr} {is : List Nat} {e : Expr} {f : FE} {k : Nat} {p2 : Pos} (hc : X.calm = true) (he : FEx X e f) (hg : PGs X es (gNames is)) (hn : (assignEach es X.env).length = is.length := by rfl)
    (hst : (assignEach es X.env).findIdx? (·.1) = none := by rfl) (hs : swapsWithSole [.Tuple es k p2] e pos.line X.env = pure false := by rfl) (hw : swappedStores [.Tuple es k p2] e X.env = pure none := by rfl)
    (h1 : (assignEach [.Tuple es k p2] X.env).map (·.2) = [assign (.Tuple es k p2) X.env] := by rfl) : FSx X (.Assign [.Tuple es k p2] e pos) (sUnp is f) := by
  refine FSx.of (ps_asg he.pe (pg_tup hc hg hn hst) hs hw h1) fun σ H ρ o r eo => ?_
  simp only [sUnp] at eo
  obtain ⟨xs, exs, eo⟩ := Option.bind_eq_some_iff.mp eo
  obtain ⟨d, ed, exs⟩ := Option.bind_eq_some_iff.mp exs
  split at eo
  · rename_i hl
    cases eo
    refine ⟨ρ, d, r, ed, fun v H' m p => ?_⟩
    cases p <;> simp only [tupOf] at exs <;> first | contradiction | skip
    rename_i h q
    cases exs
    exact ⟨_, _, rfl, h, by rw [q.length]; exact hl, gNames_read is q hl (r.mono m) fun σ' r' => ⟨_, rfl, m, r'⟩⟩
  · exact nomatch eo

def PI.or' {tg iter : Expr} {w1 w2 : TI} (h1 : PI X tg iter w1) (h2 : PI X tg iter w2) : PI X tg iter (fun σ H R => w1 σ H R ∨ w2 σ H R) := fun pins s σ H R I h => h.elim (h1 pins s σ H R I) (h2 pins s σ H R I)
/-- one turn, as the loop's rule asks it -/
theorem for_turn {K : PySem.W.Frag} {i : Nat} {gb : FS} {H0 H1 H' : Hp} {σ' : St} {ρ' : En} {o : Out} {x : V} {d : D} {rest : List D} {Pn : St → Hp → Prop} (hx : Rep K H' x d) (r : RepS K H' σ' ρ') (m0 : Same H0 H1) (m : Same H1 H') (e : forGo i gb (d :: rest) ρ' = some o)
    (hP : ∀ ρ3 σ3 H3, Same H1 H3 → RepS K H3 σ3 ρ3 → forGo i gb rest ρ3 = some o → Pn σ3 H3) :
    tFS K gb { endsOf K H0 o with nx := Pn, ct := Pn, bk := (endsOf K H0 o).nx } (σ'.set i (some x)) H' := by
  simp only [forGo] at e
  obtain ⟨o2, e2, e⟩ := Option.bind_eq_some_iff.mp e
  refine ⟨ρ'.set i (some d), o2, r.set hx i, e2, ?_, ?_, ?_, ?_⟩
  · rintro σ3 H3 ⟨ρ3, eo, m3, r3⟩
    subst eo
    exact hP ρ3 σ3 H3 (m.trans m3) r3 e
  · rintro v H3 ⟨d3, eo, m3, p3⟩
    subst eo
    simp only [Option.some.injEq] at e
    exact ⟨d3, e.symm, m0.trans (m.trans m3), p3⟩
  · rintro σ3 H3 ⟨ρ3, eo, m3, r3⟩
    subst eo
    simp only [Option.some.injEq] at e
    exact ⟨ρ3, e.symm, m0.trans (m.trans m3), r3⟩
  · rintro σ3 H3 ⟨ρ3, eo, m3, r3⟩
    subst eo
    exact hP ρ3 σ3 H3 (m.trans m3) r3 e
theorem drop_at {α : Type} {xs : List α} {k : Nat} {x : α} (h : xs[k]? = some x) : xs.drop k = x :: xs.drop (k + 1) := by
  obtain ⟨h1, h2⟩ := List.getElem?_eq_some_iff.mp h
  rw [← h2]
  exact List.drop_eq_getElem_cons h1
def Itc (z : Str) : It := ⟨fun i _ => i < z.length, fun i H x H' => H' = H ∧ ∃ c, z.cps.toList[i]? = some c ∧ x = .str ⟨#[c]⟩, fun i _ => z.length ≤ i⟩
theorem turn_str {P : Program} {w : World} {K : PySem.W.Frag} {tg : Expr} (z : Str) (t : Tok) (it : Addr) : Turn P w K tg (Itc z) [it] it (fun i h => h.IsStrIter it "str_ascii_iterator" z t i ∨ h.IsStrIter it "str_iterator" z t i) where
  mem := by simp
  obj := fun i h st b hb => by
    have e : b = it := by simpa using hb
    subst e
    rcases st with ⟨o, e, c, d⟩ | ⟨o, e, c, d⟩
    · exact ⟨o, e, fun v z => by rw [d] at z; cases z⟩
    · exact ⟨o, e, fun v z => by rw [d] at z; cases z⟩
  keep := fun i h h' st k => by
    rcases st with ⟨o, e, c⟩ | ⟨o, e, c⟩
    · exact .inl ⟨o, k it (by simp) o e, c⟩
    · exact .inr ⟨o, k it (by simp) o e, c⟩
  item := by
    intro X hP hw hK hc i pins s σ H E I hf st hg
    subst hP hw hK
    obtain ⟨f0, f1, f2, f3, f4, f5⟩ := hf it (by simp)
    have hg' : i < z.cps.size := hg
    have hcx : z.cps[i]? = some z.cps[i] := by simp [hg']
    have hcl : z.cps.toList[i]? = some z.cps[i] := by simp [hg']
    rcases st with st | st
    · refine wpAny_pyNext_ascii_item st hcx fun h' st' sb => ?_
      have I1 : Inv X pins σ H { s with heap := h', toks := s.toks + 1 } := I.turned (fun b o hb e => (sb.2 b hb).trans e) f0 f1 f3 f4 f5
      obtain ⟨o, e, c, d⟩ := id st'
      exact ⟨_, rfl, go_of (s := { s with heap := h', toks := s.toks + 1 }) e c d (by decide) ⟨.str ⟨#[z.cps[i]]⟩, H, I1, ⟨_, rfl⟩, ⟨rfl, _, hcl, rfl⟩, .inl st', fun b hb => (hf b hb).1⟩⟩
    · refine wpAny_pyNext_wide_item st hcx fun h' st' sb => ?_
      have I1 : Inv X pins σ H { s with heap := h', toks := s.toks + 1 } := I.turned (fun b o hb e => (sb.2 b hb).trans e) f0 f1 f3 f4 f5
      obtain ⟨o, e, c, d⟩ := id st'
      exact ⟨_, rfl, go_of (s := { s with heap := h', toks := s.toks + 1 }) e c d (by decide) ⟨.str ⟨#[z.cps[i]]⟩, H, I1, ⟨_, rfl⟩, ⟨rfl, _, hcl, rfl⟩, .inr st', fun b hb => (hf b hb).1⟩⟩
  done := by
    intro X hP hw hK hc i pins s σ H E I hf st hg
    subst hP hw hK
    obtain ⟨f0, f1, f2, f3, f4, f5⟩ := hf it (by simp)
    have hg' : z.cps.size ≤ i := hg
    have hcx : z.cps[i]? = none := by simp [hg']
    rcases st with st | st
    · exact wpAny_pyNext_ascii_end (I.ok.hd hc) st hcx fun h' eb => ⟨rfl, I.turned (t' := s.toks) (fun b o hb e => eb b o hb e) f0 f1 f3 f4 f5⟩
    · exact wpAny_pyNext_wide_end (I.ok.hd hc) st hcx fun h' eb => ⟨rfl, I.turned (t' := s.toks) (fun b o hb e => eb b o hb e) f0 f1 f3 f4 f5⟩
  self := fun A i s Q E st h => by
    rcases st with st | st
    · exact wpAny_pyIter_striter_ascii st h
    · exact wpAny_pyIter_striter_wide st h
def iStr (tl : TE) : TI := fun σ H R => tl σ H fun x H1 => ∃ z, x = .str z ∧ R (Itc z) H1
theorem pi_str {tg l : Expr} {tl : TE} (hl : PE X l tl) : PI X tg l (iStr tl) := by
  intro pins s σ H R I h
  refine thn (hl pins s σ H _ I h) fun v s1 ⟨x, H1, I1, r1, q1⟩ => ?_
  obtain ⟨z, e, q⟩ := q1
  subst e
  obtain ⟨t, rfl⟩ := r1
  by_cases ha : z.cps.all (· < 128) = true
  · refine wpAny_pyIter_ascii ha ⟨s1.heap.objs.size, [s1.heap.objs.size], _, _, H1, rfl, I1.kept (t' := s1.toks) fun b o e => Heap.get?_push_of_some _ e, turn_str z t _, .inl ⟨_, Heap.get?_push_size _ rfl, rfl, rfl⟩, fun b hb => ?_, q⟩
    have e : b = s1.heap.objs.size := by simpa using hb
    subst e
    exact I1.fpOk (Nat.le_refl _) (I1.hok.fresh (Nat.le_refl _))
  · refine wpAny_pyIter_wide (by simpa using ha) ⟨s1.heap.objs.size, [s1.heap.objs.size], _, _, H1, rfl, I1.kept (t' := s1.toks) fun b o e => Heap.get?_push_of_some _ e, turn_str z t _, .inr ⟨_, Heap.get?_push_size _ rfl, rfl, rfl⟩, fun b hb => ?_, q⟩
    have e : b = s1.heap.objs.size := by simpa using hb
    subst e
    exact I1.fpOk (Nat.le_refl _) (I1.hok.fresh (Nat.le_refl _))
theorem fs_forStr {i : Nat} {x : Str} {iter : Expr} {f : FE} {body : List Stmt} {gb : FS} {p2 : Pos} (hN : X.N.Nodup) (hi : X.N[i]? = some x) (hx : Loc X.env.scope x) (he : FEx X iter f) (hb : FSs X body gb)
    (hp : PassesOwn (model X.prog X.w) X.A X.env X.xe := by exact PassesOwn.never) (hc : X.calm = true := by rfl)
    (hf : X.fn x = true ∨ X.env.scope.names.lookup x = some .local := by first | exact .inl rfl | exact .inr rfl | assumption)
    (hs : ∀ x, foldedSetIterable iter X.env x = pure x := by intro _; rfl) : FSx X (.For (.Name x p2) iter body [] pos) (sForStr i f gb) := by
  refine FSx.of (ps_for hp hc (pi_str he.pe) (pg_name hN hi hx hf) hb.ps hs) fun σ H ρ o r eo => ?_
  simp only [sForStr] at eo
  obtain ⟨z, exs, eo⟩ := Option.bind_eq_some_iff.mp eo
  obtain ⟨d, ed, exs⟩ := Option.bind_eq_some_iff.mp exs
  cases d <;> simp only [strOf] at exs <;> first | contradiction | skip
  cases exs
  refine ⟨ρ, _, r, ed, fun v H1 m1 p1 => ?_⟩
  cases p1
  refine ⟨z, rfl, ?_⟩
  have hlen : (chars z).length = z.length := by simp [chars, Str.length]
  refine ⟨fun k n σ' H' => n = z.length - k ∧ k ≤ z.length ∧ ∃ ρ', RepS X.K H' σ' ρ' ∧ Same H1 H' ∧ forGo i gb ((chars z).drop k) ρ' = some o, ⟨z.length, rfl, Nat.zero_le _, ρ, r.mono m1, Same.refl _, by rw [List.drop_zero]; exact eo⟩, ?_⟩
  rintro k n σ' H' ⟨rfl, hk, ρ', r', m', e'⟩
  by_cases hlt : k < z.length
  · refine .inr ⟨hlt, fun σ3 H3 => ∃ ρ3, RepS X.K H3 σ3 ρ3 ∧ Same H1 H3 ∧ forGo i gb ((chars z).drop (k + 1)) ρ3 = some o, fun σ3 H3 ⟨ρ3, a, b, c⟩ => ⟨z.length - (k + 1), by omega, rfl, hlt, ρ3, a, b, c⟩, ?_⟩
    rintro y H2 ⟨rfl, c, hc1, rfl⟩
    have hd : (chars z)[k]? = some (chr1 c) := by simp only [chars, List.getElem?_map, hc1, Option.map_some]
    rw [drop_at hd] at e'
    exact for_turn (Rep.str _) r' m1 m' e' fun ρ3 σ3 H3 m3 r3 e3 => ⟨ρ3, r3, m3, e3⟩
  · refine .inl ⟨Nat.le_of_not_lt hlt, ?_⟩
    have : (chars z).drop k = [] := List.drop_eq_nil_of_le (by rw [hlen]; exact Nat.le_of_not_lt hlt)
    rw [this] at e'
    simp only [forGo, Option.some.injEq] at e'
    exact ⟨ρ', e'.symm, m1.trans m', r'⟩
end

theorem repS_start {K : PySem.W.Frag} {H : Hp} {vs : List V} {ds : List D} (N : List Str) (r : Reps K H vs ds) : RepS K H (L2.start N vs) (FD.start N.length ds) := by
  have hl := r.length
  refine ⟨by simp [L2.start, FD.start, hl], fun i d h => ?_⟩
  simp only [L2.start, FD.start] at h ⊢
  by_cases hi : i < ds.length
  · rw [List.getElem?_append_left (by simpa using hi)] at h
    rw [List.getElem?_append_left (by simpa [hl] using hi)]
    rw [List.getElem?_map] at h ⊢
    cases hd : ds[i]? with
    | none => rw [hd] at h; cases h
    | some d' =>
      rw [hd] at h
      simp only [Option.map_some, Option.some.injEq] at h
      subst h
      obtain ⟨v, hv, p⟩ := r.get hd
      exact ⟨v, by rw [hv]; rfl, p⟩
  · rw [List.getElem?_append_right (by simpa using hi)] at h
    rw [List.getElem?_replicate] at h
    split at h <;> cases h
theorem okF {P : Program} {w : World} {K : PySem.W.Frag} {mg : Str → Option Value} {base : Heap} {x qual : Str} {st : Stmt} {f : Addr} {fd : FuncData} {N ps : List Str} {k : Nat} {g : FS} (F : Fun K x qual st f fd) (S : FnScope N ps (defScope st))
    (hbody : ∀ (cdv : Value) (A : Around) (outer : List Env) (s : Shared) (H : Hp) (E : XK), Room k (A.deeper (envOfC qual (defScope st) s.heap.objs.size f cdv)) →
      FSs (cxOf CX0 P w K mg base N qual (defScope st) f cdv A outer s H E).nox (defBody st) g) : FnOk P w K mg base CX0 (k + 1) f fd ps (spF K (bodyF N.length ps.length g)) := by
  have hlen : ∀ {ds : List D} {d : D}, bodyF N.length ps.length g ds = some d → ds.length = ps.length := fun {ds d} e => by
    simp only [bodyF] at e
    split at e
    · assumption
    · exact nomatch e
  refine F.ok S (fun vs H Q E h => ?_) fun cdv A outer s H vs Q E hr h => ?_
  · obtain ⟨ds, d, r, e, _⟩ := h
    rw [r.length]
    exact hlen e
  obtain ⟨ds, d, r, e, q⟩ := h
  refine ⟨tFS K g, (hbody cdv A outer s H E hr).ps, ?_⟩
  have hv := hlen e
  simp only [bodyF] at e
  rw [if_pos hv] at e
  obtain ⟨o, eo, e⟩ := Option.bind_eq_some_iff.mp e
  refine ⟨_, o, repS_start N r, eo, ?_, ?_, ?_, ?_⟩
  · rintro σ' H' ⟨ρ', rfl, m, _⟩
    simp only [retOf, Option.some.injEq] at e
    subst e
    exact q .non H' m .non
  · rintro v H' ⟨d', rfl, m, p⟩
    simp only [retOf, Option.some.injEq] at e
    subst e
    exact q v H' m p
  · rintro σ' H' ⟨ρ', rfl, _, _⟩
    simp [retOf] at e
  · rintro σ' H' ⟨ρ', rfl, _, _⟩
    simp [retOf] at e
end FD
end
section
set_option Elab.async false
set_option linter.all false
set_option maxRecDepth 100000
set_option maxHeartbeats 4000000
namespace FD
open PySem PySem.Spec PyProof.Rows L2

def clOf (fr : List Str) (env : Env) : List (Str × Addr) := fr.reverse.map fun n => (n, (env.cells.lookup n).getD 0)
theorem lookup_mapped (f : Str → Addr) (n : Str) : ∀ l : List Str, (l.map fun y => (y, f y)).lookup n = if n ∈ l then some (f n) else none
  | [] => by simp
  | y :: r => by
    rw [List.map_cons, List.lookup_cons]
    by_cases h : n = y
    · subst h; simp
    · have hb : (n == y) = false := by simpa using h
      rw [hb, lookup_mapped f n r]
      simp [h]
def compCx (X : Cx) (N : List Str) (scope : Scope) (cl : List (Str × Addr)) (C : Addr) (s₀ : Shared) (H₀ : Hp) (ex : List Addr) : Cx where
  prog := X.prog
  w := X.w
  K := X.K
  mg := X.mg
  base := X.base
  A := X.A
  N := N
  s₀ := s₀
  H₀ := H₀
  env := compEnvC scope cl C X.env
  outer := X.stack
  stack := X.stack
  ex := ex
  fn := fun _ => false
  calm := X.calm
  pn := []
  xe := fun _ _ => False
/-- the block's table, seen from around it -/
structure CompSc (X : Cx) (scope : Scope) (x : Str) (fr : List Str) (caps : List Nat) : Prop where
  kind : scope.kind = .function
  ncell : ∀ y ∈ scope.names, y.2 ≠ .cell
  names : ∀ y ∈ scope.names, y.2 = .local → scope.names.lookup y.1 = some .local
  hx : scope.names.lookup x = some .local
  frk' : (fr.all fun n => X.env.kindOf n == some .cell) = true
  frl' : (fr.all fun n => (relabel scope X.env).names.lookup n == some .cell || (relabel scope X.env).names.lookup n == some .free) = true
  all' : ((relabel scope X.env).names.all fun y => !(y.2 == .cell || y.2 == .free) || fr.contains y.1) = true
  caps : caps.map (X.N[·]?) = fr.map some
  nd : (x :: fr).Nodup
  clos : closureFor scope X.env = pure (clOf fr X.env)
theorem CompSc.frk {X : Cx} {scope : Scope} {x : Str} {fr : List Str} {caps : List Nat} (S : CompSc X scope x fr caps) : ∀ n ∈ fr, X.env.kindOf n = some .cell := fun n hn => by
  have := List.all_eq_true.mp S.frk' n hn
  simpa using this
theorem CompSc.frl {X : Cx} {scope : Scope} {x : Str} {fr : List Str} {caps : List Nat} (S : CompSc X scope x fr caps) : ∀ n ∈ fr, (relabel scope X.env).names.lookup n = some .cell ∨ (relabel scope X.env).names.lookup n = some .free := fun n hn => by
  have := List.all_eq_true.mp S.frl' n hn
  simpa using this
theorem CompSc.all {X : Cx} {scope : Scope} {x : Str} {fr : List Str} {caps : List Nat} (S : CompSc X scope x fr caps) : ∀ y ∈ (relabel scope X.env).names, (y.2 = .cell ∨ y.2 = .free) → y.1 ∈ fr := fun y hy h => by
  have := List.all_eq_true.mp S.all' y hy
  have h' : (y.2 == .cell || y.2 == .free) = true := by rcases h with h | h <;> simp [h]
  rw [h'] at this
  simpa using this
theorem lookup_mem {names : List (Str × NameKind)} {n : Str} {k : NameKind} (h : names.lookup n = some k) : (n, k) ∈ names := by
  induction names with
  | nil => cases h
  | cons y r ih =>
    obtain ⟨a, b⟩ := y
    rw [List.lookup_cons] at h
    by_cases hb : (n == a) = true
    · rw [hb] at h
      simp only [Option.some.injEq] at h
      have : n = a := by simpa using hb
      subst this h
      exact List.mem_cons_self ..
    · have hb' : (n == a) = false := by simpa using hb
      rw [hb'] at h
      exact List.mem_cons_of_mem _ (ih h)

section
variable {prog : Program} {w : World} {A : Around} {R : Result → Shared → Prop} {s : Shared}
/-- the block's loop, one test -/
theorem comp_loop {elt target iter c : Expr} {scope : Scope} {pos : Pos} {it acc : Value} {env : Env} (I : Nat → Shared → Prop)
    (turn : ∀ n s, I n s → wpAny (model prog w) A (pyNext it) (fun r s₁ => match r with
      | none => R (.ok .next) s₁
      | some v => wpAny (model prog w) A (letOwnedTupleGo target it v) (fun _ s₂ => wpAny (model prog w) A (assign target env v) (fun _ s₃ =>
          wpAny (model prog w) A (isTrue c env (eval c env)) (fun ok s₄ =>
            if ok = true then wpAny (model prog w) A (eval elt env) (fun x s₅ =>
              wpAny (model prog w) A (call (.builtin "list.append") [acc, x]) (fun _ s₆ => ∃ m, m < n ∧ I m s₆) (fun _ _ => False) s₅) (fun _ _ => False) s₄
            else ∃ m, m < n ∧ I m s₄) (fun _ _ => False) s₃) (fun _ _ => False) s₂) (fun _ _ => False) s₁) (fun _ _ => False) s)
    (n : Nat) (h : I n s) : codeAny (model prog w) A (.compLoop (.ListComp elt [⟨target, iter, [c], 0⟩] scope pos) 0 it acc env) R s := by
  refine codeAny_loop rfl I (fun n s hI => ?_) n h
  show wpAny _ A ((compTurn (.ListComp elt [⟨target, iter, [c], 0⟩] scope pos) 0 it acc env).onRaise (fun x => do noteFrame x env; theTreesLotGoes x)) _ _ s
  refine wpAny_noted ?_
  rw [compTurn_list]
  have no : ∀ {E : Value → Shared → Prop} (a : Value) (b : Shared), (fun _ _ => False : Value → Shared → Prop) a b → E a b := fun _ _ z => False.elim z
  refine wpAny_bind (wpAny_standAt (wpAny_bind (wpAny_mono (turn n s hI) (fun r s₁ h₁ => ?_) no)))
  cases r with
  | none => exact wpAny_pure h₁
  | some v =>
    refine wpAny_bind (wpAny_mono h₁ (fun _ s₂ h₂ => ?_) no)
    refine wpAny_bind (wpAny_mono h₂ (fun _ s₃ h₃ => wpAny_bind (wpAny_tests_one (wpAny_mono h₃ (fun ok s₄ h₄ => ?_) no))) no)
    cases ok with
    | false => exact wpAny_pure ⟨rfl, h₄⟩
    | true =>
      exact wpAny_bind (wpAny_bind (wpAny_mono h₄ (fun x s₅ h₅ => wpAny_bind (wpAny_mono h₅ (fun _ s₆ h₆ => wpAny_pure (wpAny_pure ⟨rfl, h₆⟩)) no)) no))
end

section
variable {X : Cx} {pos : Pos}
/-- how an iterator goes over data -/
structure Goes (K : PySem.W.Frag) (J : It) (H2 : Hp) (xs : List D) : Prop where
  go : ∀ k Hc, Same H2 Hc → k < xs.length → J.go k Hc
  stop : ∀ k Hc, Same H2 Hc → xs.length ≤ k → J.stop k Hc
  yld : ∀ k Hc v H', Same H2 Hc → k < xs.length → J.yld k Hc v H' → H' = Hc ∧ ∃ d, xs[k]? = some d ∧ Rep K Hc v d
theorem goes_list {K : PySem.W.Frag} {H2 : Hp} {a : Addr} {vs : List V} {xs : List D} (h : SqL K H2 a vs) (q : Reps K H2 vs xs) : Goes K (Itl K a) H2 xs where
  go := fun k Hc m hk => by
    have hk' : k < vs.length := by rw [q.length]; exact hk
    exact ⟨vs, vs[k], m.seq h, by simp [hk']⟩
  stop := fun k Hc m hk => ⟨vs, m.seq h, by rw [q.length]; exact hk⟩
  yld := fun k Hc v H' m hk y => by
    obtain ⟨e, y⟩ := y
    obtain ⟨d, hd⟩ : ∃ d, xs[k]? = some d := ⟨xs[k], by simp [hk]⟩
    obtain ⟨v', hv, p⟩ := q.get hd
    have := y vs (m.seq h)
    rw [hv] at this; cases this
    exact ⟨e, d, hd, p.mono m⟩
theorem goes_tup {K : PySem.W.Frag} {H2 : Hp} {a : Addr} {vs : List V} {xs : List D} (h : SqT K H2 a vs) (q : Reps K H2 vs xs) : Goes K (Itt K a) H2 xs where
  go := fun k Hc m hk => by
    have hk' : k < vs.length := by rw [q.length]; exact hk
    exact ⟨vs, vs[k], sqT_mono m h, by simp [hk']⟩
  stop := fun k Hc m hk => ⟨vs, sqT_mono m h, by rw [q.length]; exact hk⟩
  yld := fun k Hc v H' m hk y => by
    obtain ⟨e, y⟩ := y
    obtain ⟨d, hd⟩ : ∃ d, xs[k]? = some d := ⟨xs[k], by simp [hk]⟩
    obtain ⟨v', hv, p⟩ := q.get hd
    have := y vs (sqT_mono m h)
    rw [hv] at this; cases this
    exact ⟨e, d, hd, p.mono m⟩

def capsV (caps : List Nat) (σ : St) : St := caps.map fun i => (σ[i]?).bind id
def capsD (caps : List Nat) (ρ : En) : En := caps.map fun i => (ρ[i]?).bind id
theorem bind_id {α : Type} {o : Option (Option α)} {a : α} (h : o.bind id = some a) : o = some (some a) := by
  cases o with
  | none => cases h
  | some z => simp only [Option.bind_some, id] at h; rw [h]
theorem repS_caps {K : PySem.W.Frag} {H : Hp} {σ : St} {ρ : En} (r : RepS K H σ ρ) (caps : List Nat) : RepS K H (none :: capsV caps σ) (none :: capsD caps ρ) := by
  refine ⟨by simp [capsV, capsD], fun i d h => ?_⟩
  cases i with
  | zero => simp at h
  | succ i =>
    simp only [List.getElem?_cons_succ, capsV, capsD, List.getElem?_map] at h ⊢
    cases hc : caps[i]? with
    | none => rw [hc] at h; cases h
    | some k =>
      rw [hc] at h
      simp only [Option.map_some, Option.some.injEq] at h
      obtain ⟨v, hv, p⟩ := r.2 k d (bind_id h)
      exact ⟨v, by simp [hv], p⟩

structure CFacts (X : Cx) (pins : List (Addr × Obj)) (H' : Hp) (C : Addr) : Prop where
  free : H' C = none
  ne : C ≠ X.env.locals
  above : X.s₀.heap.objs.size ≤ C
  cells : ∀ x c, X.env.cells.lookup x = some c → c ≠ C
  pins : ∀ p ∈ X.pn ++ pins, p.1 ≠ C

theorem comp_inv {scope : Scope} {x : Str} {fr : List Str} {caps : List Nat} (S : CompSc X scope x fr caps) {pins : List (Addr × Obj)} {σ : St} {H2 : Hp} {s2 : Shared} (I2 : Inv X pins σ H2 s2) {fp : List Addr} (hfp : ∀ b ∈ fp, FpOk X pins H2 b) (hlt : ∀ b ∈ fp, b < s2.heap.objs.size)
    {C : Addr} (hC : s2.heap.objs.size ≤ C) {h1 : Heap} {tk : Nat} (old : ∀ b o, s2.heap.get? b = some o → h1.get? b = some o) {m : Str → Option Value} (hn : h1.Ns C m) :
    Inv (compCx X (x :: fr) scope (clOf fr X.env) C s2 H2 fp) [] (none :: capsV caps σ) H2 { s2 with heap := h1, toks := tk } := by
  have clE : ∀ {n : Str} {c : Addr}, (clOf fr X.env).lookup n = some c → n ∈ fr ∧ X.env.cells.lookup n = some c := fun {n c} h => by
    unfold clOf at h
    rw [lookup_mapped (fun n => (X.env.cells.lookup n).getD 0)] at h
    split at h
    · rename_i hm
      have hm' : n ∈ fr := List.mem_reverse.mp hm
      obtain ⟨c', hc'⟩ := I2.ok.has n (.inl (S.frk n hm'))
      rw [hc'] at h
      simp only [Option.getD_some, Option.some.injEq] at h
      exact ⟨hm', by rw [hc', h]⟩
    · cases h
  have clI : ∀ {n : Str} {c : Addr}, n ∈ fr → X.env.cells.lookup n = some c → (clOf fr X.env).lookup n = some c := fun {n c} hm h => by
    unfold clOf
    rw [lookup_mapped (fun n => (X.env.cells.lookup n).getD 0), if_pos (List.mem_reverse.mpr hm), h]
    rfl
  have fs' : ∀ b ∈ frs X.stack, b = X.env.locals ∨ b ∈ X.fs := fun b hb => List.mem_cons.mp (I2.stkSub b hb)
  have cellLt : ∀ n c, X.env.cells.lookup n = some c → c < s2.heap.objs.size := fun n c h => let ⟨v, q⟩ := I2.cell n c h; q.lt
  have ok : (compCx X (x :: fr) scope (clOf fr X.env) C s2 H2 fp).Ok := {
    mod := I2.ok.mod
    kind := S.kind
    glob := I2.ok.glob
    blt := I2.ok.blt
    above := hC
    inj := fun a b c h1 h2 => I2.ok.inj a b c (clE h1).2 (clE h2).2
    has := fun n h => by
      have hm : n ∈ fr := by
        rcases h with h | h
        · exact S.all _ (lookup_mem h) (.inl rfl)
        · exact S.all _ (lookup_mem h) (.inr rfl)
      obtain ⟨c, hc⟩ := I2.ok.has n (.inl (S.frk n hm))
      exact ⟨c, clI hm hc⟩
    cab := fun _ _ h => nomatch h
    hd := I2.ok.hd
    frames := I2.ok.frames
    stk := .inl rfl
    exf := fun b hb => ⟨Nat.ne_of_lt (Nat.lt_of_lt_of_le (hlt b hb) hC), fun n c h => (hfp b hb).2.2.2.2.1 n c (clE h).2⟩
    bs := I2.bs
    bsz := Nat.le_trans I2.ok.bsz I2.sz
    noex := fun b o e hb => by
      rcases (hfp b hb).2.2.2.1 with h | h
      · exact I2.ok.noex b o e h
      · exact absurd (Nat.lt_of_lt_of_le (Heap.lt_size e) (Nat.le_trans I2.ok.bsz h)) (Nat.lt_irrefl _)
    exfs := fun b hb hf => by
      rcases fs' b hf with h | h
      · exact (hfp b hb).2.1 h
      · exact (hfp b hb).2.2.1 h
    funs := I2.stack
    frf := I2.stkFree }
  have CN : H2 C = none := I2.hok.fresh hC
  refine ⟨ok, rfl, I2.bare, Un.kept old, ⟨m, hn, ?_⟩, ?_, CN, ?_, (fun p hp => nomatch hp), I2.hok.kept old, ?_⟩
  · intro i n v hi hv hvis
    cases i with
    | zero => simp at hv
    | succ i =>
      have hi' : fr[i]? = some n := hi
      simp only [List.getElem?_cons_succ, capsV, List.getElem?_map] at hv
      cases hc : caps[i]? with
      | none => rw [hc] at hv; cases hv
      | some k =>
        rw [hc] at hv
        simp only [Option.map_some, Option.some.injEq] at hv
        have hσ := bind_id hv
        have hm : n ∈ fr := List.mem_of_getElem? hi'
        have hN : X.N[k]? = some n := by
          have e1 : (caps.map (X.N[·]?))[i]? = some (X.N[k]?) := by rw [List.getElem?_map, hc]; rfl
          rw [S.caps, List.getElem?_map, hi'] at e1
          simp only [Option.map_some, Option.some.injEq] at e1
          exact e1.symm
        obtain ⟨m', _, hl⟩ := I2.loc
        obtain ⟨u, ru, lk⟩ := hl k n v hN hσ (.inr (.inl (S.frk n hm)))
        rcases lk with ⟨hk, _⟩ | ⟨_, c, hcell, hic⟩
        · rw [S.frk n hm] at hk; cases hk
        · refine ⟨u, ru, .inr ⟨S.frl n hm, c, clI hm hcell, ?_⟩⟩
          obtain ⟨o, ho, r⟩ := hic
          exact ⟨o, old c o ho, r⟩
  · intro n c h
    obtain ⟨v, o, ho, r⟩ := I2.cell n c (clE h).2
    exact ⟨v, o, old c o ho, r⟩
  · intro n c h
    exact I2.freeC n c (clE h).2
  · have := congrArg List.length S.caps
    simp only [List.length_map] at this
    simp [compCx, capsV, this]

theorem comp_block {scope : Scope} {x : Str} {fr : List Str} {caps : List Nat} (S : CompSc X scope x fr caps) {pins : List (Addr × Obj)} {σ : St} {H2 : Hp} {s2 : Shared} (I2 : Inv X pins σ H2 s2) {ρ : En} (r : RepS X.K H2 σ ρ)
    {elt iter c : Expr} {px : Pos} {it : Addr} {fp : List Addr} {tn : Nat → Heap → Prop} {J : It} (T : Turn X.prog X.w X.K (.Name x px) J fp it tn) (t0 : tn 0 s2.heap) (hfp : ∀ b ∈ fp, FpOk X pins H2 b) (calm : X.calm = true)
    {xs ys : List D} (hz : xs.length ≤ 1000) (G : Goes X.K J H2 xs) {t : FT} {e : FE} (ht : ∀ C s₀ H₀ ex, FTx (compCx X (x :: fr) scope (clOf fr X.env) C s₀ H₀ ex) c t) (he : ∀ C s₀ H₀ ex, FEx (compCx X (x :: fr) scope (clOf fr X.env) C s₀ H₀ ex) elt e)
    (eg : compGo t e (capsD caps ρ) xs = some ys) {RR : Value → Addr → Result → Shared → Prop} {E : Value → Shared → Prop}
    (hRR : ∀ acc C s' H', Inv X pins σ H' s' → Same H2 H' → Rep X.K H' (.ref acc) (.list ys) → CFacts X pins H' C → (∃ m, s'.heap.Ns C m) → RR (.ref acc) C (.ok .next) s') :
    wpAny (model X.prog X.w) X.A (newList []) (fun acc s₃ => wpAny (model X.prog X.w) X.A (newFunctionEnv scope X.env.globals (clOf fr X.env) [] X.env.qual none .none (some X.env)) (fun cenv s₄ =>
      codeAny (model X.prog X.w) X.A (.compStart (.ListComp elt [⟨.Name x px, iter, [c], 0⟩] scope pos) 0 (.ref it) acc { cenv with scope := relabel scope X.env }) (RR acc cenv.locals) s₄) E s₃) E s2 := by
  refine wpAny_newObj_type (wpAny_newFunctionEnv S.ncell (by intro y hy; simp at hy) (fun h₁ hns₁ hsb₁ => ?_) S.kind)
  dsimp only at hns₁ hsb₁ ⊢
  generalize hH2 : s2.heap.push { cls := .type "list", dict := none, data := .seq ([] : List Value).toArray } = Hx at hns₁ hsb₁ ⊢
  have hC : Hx.objs.size = s2.heap.objs.size + 1 := by rw [← hH2, Heap.size_push]
  have hDC : s2.heap.objs.size ≠ Hx.objs.size := by rw [hC]; exact Nat.ne_of_lt (Nat.lt_succ_self _)
  have hCle : s2.heap.objs.size ≤ Hx.objs.size := by rw [hC]; exact Nat.le_succ _
  have below : ∀ b, b < s2.heap.objs.size → b ≠ Hx.objs.size ∧ b ≠ s2.heap.objs.size := fun b hb => ⟨by rw [hC]; exact Nat.ne_of_lt (Nat.lt_succ_of_lt hb), Nat.ne_of_lt hb⟩
  have old : ∀ b o, s2.heap.get? b = some o → h₁.get? b = some o := fun b o e => hsb₁.extBut b o (below b (Heap.lt_size e)).1 (Heap.get?_push_of_some _ (hH2 ▸ Heap.get?_push_of_some _ e))
  have hacc : h₁.PlainList s2.heap.objs.size #[] := ⟨_, hsb₁.extBut _ _ hDC (Heap.get?_push_of_some _ (hH2 ▸ Heap.get?_push_size _ rfl))⟩
  have hlt : ∀ b ∈ fp, b < s2.heap.objs.size := fun b hb => let ⟨o, ho, _⟩ := T.obj 0 _ t0 b hb; Heap.lt_size ho
  have t1 : tn 0 h₁ := T.keep 0 _ _ t0 fun b _ o ho => old b o ho
  generalize hX : compCx X (x :: fr) scope (clOf fr X.env) Hx.objs.size s2 H2 fp = X'
  have hX'K : X'.K = X.K := by rw [← hX]; rfl
  have I0 : Inv X' [] (none :: capsV caps σ) H2 { s2 with heap := h₁, toks := s2.toks + ([] : List (Str × Value)).length } := by rw [← hX]; exact comp_inv S I2 hfp hlt hCle old hns₁
  have fpo : ∀ {Hc : Hp}, Hc s2.heap.objs.size = none → (∀ b ∈ fp, Hc b = none) → ∀ b ∈ s2.heap.objs.size :: fp, FpOk X' [] Hc b := fun {Hc} hD hf b hb => by
    subst hX
    rcases List.mem_cons.mp hb with rfl | hb
    · refine ⟨hD, hDC, ?_, .inr (Nat.le_refl _), fun n c h => ?_, fun p hp => nomatch hp⟩
      · intro z
        rcases List.mem_cons.mp (I2.stkSub _ z) with z | z
        · exact absurd I2.lt (by rw [← z]; exact Nat.lt_irrefl _)
        · exact I2.nofs (Nat.le_refl _) z
      · obtain ⟨v, q⟩ := I0.cell n c h
        intro z
        have h2 : (clOf fr X.env).lookup n = some c := h
        unfold clOf at h2
        rw [lookup_mapped (fun n => (X.env.cells.lookup n).getD 0)] at h2
        split at h2
        · rename_i hm
          obtain ⟨c', hc'⟩ := I2.ok.has n (.inl (S.frk n (List.mem_reverse.mp hm)))
          rw [hc'] at h2
          simp only [Option.getD_some, Option.some.injEq] at h2
          obtain ⟨v', q'⟩ := I2.cell n c' hc'
          have := q'.lt
          rw [h2, z] at this
          exact Nat.lt_irrefl _ this
        · cases h2
    · refine ⟨hf b hb, Nat.ne_of_lt (Nat.lt_of_lt_of_le (hlt b hb) hCle), I0.ok.exfs b hb, .inl hb, (I0.ok.exf b hb).2, fun p hp => nomatch hp⟩
  have loop : ∀ s₃ : Shared, s₃ = { s2 with heap := h₁, toks := s2.toks + ([] : List (Str × Value)).length } →
      codeAny (model X.prog X.w) X.A (.compLoop (.ListComp elt [⟨.Name x px, iter, [c], 0⟩] scope pos) 0 (.ref it) (.ref s2.heap.objs.size) (compEnvC scope (clOf fr X.env) Hx.objs.size X.env))
        (RR (.ref s2.heap.objs.size) Hx.objs.size) s₃ := by
    rintro s₃ rfl
    refine comp_loop (fun n s' => ∃ k σ' Hc y vs us ys1 ys2, n = xs.length - k ∧ k ≤ xs.length ∧ Inv X' [] σ' Hc s' ∧ tn k s'.heap ∧ Same H2 Hc ∧ (∀ b ∈ fp, Hc b = none) ∧ Hc s2.heap.objs.size = none ∧ RepS X.K Hc σ' (y :: capsD caps ρ) ∧
      s'.heap.PlainList s2.heap.objs.size us.toArray ∧ Vals vs us ∧ Reps X.K Hc vs ys1 ∧ compGo t e (capsD caps ρ) (xs.drop k) = some ys2 ∧ ys = ys1 ++ ys2 ∧ us.length ≤ k) ?_ (xs.length)
      ⟨0, _, H2, none, [], [], [], ys, rfl, Nat.zero_le _, I0, t1, Same.refl _, fun b hb => (hfp b hb).1, I2.hok.fresh (Nat.le_refl _), repS_caps r caps, hacc, .nil, .nil, by rw [List.drop_zero]; exact eg, rfl, Nat.le_refl _⟩
    rintro n s' ⟨k, σ', Hc, y, vs, us, ys1, ys2, rfl, hk, I', tk, mc, hf, hD, rc, pl, rv, rq, eg', eys, hul⟩
    have hP : X'.prog = X.prog := by rw [← hX]; rfl
    have hw : X'.w = X.w := by rw [← hX]; rfl
    have hcal : X'.calm = true := by rw [← hX]; exact calm
    have hA : X'.A = X.A := by rw [← hX]; rfl
    have hxe : X'.xe = fun _ _ => False := by rw [← hX]; rfl
    have henv : X'.env = compEnvC scope (clOf fr X.env) Hx.objs.size X.env := by rw [← hX]; rfl
    have ne_fp : ∀ b ∈ fp, s2.heap.objs.size ≠ b := fun b hb z => absurd (hlt b hb) (by rw [← z]; exact Nat.lt_irrefl _)
    obtain ⟨nl, el⟩ := id pl
    have fD : ∀ b ∈ [s2.heap.objs.size], FpOk X' [] Hc b := fun b hb => fpo hD hf b (by have e : b = s2.heap.objs.size := (by simpa using hb); rw [e]; exact List.mem_cons_self ..)
    have oD : ∀ b ∈ [s2.heap.objs.size], ∃ o, s'.heap.get? b = some o ∧ ∀ v, o.data ≠ .cell v := fun b hb => by
      have e : b = s2.heap.objs.size := by simpa using hb
      subst e
      exact ⟨_, el, fun v z => by cases z⟩
    have ID : Inv X' ([] ++ pinsAt [s2.heap.objs.size] s'.heap) σ' Hc s' := I'.pinned fD oD
    have pinD : ∀ {p : List (Addr × Obj)} {σ6 : St} {H6 : Hp} {s6 : Shared}, Inv X' (([] ++ pinsAt [s2.heap.objs.size] s'.heap) ++ p) σ6 H6 s6 → s6.heap.get? s2.heap.objs.size = some { cls := .type "list", data := .seq us.toArray nl } ∧ H6 s2.heap.objs.size = none := fun {p σ6 H6 s6} I6 => by
      have := I6.pin (s2.heap.objs.size, _) (List.mem_append_right _ (List.mem_append_left _ (List.mem_append_right _ (mem_pinsAt (List.mem_cons_self ..) el))))
      exact ⟨this.1, this.2.1⟩
    have fpD : ∀ {H6 : Hp}, H6 s2.heap.objs.size = none → (∀ b ∈ fp, H6 b = none) → ∀ b ∈ fp, FpOk X' ([] ++ pinsAt [s2.heap.objs.size] s'.heap) H6 b := fun {H6} h1 h2 b hb => by
      obtain ⟨a1, a2, a3, a4, a5, _⟩ := fpo h1 h2 b (List.mem_cons_of_mem _ hb)
      refine ⟨a1, a2, a3, a4, a5, fun p hp z => ?_⟩
      have hpn : X'.pn = [] := by rw [← hX]; rfl
      rw [hpn] at hp
      obtain ⟨q1, _⟩ := of_pinsAt (show p ∈ pinsAt [s2.heap.objs.size] s'.heap from hp)
      have e : p.1 = s2.heap.objs.size := by simpa using q1
      exact ne_fp b hb (by rw [← e, z])
    by_cases hlast : k < xs.length
    · have hit := T.item X' hP hw hX'K hcal k _ s' σ' Hc (fun _ _ => False) ID (fpD hD hf) tk (G.go k Hc mc hlast)
      rw [hA] at hit
      refine thn hit fun r s1 ⟨u, hr, h1⟩ => ?_
      subst hr
      refine thn h1 fun _ s3 ⟨v, H3, I3, rv3, y3, tk3, hf3⟩ => ?_
      obtain ⟨eH, d, hd, pd⟩ := G.yld k Hc v H3 mc hlast y3
      obtain rfl : Hc = H3 := eH.symm
      have I3' := I3.pinned (fpD hD hf3) (T.obj _ _ tk3)
      have hN' : X'.N.Nodup := by rw [← hX]; exact S.nd
      have hi' : X'.N[0]? = some x := by rw [← hX]; rfl
      have hlocal : X'.env.scope.names.lookup x = some .local := by rw [henv]; exact lookup_relabel_local S.hx
      have hst := store_ok (M := model X.prog X.w) (A := X.A) (E := fun _ _ => False) (Q := fun _ s4 => wpAny (model X.prog X.w) X.A (isTrue c (compEnvC scope (clOf fr X.env) Hx.objs.size X.env) (eval c (compEnvC scope (clOf fr X.env) Hx.objs.size X.env))) (fun ok s₄ =>
            if ok = true then wpAny (model X.prog X.w) X.A (eval elt (compEnvC scope (clOf fr X.env) Hx.objs.size X.env)) (fun x s₅ =>
              wpAny (model X.prog X.w) X.A (call (.builtin "list.append") [.ref s2.heap.objs.size, x]) (fun _ s₆ => ∃ m, m < xs.length - k ∧ ∃ k σ' Hc y vs us ys1 ys2, m = xs.length - k ∧ k ≤ xs.length ∧ Inv X' [] σ' Hc s₆ ∧ tn k s₆.heap ∧ Same H2 Hc ∧ (∀ b ∈ fp, Hc b = none) ∧ Hc s2.heap.objs.size = none ∧ RepS X.K Hc σ' (y :: capsD caps ρ) ∧
      s₆.heap.PlainList s2.heap.objs.size us.toArray ∧ Vals vs us ∧ Reps X.K Hc vs ys1 ∧ compGo t e (capsD caps ρ) (xs.drop k) = some ys2 ∧ ys = ys1 ++ ys2 ∧ us.length ≤ k) (fun _ _ => False) s₅) (fun _ _ => False) s₄
            else ∃ m, m < xs.length - k ∧ ∃ k σ' Hc y vs us ys1 ys2, m = xs.length - k ∧ k ≤ xs.length ∧ Inv X' [] σ' Hc s₄ ∧ tn k s₄.heap ∧ Same H2 Hc ∧ (∀ b ∈ fp, Hc b = none) ∧ Hc s2.heap.objs.size = none ∧ RepS X.K Hc σ' (y :: capsD caps ρ) ∧
      s₄.heap.PlainList s2.heap.objs.size us.toArray ∧ Vals vs us ∧ Reps X.K Hc vs ys1 ∧ compGo t e (capsD caps ρ) (xs.drop k) = some ys2 ∧ ys = ys1 ++ ys2 ∧ us.length ≤ k) (fun _ _ => False) s4) I3' hN' hi' (.inl hlocal) rv3 (fun s4 I4 => ?_) (.inr hlocal)
      · rw [henv] at hst
        exact wpAny_assign_Name hst
      have r4 : RepS X.K Hc (σ'.set 0 (some v)) (some d :: capsD caps ρ) := rc.set pd 0
      rw [drop_at hd] at eg'
      simp only [compGo] at eg'
      obtain ⟨cb, ecb, eg'⟩ := Option.bind_eq_some_iff.mp eg'
      have hT := ht Hx.objs.size s2 H2 fp
      rw [hX] at hT
      have hT' := hT _ s4 _ Hc _ cb I4 (by rw [hX'K]; exact r4) ecb
      rw [hP, hw, hA, henv, hxe] at hT'
      refine thn hT' fun ok s5 ⟨eok, H5, I5, m5⟩ => ?_
      subst eok
      have keepTn : ∀ {σ6 : St} {H6 : Hp} {s6 : Shared}, Inv X' (([] ++ pinsAt [s2.heap.objs.size] s'.heap) ++ pinsAt fp s3.heap) σ6 H6 s6 → tn (k + 1) s6.heap ∧ ∀ b ∈ fp, H6 b = none := fun {σ6 H6 s6} I6 => by
        have hp : ∀ b ∈ fp, ∀ o, s3.heap.get? b = some o → s6.heap.get? b = some o ∧ H6 b = none := fun b hb o ho => by
          have := I6.pin (b, o) (List.mem_append_right _ (List.mem_append_right _ (mem_pinsAt hb ho)))
          exact ⟨this.1, this.2.1⟩
        refine ⟨T.keep _ _ _ tk3 fun b hb o ho => (hp b hb o ho).1, fun b hb => ?_⟩
        obtain ⟨o, ho, _⟩ := T.obj _ _ tk3 b hb
        exact (hp b hb o ho).2
      cases ok with
      | false =>
        rw [if_neg Bool.false_ne_true]
        obtain ⟨tk5, hf5⟩ := keepTn I5
        obtain ⟨pl5, hD5⟩ := pinD I5
        refine ⟨xs.length - (k + 1), by omega, k + 1, _, H5, some d, vs, us, ys1, ys2, rfl, hlast, I5.pins_of (fun p hp => absurd hp (by simp)), tk5, mc.trans m5, hf5, hD5, r4.mono m5, ⟨nl, pl5⟩, rv, rq.mono m5, by simpa using eg', eys, by omega⟩
      | true =>
        rw [if_pos rfl]
        have eg2 : ((e (some d :: capsD caps ρ)).bind fun y => (compGo t e (capsD caps ρ) (xs.drop (k + 1))).bind fun ys => some (y :: ys)) = some ys2 := by simpa using eg'
        obtain ⟨dy, edy, eg2⟩ := Option.bind_eq_some_iff.mp eg2
        obtain ⟨yr, eyr, eg2⟩ := Option.bind_eq_some_iff.mp eg2
        simp only [Option.some.injEq] at eg2
        have hE := he Hx.objs.size s2 H2 fp
        rw [hX] at hE
        have hE' := hE _ s5 _ H5 _ dy I5 (by rw [hX'K]; exact r4.mono m5) edy
        rw [hP, hw, hA, henv, hxe] at hE'
        refine thn hE' fun u6 s6 ⟨v6, H6, I6, rv6, m6, p6⟩ => ?_
        rw [hX'K] at p6
        obtain ⟨tk6, hf6⟩ := keepTn I6
        obtain ⟨pl6, hD6⟩ := pinD I6
        refine wpAny_list_append_plain (show s6.heap.PlainList s2.heap.objs.size us.toArray from ⟨nl, pl6⟩) (fun h7 pl7 sb7 => ?_) (by rw [List.size_toArray]; exact le_line (by omega))
        have I6' : Inv X' [] (σ'.set 0 (some v)) H6 s6 := I6.pins_of (fun p hp => absurd hp (by simp))
        obtain ⟨_, b2, b3, b4, b5, b6⟩ := fpo hD6 hf6 s2.heap.objs.size (List.mem_cons_self ..)
        have I7 : Inv X' [] (σ'.set 0 (some v)) H6 { s6 with heap := h7 } := I6'.turned (t' := s6.toks) (fun b o hb e => (sb7.2 b hb).trans e) hD6 b2 b4 b5 b6
        refine ⟨xs.length - (k + 1), by omega, k + 1, _, H6, some d, vs ++ [v6], us ++ [u6], ys1 ++ [dy], yr, rfl, hlast, I7, T.keep _ _ _ tk6 fun b hb o ho => (sb7.2 b (fun z => ne_fp b hb z.symm)).trans ho, mc.trans (m5.trans m6), hf6, hD6, r4.mono (m5.trans m6), ?_, rv.append (.cons rv6 .nil), (rq.mono (m5.trans m6)).append (.cons p6 .nil), eyr, by rw [eys, ← eg2, List.append_assoc]; rfl, by simp; omega⟩
        simpa using pl7
    · have hkl : k = xs.length := by omega
      have hdn := T.done X' hP hw hX'K hcal k _ s' σ' Hc (fun _ _ => False) ID (fpD hD hf) tk (G.stop k Hc mc (by omega))
      rw [hA] at hdn
      refine thn hdn fun r s1 ⟨hr, I1⟩ => ?_
      subst hr
      obtain ⟨pl1, hD1⟩ := pinD (p := []) (by rw [List.append_nil]; exact I1)
      rw [hkl, List.drop_length] at eg'
      simp only [compGo, Option.some.injEq] at eg'
      have eyf : ys = ys1 := by rw [eys, ← eg', List.append_nil]
      have IB : Un (frs X.stack) fp H2 Hc s2.heap s1.heap := by have := I1.base; rw [← hX] at this; exact this
      have neD : ∀ b o, H2 b = some o → b ≠ s2.heap.objs.size := fun b o q z => absurd (I2.hok.lt q) (by rw [z]; exact Nat.lt_irrefl _)
      have hlen1 : vs.length ≤ sizeLine := le_line (by rw [rv.length]; omega)
      have hok1 : HOk X.prog X.w (upd Hc s2.heap.objs.size (.lst vs)) s1.heap := fun b o q => by
        by_cases hb : b = s2.heap.objs.size
        · subst hb
          rw [upd_same] at q
          cases q
          exact ⟨hlen1, us, nl, rv, pl1⟩
        · rw [upd_ne hb] at q
          have hq : ObjOk X.prog X.w Hc s1.heap b o := by have := I1.hok b o q; rw [hP, hw] at this; exact this
          refine hq.stay (fun _ _ _ z => z) (fun b' z => ?_) fun b' zs z => ?_
          · rw [upd_ne (fun w => by rw [w, hD1] at z; cases z)]; exact z
          · rw [upd_ne (fun w => by rw [w, hD1] at z; cases z)]; exact z
      have UN : Un (frs X.stack) fp H2 (upd Hc s2.heap.objs.size (.lst vs)) s2.heap s1.heap :=
        ⟨IB.keep, IB.slot, fun b o q n hx => by rw [upd_ne (below b (Heap.lt_size q)).2]; exact IB.free b o q n hx, IB.there,
          fun b zs q => by rw [upd_ne (neD b _ q)]; exact IB.tups b zs q, fun b o u q => by rw [upd_ne (neD b _ q)]; exact IB.frzs b o u q,
          fun b ps q => by rw [upd_ne (neD b _ q)]; exact IB.tbls b ps q⟩
      have os1 : s1.os = s2.os := by have := I1.os; rw [← hX] at this; exact this
      have IX : Inv X pins σ (upd Hc s2.heap.objs.size (.lst vs)) s1 := I2.call' os1 UN hok1 I1.bare fun b hb => let ⟨_, a2, _, a4, a5, a6⟩ := hfp b hb; ⟨a4, a2, a5, a6⟩
      have Cfree : Hc Hx.objs.size = none := by have := I1.free; rw [henv] at this; exact this
      refine hRR _ _ s1 _ IX (mc.trans (same_new hD1 _)) (by rw [eyf]; exact rep_new_lst hD1 rq) ⟨by rw [upd_ne (Ne.symm hDC)]; exact Cfree, ?_, Nat.le_trans I2.sz hCle, fun n c h z => ?_, fun p hp z => ?_⟩ ?_
      · exact Nat.ne_of_gt (Nat.lt_of_lt_of_le I2.lt hCle)
      · obtain ⟨v, q⟩ := I2.cell n c h
        exact absurd (Nat.lt_of_lt_of_le q.lt (by rw [z]; exact hCle)) (Nat.lt_irrefl _)
      · exact absurd (Nat.lt_of_lt_of_le (Heap.lt_size (I2.pin p hp).1) (by rw [z]; exact hCle)) (Nat.lt_irrefl _)
      · obtain ⟨m, hm, _⟩ := I1.loc
        rw [henv] at hm
        exact ⟨m, hm⟩
  exact codeAny_compStart_list (loop _ rfl) (T.self X.A 0 _ _ _ t1 (loop _ rfl))
/-- the source, then the block -/
theorem comp_src {scope : Scope} {x : Str} {fr : List Str} {caps : List Nat} (S : CompSc X scope x fr caps) {elt iter c : Expr} {px : Pos} {f : FE} {t : FT} {e : FE} (hsrc : FEx X iter f) (calm : X.calm = true)
    (ht : ∀ C s₀ H₀ ex, FTx (compCx X (x :: fr) scope (clOf fr X.env) C s₀ H₀ ex) c t) (he : ∀ C s₀ H₀ ex, FEx (compCx X (x :: fr) scope (clOf fr X.env) C s₀ H₀ ex) elt e)
    {pins : List (Addr × Obj)} {s : Shared} {σ : St} {H : Hp} {ρ : En} {d : D} (I : Inv X pins σ H s) (r : RepS X.K H σ ρ) (ed : eComp f caps t e ρ = some d) {RR : Value → Addr → Result → Shared → Prop}
    (hRR : ∀ acc C s' H', Inv X pins σ H' s' → Same H H' → Rep X.K H' (.ref acc) d → CFacts X pins H' C → (∃ m, s'.heap.Ns C m) → RR (.ref acc) C (.ok .next) s') :
    wpAny (model X.prog X.w) X.A (eval iter X.env) (fun xv s₁ => wpAny (model X.prog X.w) X.A (pyIter xv) (fun it s₂ => wpAny (model X.prog X.w) X.A (newList []) (fun acc s₃ => wpAny (model X.prog X.w) X.A (newFunctionEnv scope X.env.globals (clOf fr X.env) [] X.env.qual none .none (some X.env)) (fun cenv s₄ =>
      codeAny (model X.prog X.w) X.A (.compStart (.ListComp elt [⟨.Name x px, iter, [c], 0⟩] scope pos) 0 it acc { cenv with scope := relabel scope X.env }) (RR acc cenv.locals) s₄) X.xe s₃) X.xe s₂) X.xe s₁) X.xe s := by
  simp only [eComp] at ed
  obtain ⟨xs, exs, ed⟩ := Option.bind_eq_some_iff.mp ed
  obtain ⟨dx, edx, exs⟩ := Option.bind_eq_some_iff.mp exs
  split at ed
  · rename_i hz
    have hz' : xs.length ≤ 1000 := by simpa [few] using hz
    obtain ⟨ys, eys, ed⟩ := Option.map_eq_some_iff.mp ed
    subst ed
    have hsrc2 : PI X (.Name x px) iter (fun σ H R => iList X.K (tF X.K f) σ H R ∨ iTup X.K (tF X.K f) σ H R) := PI.or' (pi_list hsrc.pe) (pi_tup hsrc.pe)
    refine thn (hsrc2 pins s σ H (fun J H1 => Same H H1 ∧ Goes X.K J H1 xs) I ?_) fun xv s1 h1 => thn h1 fun itv s2 ⟨it, fp, tn, J, H2, eit, I2, T, t0, hfp, m2, G⟩ => ?_
    · cases dx <;> simp only [seqOf] at exs <;> first | contradiction | skip
      · cases exs
        refine .inl ⟨ρ, _, r, edx, fun v H1 m1 p1 => ?_⟩
        cases p1
        rename_i a vs h q
        exact ⟨a, rfl, ⟨vs, h⟩, m1, goes_list h q⟩
      · cases exs
        refine .inr ⟨ρ, _, r, edx, fun v H1 m1 p1 => ?_⟩
        cases p1
        rename_i a vs h q
        exact ⟨a, rfl, ⟨vs, h⟩, m1, goes_tup h q⟩
    · subst eit
      exact comp_block S I2 (r.mono m2) T t0 hfp calm hz' G ht he eys fun acc C s' H' I' m' p' cf ns => hRR acc C s' H' I' (m2.trans m') p' cf ns
  · exact nomatch ed
theorem fe_comp {scope : Scope} {x : Str} {fr : List Str} {caps : List Nat} {elt iter c : Expr} {px : Pos} {f : FE} {t : FT} {e : FE} (S : CompSc X scope x fr caps) (hsrc : FEx X iter f)
    (ht : ∀ C s₀ H₀ ex, FTx (compCx X (x :: fr) scope (clOf fr X.env) C s₀ H₀ ex) c t) (he : ∀ C s₀ H₀ ex, FEx (compCx X (x :: fr) scope (clOf fr X.env) C s₀ H₀ ex) elt e)
    (calm : X.calm = true := by rfl) (hs : ∀ z, foldedSetIterable iter X.env z = pure z := by intro _; rfl) :
    FEx X (.ListComp elt [⟨.Name x px, iter, [c], 0⟩] scope pos) (eComp f caps t e) := by
  refine ⟨fun pins s σ H ρ d I r ed => ?_⟩
  rw [eval_ListComp]
  refine wpAny_comprehension_free (use := none) (g := ⟨.Name x px, iter, [c], 0⟩) (gs := []) rfl hs S.clos S.kind S.names (comp_src S hsrc calm ht he I r ed fun acc C s' H' I' m p cf ns => ?_)
  obtain ⟨m1, hm⟩ := ns
  refine ⟨m1, hm, fun h' sb => ?_⟩
  exact ⟨.ref acc, H', I'.turned (t' := s'.toks) (fun b o hb e => (sb.2 b hb).trans e) cf.free cf.ne (.inr cf.above) cf.cells cf.pins, rfl, m, p⟩
/-- name = [.. for ..] -/
theorem fs_setc {i : Nat} {y : Str} {scope : Scope} {x : Str} {fr : List Str} {caps : List Nat} {elt iter c : Expr} {px py pc : Pos} {f : FE} {t : FT} {e : FE} (hN : X.N.Nodup) (hi : X.N[i]? = some y) (hy : X.env.scope.names.lookup y = some .local) (S : CompSc X scope x fr caps) (hsrc : FEx X iter f)
    (ht : ∀ C s₀ H₀ ex, FTx (compCx X (x :: fr) scope (clOf fr X.env) C s₀ H₀ ex) c t) (he : ∀ C s₀ H₀ ex, FEx (compCx X (x :: fr) scope (clOf fr X.env) C s₀ H₀ ex) elt e)
    (hsw : swapsWith (.ListComp elt [⟨.Name x px, iter, [c], 0⟩] scope pc) (some (.Name y py)) pos.line X.env = pure true := by rfl)
    (calm : X.calm = true := by rfl) (hs : ∀ z, foldedSetIterable iter X.env z = pure z := by intro _; rfl) :
    FSx X (.Assign [.Name y py] (.ListComp elt [⟨.Name x px, iter, [c], 0⟩] scope pc) pos) (sSet i (eComp f caps t e)) := by
  refine ⟨fun pins s σ H ρ o I r eo => ?_⟩
  simp only [sSet] at eo
  obtain ⟨d, ed, eo⟩ := Option.bind_eq_some_iff.mp eo
  simp only [Option.some.injEq] at eo
  subst eo
  rw [exec_Assign_Name_used _ _ _ _ hsw]
  refine wpAny_bind (wpAny_standAt (wpAny_bind ?_))
  show wpAny _ X.A (do let _ ← comprehension (.ListComp elt [⟨.Name x px, iter, [c], 0⟩] scope pc) scope X.env _ (newList []) false (eval iter X.env) (some (assign (.Name y py) X.env))) _ _ s
  refine wpAny_bind (wpAny_mono (wpAny_comprehension_free (use := some (assign (.Name y py) X.env)) (g := ⟨.Name x px, iter, [c], 0⟩) (gs := []) (Q := fun _ s' => SP X pins (endsOf X.K H (.nx (ρ.set i (some d)))) .next s') rfl hs S.clos S.kind S.names
    (comp_src S hsrc calm ht he I r ed fun acc C s' H' I' m p cf ns => ?_)) (fun _ s' hq => wpAny_pure (wpAny_pure hq)) fun _ _ e => e)
  obtain ⟨m1, hm⟩ := ns
  show wpAny _ X.A (assign (.Name y py) X.env (.ref acc)) _ _ _
  refine wpAny_assign_Name (store_ok2 I' hN hi (.inl hy) (show RelV (.ref acc) (.ref acc) from rfl) (fun s'' I'' ⟨a, sb, ha⟩ => ?_) (.inr hy))
  have haC : C ≠ a := by
    rcases ha with ha | ha
    · rw [ha]; exact cf.ne
    · exact (cf.cells y a ha).symm
  refine ⟨m1, hm.sameBut sb haC, fun h' sb' => ?_⟩
  exact ⟨_, H', I''.turned (t' := s''.toks) (fun b o hb e => (sb'.2 b hb).trans e) cf.free cf.ne (.inr cf.above) cf.cells cf.pins, _, rfl, m, (r.mono m).set p i⟩
end
end FD
end
section
set_option Elab.async false
set_option linter.all false
set_option maxRecDepth 100000
set_option maxHeartbeats 4000000
namespace FD
open PySem PySem.Spec PyProof.Rows L2
theorem bt_len : bootBuiltins "len" = some (.builtin "len") := by decide +kernel
theorem bt_abs : bootBuiltins "abs" = some (.builtin "abs") := by decide +kernel
theorem bt_isinstance : bootBuiltins "isinstance" = some (.builtin "isinstance") := by decide +kernel
theorem bt_int : bootBuiltins "int" = some (.type "int") := by decide +kernel
theorem bt_bool : bootBuiltins "bool" = some (.type "bool") := by decide +kernel
theorem bt_str : bootBuiltins "str" = some (.type "str") := by decide +kernel
theorem bt_list : bootBuiltins "list" = some (.type "list") := by decide +kernel
theorem bt_tuple : bootBuiltins "tuple" = some (.type "tuple") := by decide +kernel
section
variable {K : PySem.W.Frag}
theorem kit_of {T : String} {t : Ty} (h : ∀ tv ∈ ["NoneType", "bool", "int", "str", "list", "tuple"], (if (Value.type tv == Value.type T) = true then some true else if PySem.W.kitMeta T = true then (PySem.fastBuiltinMro tv).map (·.contains (Value.type T)) else none) = some (decide (tv ∈ match t with | .tup => ["tuple"] | .lst => ["list"] | .int => ["int", "bool"] | .bool => ["bool"] | .str => ["str"]))) :
    ∀ (d : D) (tv : String), plainD d = true → (tv = match d with | .none => "NoneType" | .bool _ => "bool" | .int _ => "int" | .str _ => "str" | .list _ => "list" | .tuple _ => "tuple" | .dict _ => "dict") → PySem.W.kitOne K (.type tv) (.type T) = some (isiB t d) := by
  intro d tv hp e
  have hk : ∀ tv ∈ ["NoneType", "bool", "int", "str", "list", "tuple"], PySem.W.kitOne K (.type tv) (.type T) = some (decide (tv ∈ match t with | .tup => ["tuple"] | .lst => ["list"] | .int => ["int", "bool"] | .bool => ["bool"] | .str => ["str"])) := fun tv htv => h tv htv
  cases d <;> simp only at e <;> subst e <;> first | (cases hp; done) | (rw [hk _ (by simp)]; cases t <;> rfl)
theorem kit_tup : ∀ (d : D) (tv : String), plainD d = true → (tv = match d with | .none => "NoneType" | .bool _ => "bool" | .int _ => "int" | .str _ => "str" | .list _ => "list" | .tuple _ => "tuple" | .dict _ => "dict") → PySem.W.kitOne K (.type tv) (.type "tuple") = some (isiB .tup d) := kit_of (by decide +kernel)
theorem kit_int : ∀ (d : D) (tv : String), plainD d = true → (tv = match d with | .none => "NoneType" | .bool _ => "bool" | .int _ => "int" | .str _ => "str" | .list _ => "list" | .tuple _ => "tuple" | .dict _ => "dict") → PySem.W.kitOne K (.type tv) (.type "int") = some (isiB .int d) := kit_of (by decide +kernel)
theorem kit_bool : ∀ (d : D) (tv : String), plainD d = true → (tv = match d with | .none => "NoneType" | .bool _ => "bool" | .int _ => "int" | .str _ => "str" | .list _ => "list" | .tuple _ => "tuple" | .dict _ => "dict") → PySem.W.kitOne K (.type tv) (.type "bool") = some (isiB .bool d) := kit_of (by decide +kernel)
theorem kit_str : ∀ (d : D) (tv : String), plainD d = true → (tv = match d with | .none => "NoneType" | .bool _ => "bool" | .int _ => "int" | .str _ => "str" | .list _ => "list" | .tuple _ => "tuple" | .dict _ => "dict") → PySem.W.kitOne K (.type tv) (.type "str") = some (isiB .str d) := kit_of (by decide +kernel)
end
/-- what law(script) promises: for a list of at most 63 ints the answer is True -/
def spLaw (K : PySem.W.Frag) : Sp := fun vs H Q _ => ∃ (a : Addr) (ns : List Int), vs = [.ref a] ∧ SqL K H a (ns.map V.int) ∧ ns.length ≤ 63 ∧ ∀ H', Q (.bl true) H'
theorem reps_ints {K : PySem.W.Frag} {H : Hp} : ∀ ns : List Int, Reps K H (ns.map V.int) (ns.map PyData.int)
  | [] => .nil
  | n :: r => .cons (.int n) (reps_ints r)
theorem sp_of {K : PySem.W.Frag} {F : List D → Option D} (h : ∀ ns : List Int, F [.list (ns.map .int)] = some (.bool true)) : ∀ vs H Q E, spLaw K vs H Q E → spF K F vs H Q E := fun vs H Q E ⟨a, ns, e, hS, _, q⟩ => by
  subst e
  refine ⟨[.list (ns.map .int)], .bool true, .cons (.lst hS (reps_ints ns)) .nil, h ns, fun v H' _ p => ?_⟩
  cases p
  exact q H'
end FD
end
section
set_option Elab.async false
set_option linter.all false
set_option maxRecDepth 100000
set_option maxHeartbeats 4000000
namespace FD
open PySem PySem.Spec PyProof.Rows L2
@[simp] def eChain (g g' : D → D → Option D) (a b c : FE) : FE := fun ρ => (a ρ).bind fun x => (b ρ).bind fun y => ((g x y).bind boolOf).bind fun k => if k then (c ρ).bind fun z => g' y z else some (.bool false)
/-- a loop over range(e) -/
@[simp] def rng (n : Nat) : List D := (List.range n).map fun i => .int (i : Nat)
@[simp] def sForRng (i : Nat) (a : FE) (body : FS) : FS := fun ρ => ((a ρ).bind intOf).bind fun j => if -1000 ≤ j ∧ j ≤ 1000 then forGo i body (rng j.toNat) ρ else none
section
variable {X : Cx} {a b c : Expr} {fa fb fc : FE} {pos : Pos}
def rD (K : PySem.W.Frag) (g : D → D → Option D) : R2 := fun x y H Q => ∃ dx dy d, Rep K H x dx ∧ Rep K H y dy ∧ g dx dy = some d ∧ ∀ v H', Same H H' → Rep K H' v d → Q v H'
theorem OpD.r {f : Value → Value → Sem Value} {g : D → D → Option D} (h : OpD X f g) : OpR X f (rD X.K g) := fun pins s σ H x y u v Q I rx ry ⟨dx, dy, d, px, py, e, q⟩ =>
  thn (h pins s σ H x y u v dx dy d I rx ry px py e) fun u s' ⟨w, H', I', rw', m, p⟩ => ⟨w, H', I', rw', q w H' m p⟩
end
end FD
end
section
set_option Elab.async false
set_option linter.all false
set_option maxRecDepth 100000
set_option maxHeartbeats 4000000
namespace FD
open PySem PySem.Spec PyProof.Rows L2
section
variable {X : Cx} {a b c : Expr} {fa fb fc : FE} {pos : Pos}
end
end FD
end
section
set_option Elab.async false
set_option linter.all false
set_option maxRecDepth 100000
set_option maxHeartbeats 4000000
namespace FD
open PySem PySem.Spec PyProof.Rows L2
mutual
def imm : D → Bool
  | .list _ => false
  | .dict _ => false
  | .tuple xs => immAll xs
  | _ => true
def immAll : List D → Bool
  | [] => true
  | x :: r => imm x && immAll r
end
/-- the abstract heap without the def's own lists -/
def hid (as : List Addr) (H : Hp) : Hp := fun b => if b ∈ as then none else H b
def Cells (as : List Addr) (H : Hp) : Prop := ∀ a ∈ as, ∃ vs, H a = some (.lst vs)
theorem hid_in {as : List Addr} {H : Hp} {b : Addr} (h : b ∈ as) : hid as H b = none := if_pos h
theorem hid_out {as : List Addr} {H : Hp} {b : Addr} (h : b ∉ as) : hid as H b = H b := if_neg h
theorem hid_some {as : List Addr} {H : Hp} {b : Addr} {o : HO} (h : hid as H b = some o) : b ∉ as ∧ H b = some o := by
  by_cases hb : b ∈ as
  · rw [hid_in hb] at h; cases h
  · rw [hid_out hb] at h; exact ⟨hb, h⟩
theorem hid_same (as : List Addr) (H : Hp) : Same (hid as H) H := fun b o h => (hid_some h).2
theorem hid_mono {as : List Addr} {H H' : Hp} (m : Same H H') : Same (hid as H) (hid as H') := fun b o h => by
  obtain ⟨h1, h2⟩ := hid_some h
  rw [hid_out h1]; exact m b o h2
theorem Cells.mono {as : List Addr} {H H' : Hp} (c : Cells as H) (m : Same H H') : Cells as H' := fun a ha => let ⟨vs, h⟩ := c a ha; ⟨vs, m a _ h⟩
theorem sqT_hid {K : PySem.W.Frag} {as : List Addr} {H : Hp} {a : Addr} {xs : List V} (c : Cells as H) (h : SqT K H a xs) : SqT K (hid as H) a xs := by
  have out : ∀ u, H a = some u → (∀ vs, u ≠ .lst vs) → hid as H a = some u := fun u e n => by
    rw [hid_out (fun ha => ?_)]
    · exact e
    · obtain ⟨vs, e'⟩ := c a ha
      rw [e] at e'; cases e'; exact n vs rfl
  rcases h with (h | ⟨o, h⟩) | h
  · exact .inl (.inl (out _ h (by simp)))
  · exact .inl (.inr ⟨o, out _ h (by simp)⟩)
  · exact .inr h
mutual
theorem rep_hid {K : PySem.W.Frag} {as : List Addr} {H : Hp} (c : Cells as H) : ∀ {v : V} {d : D}, Rep K H v d → imm d = true → Rep K (hid as H) v d
  | _, _, .non, _ => .non
  | _, _, .bl b, _ => .bl b
  | _, _, .int i, _ => .int i
  | _, _, .str x, _ => .str x
  | _, _, .lst _ _, e => by simp [imm] at e
  | _, _, .tup h r, e => .tup (sqT_hid c h) (reps_hid c r (by simpa [imm] using e))
theorem reps_hid {K : PySem.W.Frag} {as : List Addr} {H : Hp} (c : Cells as H) : ∀ {vs : List V} {ds : List D}, Reps K H vs ds → immAll ds = true → Reps K (hid as H) vs ds
  | _, _, .nil, _ => .nil
  | _, _, .cons h r, e => by
    simp only [immAll, Bool.and_eq_true] at e
    exact .cons (rep_hid c h e.1) (reps_hid c r e.2)
end
section
variable {X : Cx} {pins : List (Addr × Obj)} {σ : St} {H H' : Hp} {s s' : Shared} {as : List Addr}
theorem cell_nofs (I : Inv X pins σ H s) (c : Cells as H) : ∀ a ∈ as, a ∉ X.fs := fun a ha hf => by
  obtain ⟨vs, e⟩ := c a ha
  obtain ⟨hb, o, ho, _⟩ := I.ok.funs.mem hf
  have := I.base.free a o ho (I.ok.frf a hf) (fun hx => I.ok.exfs a hx hf)
  rw [e] at this; cases this
theorem hid_keep {b : Addr} {u : HO} (c : Cells as H) (e : H b = some u) (n : ∀ vs, u ≠ .lst vs) : hid as H b = some u := by
  rw [hid_out (fun ha => ?_)]
  · exact e
  · obtain ⟨vs, e'⟩ := c b ha
    rw [e] at e'; cases e'; exact n vs rfl
theorem hid_none {b : Addr} (e : H b = none) : hid as H b = none := by
  by_cases h : b ∈ as
  · exact hid_in h
  · rw [hid_out h]; exact e
theorem inv_hide (I : Inv X pins σ H s) (c : Cells as H) : Inv X (pins ++ pinsAt as s.heap) σ (hid as H) s where
  ok := I.ok
  os := I.os
  bare := I.bare
  base := ⟨I.base.keep, I.base.slot, fun b o q n hx => hid_none (I.base.free b o q n hx), I.base.there, fun b xs q => hid_keep c (I.base.tups b xs q) (by simp), fun b o u q => hid_keep c (I.base.frzs b o u q) (by simp),
    fun b ps q => let ⟨more, e⟩ := I.base.tbls b ps q; ⟨more, hid_keep c e (by simp)⟩⟩
  loc := I.loc
  cell := I.cell
  free := hid_none I.free
  freeC := fun x k e => hid_none (I.freeC x k e)
  pin := fun p hp => by
    rcases List.mem_append.mp hp with hp | hp
    · obtain ⟨h1, h2, h3⟩ := I.pin p (List.mem_append_left _ hp)
      exact ⟨h1, hid_none h2, h3⟩
    rcases List.mem_append.mp hp with hp | hp
    · obtain ⟨h1, h2, h3⟩ := I.pin p (List.mem_append_right _ hp)
      exact ⟨h1, hid_none h2, h3⟩
    · obtain ⟨h1, h2⟩ := of_pinsAt hp
      obtain ⟨vs, e⟩ := c p.1 h1
      obtain ⟨its, n, _, ho, _⟩ := I.lst e
      rw [h2] at ho
      refine ⟨h2, hid_in h1, fun z => ?_, cell_nofs I c _ h1, fun v z => ?_⟩
      · rw [z, I.free] at e; cases e
      · rw [Option.some.inj ho] at z; cases z
  hok := fun a o e => by
    obtain ⟨h1, h2⟩ := hid_some e
    exact (I.hok a o h2).stay (fun b u _ q => q) (fun b q => hid_keep c q (by simp)) fun b xs q => hid_keep c q (by simp)
  len := I.len
/-- the hidden part as it was, the rest as it is now -/
def both (as : List Addr) (H H' : Hp) : Hp := fun b => if b ∈ as then H b else H' b
theorem both_in {b : Addr} (h : b ∈ as) : both as H H' b = H b := if_pos h
theorem both_out {b : Addr} (h : b ∉ as) : both as H H' b = H' b := if_neg h
theorem inv_unhide (I : Inv X pins σ H s) (c : Cells as H) (I' : Inv X (pins ++ pinsAt as s.heap) σ H' s') (m : Same (hid as H) H') :
    Inv X pins σ (both as H H') s' ∧ Same H (both as H H') ∧ Same H' (hid as (both as H H')) := by
  have objs : ∀ a ∈ as, ∃ o, s.heap.get? a = some o ∧ s'.heap.get? a = some o ∧ H' a = none := fun a ha => by
    obtain ⟨vs, e⟩ := c a ha
    obtain ⟨its, n, _, ho, _⟩ := I.lst e
    obtain ⟨h1, h2, _⟩ := I'.pin (a, _) (List.mem_append_right _ (List.mem_append_right _ (mem_pinsAt ha ho)))
    exact ⟨_, ho, h1, h2⟩
  have up : ∀ b u, H' b = some u → both as H H' b = some u := fun b u e => by
    rw [both_out (fun ha => ?_)]
    · exact e
    · obtain ⟨o, _, _, h⟩ := objs b ha
      rw [e] at h; cases h
  have same : Same H (both as H H') := fun b o e => by
    by_cases hb : b ∈ as
    · rw [both_in hb]; exact e
    · rw [both_out hb]; exact m b o (by rw [hid_out hb]; exact e)
  have none' : ∀ b, H b = none → H' b = none → both as H H' b = none := fun b h h' => by
    by_cases hb : b ∈ as
    · rw [both_in hb]; exact h
    · rw [both_out hb]; exact h'
  refine ⟨⟨I'.ok, I'.os, I'.bare, ?_, I'.loc, I'.cell, none' _ I.free I'.free, fun x k e => none' _ (I.freeC x k e) (I'.freeC x k e), ?_, ?_, I'.len⟩, same, fun b o e => ?_⟩
  · exact ⟨I'.base.keep, I'.base.slot, fun b o q n hx => none' _ (I.base.free b o q n hx) (I'.base.free b o q n hx), I'.base.there, fun b xs q => up _ _ (I'.base.tups b xs q), fun b o u q => up _ _ (I'.base.frzs b o u q),
      fun b ps q => let ⟨more, e⟩ := I'.base.tbls b ps q; ⟨more, up _ _ e⟩⟩
  · intro p hp
    obtain ⟨h1, h2, h3⟩ := I'.pin p (by
      rcases List.mem_append.mp hp with hp | hp
      · exact List.mem_append_left _ hp
      · exact List.mem_append_right _ (List.mem_append_left _ hp))
    exact ⟨h1, none' _ (I.pin p hp).2.1 h2, h3⟩
  · intro a o e
    by_cases ha : a ∈ as
    · rw [both_in ha] at e
      obtain ⟨vs, e'⟩ := c a ha
      rw [e] at e'; cases e'
      obtain ⟨ob, h1, h2, _⟩ := objs a ha
      obtain ⟨z, its, n, r, e2⟩ := I.hok a _ e
      rw [h1] at e2
      exact ⟨z, its, n, r, by rw [h2]; exact e2⟩
    · rw [both_out ha] at e
      exact (I'.hok a o e).stay (fun b u _ q => q) (fun b q => up _ _ q) fun b xs q => up _ _ q
  · have := up b o e
    rw [hid_out (fun ha => ?_)]
    · exact this
    · obtain ⟨ob, _, _, h⟩ := objs b ha
      rw [e] at h; cases h
end
end FD
end
section
set_option Elab.async false
set_option linter.all false
set_option maxRecDepth 100000
set_option maxHeartbeats 4000000
namespace FD
open PySem PySem.Spec PyProof.Rows L2
/-- the state of a def that changes lists: its data (an own list by its contents), which slot bears which own list, how many own lists there are -/
structure MSt where
  ρ : En
  cm : List (Option Nat)
  k : Nat
@[simp] def hidR (m : MSt) : En := List.zipWith (fun (d : Option D) (c : Option Nat) => if c.isSome then none else d) m.ρ m.cm
@[simp] def MSt.set (m : MSt) (i : Nat) (d : D) : MSt := ⟨m.ρ.set i (some d), m.cm.set i none, m.k⟩
@[simp] def MSt.own (m : MSt) (i : Nat) (ds : List D) : MSt := ⟨m.ρ.set i (some (.list ds)), m.cm.set i (some m.k), m.k + 1⟩
@[simp] def MSt.put (m : MSt) (j : Nat) (ds : List D) : MSt := ⟨List.zipWith (fun (d : Option D) (c : Option Nat) => if c = some j then some (.list ds) else d) m.ρ m.cm, m.cm, m.k⟩
/-- which own list the slot bears, and its contents -/
@[simp] def MSt.cell (m : MSt) (i : Nat) : Option (Nat × List D) := match m.cm[i]?, m.ρ[i]? with
  | some (some j), some (some (.list ds)) => some (j, ds)
  | _, _ => none
structure MRep (K : PySem.W.Frag) (as : List Addr) (H : Hp) (σ : St) (m : MSt) : Prop where
  len : m.ρ.length = σ.length
  lenC : m.cm.length = σ.length
  nd : as.Nodup
  lk : as.length = m.k
  cells : Cells as H
  dat : ∀ (i : Nat) (d : D), m.cm[i]? = some none → m.ρ[i]? = some (some d) → ∃ v, σ[i]? = some (some v) ∧ Rep K (hid as H) v d
  own : ∀ (i j : Nat), m.cm[i]? = some (some j) → ∃ a ds vs, as[j]? = some a ∧ m.ρ[i]? = some (some (.list ds)) ∧ σ[i]? = some (some (.ref a)) ∧ H a = some (.lst vs) ∧ Reps K (hid as H) vs ds
section
variable {K : PySem.W.Frag} {as : List Addr} {H H' : Hp} {σ : St} {m : MSt}
theorem MRep.mono (r : MRep K as H σ m) (e : Same H H') : MRep K as H' σ m where
  len := r.len
  lenC := r.lenC
  nd := r.nd
  lk := r.lk
  cells := r.cells.mono e
  dat := fun i d h1 h2 => let ⟨v, h3, h4⟩ := r.dat i d h1 h2; ⟨v, h3, h4.mono (hid_mono e)⟩
  own := fun i j h => let ⟨a, ds, vs, h1, h2, h3, h4, h5⟩ := r.own i j h; ⟨a, ds, vs, h1, h2, h3, e _ _ h4, h5.mono (hid_mono e)⟩
theorem MRep.cmAt (r : MRep K as H σ m) {i : Nat} {o : Option D} (h : m.ρ[i]? = some o) : ∃ c, m.cm[i]? = some c := by
  have h1 : i < m.ρ.length := (List.getElem?_eq_some_iff.mp h).1
  have h2 : i < m.cm.length := by rw [r.lenC, ← r.len]; exact h1
  exact ⟨m.cm[i], by simp [h2]⟩
/-- all in sight -/
theorem MRep.vis (r : MRep K as H σ m) : RepS K H σ m.ρ := by
  refine ⟨r.len, fun i d h => ?_⟩
  obtain ⟨c, hc⟩ := r.cmAt h
  cases c with
  | none => obtain ⟨v, h1, h2⟩ := r.dat i d hc h; exact ⟨v, h1, h2.mono (hid_same _ _)⟩
  | some j =>
    obtain ⟨a, ds, vs, h1, h2, h3, h4, h5⟩ := r.own i j hc
    rw [h] at h2; cases h2
    exact ⟨_, h3, .lst (.inl (.inl h4)) (h5.mono (hid_same _ _))⟩
/-- the own lists out of sight -/
theorem MRep.hidden (r : MRep K as H σ m) : RepS K (hid as H) σ (hidR m) := by
  refine ⟨by simp [r.len, r.lenC], fun i d h => ?_⟩
  simp only [hidR, List.getElem?_zipWith] at h
  cases hr : m.ρ[i]? with
  | none => rw [hr] at h; simp at h
  | some o =>
    obtain ⟨c, hc⟩ := r.cmAt hr
    rw [hr, hc] at h
    cases c with
    | none =>
      have h' : o = some d := by simpa using h
      subst h'
      exact r.dat i d hc hr
    | some j => simp at h
theorem MRep.set (r : MRep K as H σ m) {v : V} {d : D} (p : Rep K (hid as H) v d) (i : Nat) : MRep K as H (σ.set i (some v)) (m.set i d) where
  len := by simp [r.len]
  lenC := by simp [r.lenC]
  nd := r.nd
  lk := r.lk
  cells := r.cells
  dat := fun n e h1 h2 => by
    simp only [MSt.set, List.getElem?_set] at h1 h2 ⊢
    by_cases c : i = n
    · rw [if_pos c] at h1 h2 ⊢
      by_cases hl : i < m.ρ.length
      · rw [if_pos hl] at h2
        rw [if_pos (by rw [← r.len]; exact hl)]
        simp only [Option.some.injEq] at h2
        subst h2
        exact ⟨v, rfl, p⟩
      · rw [if_neg hl] at h2; cases h2
    · rw [if_neg c] at h1 h2 ⊢
      exact r.dat n e h1 h2
  own := fun n j h => by
    simp only [MSt.set, List.getElem?_set] at h ⊢
    by_cases c : i = n
    · rw [if_pos c] at h
      split at h <;> simp at h
    · rw [if_neg c] at h ⊢
      rw [if_neg c]
      exact r.own n j h
theorem hid_new {p : Addr} {o : HO} (h : H p = none) : Same (hid as H) (hid (as ++ [p]) (upd H p o)) := fun b u e => by
  obtain ⟨h1, h2⟩ := hid_some e
  have hb : b ≠ p := ne_of_none h2 h
  rw [hid_out (by simp [h1, hb]), upd_ne hb]
  exact h2
theorem MRep.new (r : MRep K as H σ m) {p : Addr} {vs : List V} {ds : List D} (hp : H p = none) (q : Reps K (hid as H) vs ds) (i : Nat) : MRep K (as ++ [p]) (upd H p (.lst vs)) (σ.set i (some (.ref p))) (m.own i ds) where
  len := by simp [r.len]
  lenC := by simp [r.lenC]
  nd := by
    refine List.nodup_append.mpr ⟨r.nd, by simp, fun a ha b hb => ?_⟩
    have : b = p := by simpa using hb
    subst this
    rintro rfl
    obtain ⟨vs, e⟩ := r.cells a ha
    rw [hp] at e; cases e
  lk := by simp [r.lk]
  cells := fun a ha => by
    rcases List.mem_append.mp ha with ha | ha
    · obtain ⟨xs, e⟩ := r.cells a ha
      exact ⟨xs, by rw [upd_ne (ne_of_none e hp)]; exact e⟩
    · have : a = p := by simpa using ha
      subst this
      exact ⟨vs, upd_same⟩
  dat := fun n e h1 h2 => by
    simp only [MSt.own, List.getElem?_set] at h1 h2 ⊢
    by_cases c : i = n
    · rw [if_pos c] at h1
      split at h1 <;> simp at h1
    · rw [if_neg c] at h1 h2 ⊢
      obtain ⟨v, a1, a2⟩ := r.dat n e h1 h2
      exact ⟨v, a1, a2.mono (hid_new hp)⟩
  own := fun n j h => by
    simp only [MSt.own, List.getElem?_set] at h ⊢
    by_cases c : i = n
    · rw [if_pos c] at h ⊢
      by_cases hl : i < m.cm.length
      · rw [if_pos hl] at h
        simp only [Option.some.injEq] at h
        subst h
        rw [if_pos c, if_pos (show i < m.ρ.length by rw [r.len, ← r.lenC]; exact hl), if_pos (show i < σ.length by rw [← r.lenC]; exact hl)]
        exact ⟨p, ds, vs, by rw [← r.lk]; simp, rfl, rfl, upd_same, q.mono (hid_new hp)⟩
      · rw [if_neg hl] at h; cases h
    · rw [if_neg c] at h ⊢
      rw [if_neg c]
      obtain ⟨a, es, ws, h1, h2, h3, h4, h5⟩ := r.own n j h
      exact ⟨a, es, ws, by rw [List.getElem?_append_left (List.getElem?_eq_some_iff.mp h1).1]; exact h1, h2, h3, by rw [upd_ne (ne_of_none h4 hp)]; exact h4, h5.mono (hid_new hp)⟩
theorem hid_upd {a : Addr} {o : HO} (h : a ∈ as) : hid as (upd H a o) = hid as H := by
  funext b
  by_cases hb : b ∈ as
  · rw [hid_in hb, hid_in hb]
  · rw [hid_out hb, hid_out hb, upd_ne (fun e : b = a => hb (by rw [e]; exact h))]
theorem MRep.put (r : MRep K as H σ m) {j : Nat} {a : Addr} {vs : List V} {ds : List D} (ha : as[j]? = some a) (q : Reps K (hid as H) vs ds) : MRep K as (upd H a (.lst vs)) σ (m.put j ds) where
  len := by simp [r.len, r.lenC]
  lenC := r.lenC
  nd := r.nd
  lk := r.lk
  cells := fun b hb => by
    by_cases e : b = a
    · subst e; exact ⟨vs, upd_same⟩
    · rw [upd_ne e]; exact r.cells b hb
  dat := fun n e h1 h2 => by
    have hm := List.mem_of_getElem? ha
    rw [hid_upd hm]
    simp only [MSt.put] at h1 h2
    rw [List.getElem?_zipWith, h1] at h2
    cases hr : m.ρ[n]? with
    | none => rw [hr] at h2; simp at h2
    | some o =>
      rw [hr] at h2
      have h' : o = some e := by simpa using h2
      subst h'
      exact r.dat n e h1 hr
  own := fun n j' h => by
    have hm := List.mem_of_getElem? ha
    rw [hid_upd hm]
    obtain ⟨b, es, ws, h1, h2, h3, h4, h5⟩ := r.own n j' h
    simp only [MSt.put, List.getElem?_zipWith, h, h2] at h ⊢
    by_cases e : j' = j
    · subst e
      rw [ha] at h1; cases h1
      exact ⟨_, ds, vs, ha, by simp, h3, upd_same, q⟩
    · have hne : b ≠ a := by
        rintro rfl
        exact e ((List.getElem?_inj (List.getElem?_eq_some_iff.mp h1).1 r.nd).mp (h1.trans ha.symm))
      exact ⟨b, es, ws, h1, by simp [e], h3, by rw [upd_ne hne]; exact h4, h5⟩
end
end FD
end
section
set_option Elab.async false
set_option linter.all false
set_option maxRecDepth 100000
set_option maxHeartbeats 4000000
namespace FD
open PySem PySem.Spec PyProof.Rows L2
/-- an expression's datum in such a state: by the own lists unseen, or seen, if the datum holds no list -/
def ev (f : FE) (m : MSt) : Option D := match f (hidR m) with
  | some d => some d
  | none => (f m.ρ).bind fun d => if imm d then some d else none
inductive MOut where
  | nx (m : MSt) | rt (d : D) | bk (m : MSt) | ct (m : MSt)
abbrev FM := MSt → Option MOut
@[simp] def mNil : FM := fun m => some (.nx m)
@[simp] def mSeq (a b : FM) : FM := fun m => (a m).bind fun o => match o with
  | .nx m' => b m'
  | .rt d => some (.rt d)
  | .bk m' => some (.bk m')
  | .ct m' => some (.ct m')
@[simp] def mRet (f : FE) : FM := fun m => (f m.ρ).bind fun d => some (.rt d)
@[simp] def mIf (t : FT) (a b : FM) : FM := fun m => (t m.ρ).bind fun c => if c then a m else b m
@[simp] def mBrk : FM := fun m => some (.bk m)
@[simp] def mCnt : FM := fun m => some (.ct m)
@[simp] def mSet (i : Nat) (f : FE) : FM := fun m => (ev f m).bind fun d => some (.nx (m.set i d))
@[simp] def mOwn (i : Nat) (g : FA) : FM := fun m => (g m.ρ).bind fun ds => if immAll ds then some (.nx (m.own i ds)) else none
@[simp] def mApp (i : Nat) (f : FE) : FM := fun m => (m.cell i).bind fun c => (ev f m).bind fun d => if c.2.length < 1000 then some (.nx (m.put c.1 (c.2 ++ [d]))) else none
@[simp] def mPut (i : Nat) (fk f : FE) : FM := fun m => (ev f m).bind fun d => ((fk m.ρ).bind intOf).bind fun k => (m.cell i).bind fun c => (ixN c.2.length k).bind fun j => some (.nx (m.put c.1 (c.2.set j d)))
/-- name = [one, other][e] -/
@[simp] def MSt.ali (m : MSt) (i y : Nat) : MSt := ⟨m.ρ.set i (m.ρ[y]?.getD none), m.cm.set i (m.cm[y]?.getD none), m.k⟩
@[simp] def mPick (i y z : Nat) (f : FE) : FM := fun m => (m.cell y).bind fun _ => (m.cell z).bind fun _ => ((f m.ρ).bind intOf).bind fun k => if k = 0 then some (.nx (m.ali i y)) else if k = 1 then some (.nx (m.ali i z)) else none
def mforGo (i : Nat) (body : FM) : List D → MSt → Option MOut
  | [], m => some (.nx m)
  | x :: r, m => (body (m.set i x)).bind fun o => match o with
    | .nx m' => mforGo i body r m'
    | .ct m' => mforGo i body r m'
    | .bk m' => some (.nx m')
    | .rt d => some (.rt d)
@[simp] def mFor (i : Nat) (src : FE) (body : FM) : FM := fun m => ((src (hidR m)).bind seqOf).bind fun xs => mforGo i body xs m
@[simp] def mForRng (i : Nat) (a : FE) (body : FM) : FM := fun m => ((a m.ρ).bind intOf).bind fun j => if -1000 ≤ j ∧ j ≤ 1000 then mforGo i body (rng j.toNat) m else none
@[simp] def mstart (n : Nat) (ds : List D) : MSt := ⟨start n ds, List.replicate n none, 0⟩
@[simp] def mretOf : MOut → Option D
  | .rt d => some d
  | .nx _ => some .none
  | _ => none
@[simp] def bodyM (n np : Nat) (s : FM) (ds : List D) : Option D := if ds.length = np ∧ np ≤ n then (s (mstart n ds)).bind mretOf else none

def mends (K : PySem.W.Frag) (as : List Addr) (H : Hp) (o : MOut) : Ends where
  nx := fun σ' H' => ∃ m' as', o = .nx m' ∧ Same (hid as H) (hid as' H') ∧ MRep K as' H' σ' m'
  rt := fun v H' => ∃ d, o = .rt d ∧ Same (hid as H) H' ∧ Rep K H' v d
  bk := fun σ' H' => ∃ m' as', o = .bk m' ∧ Same (hid as H) (hid as' H') ∧ MRep K as' H' σ' m'
  ct := fun σ' H' => ∃ m' as', o = .ct m' ∧ Same (hid as H) (hid as' H') ∧ MRep K as' H' σ' m'
def MSxR (X : Cx) (st : Stmt) (g : FM) : Prop :=
  ∀ (pins : List (Addr × Obj)) (s : Shared) (σ : St) (H : Hp) (as : List Addr) (m : MSt) (o : MOut), Inv X pins σ H s → MRep X.K as H σ m → g m = some o → wpAny (model X.prog X.w) X.A (exec st X.env) (SP X pins (mends X.K as H o)) X.xe s
structure MSx (X : Cx) (st : Stmt) (g : FM) : Prop where
  go : MSxR X st g
def MSsR (X : Cx) (sts : List Stmt) (g : FM) : Prop :=
  ∀ (pins : List (Addr × Obj)) (s : Shared) (σ : St) (H : Hp) (as : List Addr) (m : MSt) (o : MOut), Inv X pins σ H s → MRep X.K as H σ m → g m = some o → wpAny (model X.prog X.w) X.A (execs sts X.env) (SP X pins (mends X.K as H o)) X.xe s
structure MSs (X : Cx) (sts : List Stmt) (g : FM) : Prop where
  go : MSsR X sts g
def tM (K : PySem.W.Frag) (g : FM) : TS := fun D σ H => ∃ (as : List Addr) (m : MSt) (o : MOut), MRep K as H σ m ∧ g m = some o ∧ Ent (mends K as H o) D
theorem MSs.ps {X : Cx} {sts : List Stmt} {g : FM} (h : MSs X sts g) : PSs X sts (tM X.K g) := fun pins s σ H D I ⟨as, m, o, r, e, k⟩ => thn (h.go pins s σ H as m o I r e) fun f s' q => spImp q k
theorem MSx.of {X : Cx} {st : Stmt} {g : FM} {t : TS} (h : PS X st t) (hq : ∀ σ H as m o, MRep X.K as H σ m → g m = some o → t (mends X.K as H o) σ H) : MSx X st g :=
  ⟨fun pins s σ H as m o I r e => h pins s σ H _ I (hq σ H as m o r e)⟩
/-- an expression, as it is read in such a state -/
def tE (K : PySem.W.Frag) (f : FE) : TE := fun σ H Q => ∃ (as : List Addr) (m : MSt) (d : D), MRep K as H σ m ∧ ev f m = some d ∧ ∀ v H', Same H H' → Rep K (hid as H') v d → Q v H'
def tH (K : PySem.W.Frag) (f : FE) : TE := fun σ H Q => ∃ (as : List Addr) (m : MSt) (d : D), MRep K as H σ m ∧ f (hidR m) = some d ∧ ∀ v H', Same H H' → Rep K (hid as H') v d → Q v H'
section
variable {X : Cx} {pos : Pos} {e : Expr} {f : FE}
theorem FEx.ph (h : FEx X e f) : PE X e (tH X.K f) := by
  intro pins s σ H Q I ⟨as, m, d, r, ed, q⟩
  refine thn (h _ s σ (hid as H) (hidR m) d (inv_hide I r.cells) r.hidden ed) fun u s' ⟨v, H', I', rv, mm, p⟩ => ?_
  obtain ⟨I2, sm, sm2⟩ := inv_unhide I r.cells I' mm
  exact ⟨v, _, I2, rv, q v _ sm (p.mono sm2)⟩
theorem FEx.pm (h : FEx X e f) : PE X e (tE X.K f) := by
  intro pins s σ H Q I ⟨as, m, d, r, ed, q⟩
  unfold ev at ed
  split at ed
  · rename_i d' ed'
    cases ed
    exact h.ph pins s σ H Q I ⟨as, m, d, r, ed', q⟩
  · obtain ⟨d', ed', ed⟩ := Option.bind_eq_some_iff.mp ed
    split at ed
    · rename_i hi
      cases ed
      exact thn (h pins s σ H m.ρ d I r.vis ed') fun u s' ⟨v, H', I', rv, mm, p⟩ => ⟨v, H', I', rv, q v H' mm (rep_hid (r.cells.mono mm) p hi)⟩
    · cases ed
@[simp] def gFew (g : FA) : FA := fun ρ => (g ρ).bind fun ds => if few ds then some ds else none
@[simp] def gRep (g : FA) (f : FE) : FA := fun ρ => (g ρ).bind fun ds => ((f ρ).bind intOf).bind fun k => if 0 ≤ k ∧ k ≤ 1000 ∧ ds.length * k.toNat ≤ 1000 then some (List.replicate k.toNat ds).flatten else none
theorem Reps.set {K : PySem.W.Frag} {H : Hp} {v : V} {d : D} (p : Rep K H v d) : ∀ {vs : List V} {ds : List D} (j : Nat), Reps K H vs ds → Reps K H (vs.set j v) (ds.set j d)
  | _, _, _, .nil => .nil
  | _, _, 0, .cons _ r => .cons p r
  | _, _, j + 1, .cons h r => .cons h (Reps.set p j r)
end
end FD
end
section
set_option Elab.async false
set_option linter.all false
set_option maxRecDepth 100000
set_option maxHeartbeats 4000000
namespace FD
open PySem PySem.Spec PyProof.Rows L2
theorem MRep.ali {K : PySem.W.Frag} {as : List Addr} {H : Hp} {σ : St} {m : MSt} (r : MRep K as H σ m) {i y j : Nat} {ds : List D} {a : Addr} (hc : m.cm[y]? = some (some j)) (hr : m.ρ[y]? = some (some (.list ds))) (hs : σ[y]? = some (some (.ref a))) : MRep K as H (σ.set i (some (.ref a))) (m.ali i y) where
  len := by simp [r.len]
  lenC := by simp [r.lenC]
  nd := r.nd
  lk := r.lk
  cells := r.cells
  dat := fun n e h1 h2 => by
    simp only [MSt.ali, hc, hr, Option.getD_some, List.getElem?_set] at h1 h2 ⊢
    by_cases c : i = n
    · rw [if_pos c] at h1
      split at h1 <;> simp at h1
    · rw [if_neg c] at h1 h2 ⊢
      exact r.dat n e h1 h2
  own := fun n j' h => by
    simp only [MSt.ali, hc, hr, Option.getD_some, List.getElem?_set] at h ⊢
    by_cases c : i = n
    · rw [if_pos c] at h ⊢
      by_cases hl : i < m.cm.length
      · rw [if_pos hl] at h
        simp only [Option.some.injEq] at h
        subst h
        obtain ⟨b, es, vs, a1, a2, a3, a4, a5⟩ := r.own y j hc
        rw [hr] at a2; cases a2
        rw [hs] at a3; cases a3
        rw [if_pos c, if_pos (show i < m.ρ.length by rw [r.len, ← r.lenC]; exact hl), if_pos (show i < σ.length by rw [← r.lenC]; exact hl)]
        exact ⟨_, _, vs, a1, rfl, rfl, a4, a5⟩
      · rw [if_neg hl] at h; cases h
    · rw [if_neg c] at h ⊢
      rw [if_neg c]
      exact r.own n j' h
section
variable {X : Cx} {pos : Pos} {e : Expr} {f : FE}
end
end FD
end
section
set_option Elab.async false
set_option linter.all false
set_option maxRecDepth 100000
set_option maxHeartbeats 4000000
namespace FD
open PySem PySem.Spec PyProof.Rows L2
abbrev FK := MSt → Option MSt
@[simp] def kPut (i : Nat) (fk f : FE) : FK := fun m => (ev f m).bind fun d => ((fk m.ρ).bind intOf).bind fun k => (m.cell i).bind fun c => (ixN c.2.length k).bind fun j => some (m.put c.1 (c.2.set j d))
@[simp] def kIf (t : FT) (a b : FK) : FK := fun m => (t m.ρ).bind fun c => if c then a m else b m
section
variable {X : Cx} {pos : Pos} {e : Expr} {f : FE}
end
@[simp] def mMove (i0 i1 i2 : Nat) (g : FK) : FM := fun m => ((m.ρ[i0]?).bind id).bind fun d0 => if m.cm[i0]? = some none ∧ m.k = 2 then (m.cell i1).bind fun c1 => (m.cell i2).bind fun c2 => if c1.1 = 0 ∧ c2.1 = 1 then
    (g ⟨[some d0, some (.list c1.2), some (.list c2.2)], [none, some 0, some 1], 2⟩).bind fun m' => (m'.cell 1).bind fun e1 => (m'.cell 2).bind fun e2 => if e1.1 = 0 ∧ e2.1 = 1 then some (.nx ((m.put 0 e1.2).put 1 e2.2)) else none else none else none
section
variable {X : Cx} {pos : Pos}
end
end FD
end
section
set_option Elab.async false
set_option linter.all false
set_option maxRecDepth 100000
set_option maxHeartbeats 4000000
namespace FD
open PySem PySem.Spec PyProof.Rows L2
def kvOf (ps : List (Str × Int)) : List (Key × V) := ps.map fun p => (Sum.inr p.1, V.int p.2)
def lookD (ps : List (Str × Int)) : D → Option D
  | .str k => match valV (mergeK [] (kvOf ps)) (Sum.inr k) with
    | some (.int i) => some (.int i)
    | _ => none
  | _ => none
@[simp] def eDictIx (ps : List (Str × Int)) (f : FE) : FE := fun ρ => (f ρ).bind (lookD ps)
section
variable {X : Cx} {e : Expr} {f : FE} {pos : Pos}
end
section
variable {X : Cx}
end
end FD
end
section
set_option Elab.async false
set_option linter.all false
set_option maxHeartbeats 1000000
namespace FD
open PySem
theorem canLayAll0_mem {xs : List D} (h : PyData.canLayAll0 xs = true) : ∀ x ∈ xs, x.canLay0 = true := by
  induction xs with
  | nil => intro x hx; cases hx
  | cons a r ih =>
    intro x hx
    simp only [PyData.canLayAll0, Bool.and_eq_true] at h
    rcases List.mem_cons.mp hx with rfl | hx
    · exact h.1
    · exact ih h.2 x hx
theorem canLay0_str (s : Str) : (PyData.str s).canLay0 = PyData.strOk s := by simp [PyData.canLay0]
theorem okEq_str {x : D} {s : Str} (hx : x.canLay0 = true) (hs : PyData.strOk s = true) : okEq x (.str s) = true := by
  simp [okEq, hx, canLay0_str, hs, PyData.depth]
theorem eqD_str {x : D} {s : Str} (hx : x.canLay0 = true) (hs : PyData.strOk s = true) : eqD x (.str s) = some (.bool (x.eqv (.str s))) := by
  simp [eqD, okEq_str hx hs]
theorem neD_str {x : D} {s : Str} (hx : x.canLay0 = true) (hs : PyData.strOk s = true) : neD x (.str s) = some (.bool (!x.eqv (.str s))) := by
  simp [neD, okEq_str hx hs]
@[simp] theorem eqD_int (i j : Int) : eqD (.int i) (.int j) = some (.bool (i == j)) := by simp [eqD, okEq, PyData.canLay0, PyData.eqv, PyData.depth]
@[simp] theorem neD_int (i j : Int) : neD (.int i) (.int j) = some (.bool (!(i == j))) := by simp [neD, okEq, PyData.canLay0, PyData.eqv, PyData.depth]
theorem ok_number : PyData.strOk "number" = true := by decide +kernel
theorem ok_plus : PyData.strOk "plus" = true := by decide +kernel
theorem ok_less : PyData.strOk "less" = true := by decide +kernel
theorem ok_times : PyData.strOk "times" = true := by decide +kernel
@[simp] theorem at_0 {α : Type} (x : α) (xs : List α) : at? (x :: xs) 0 = some x := rfl
@[simp] theorem at_1 {α : Type} (x y : α) (xs : List α) : at? (x :: y :: xs) 1 = some y := rfl
@[simp] theorem at_2 {α : Type} (x y z : α) (xs : List α) : at? (x :: y :: z :: xs) 2 = some z := rfl
theorem eqv_self_str (s : Str) : (PyData.str s).eqv (.str s) = true := by simp [PyData.eqv]
inductive Kd where | plus | less | times
def Kd.str : Kd → Str
  | .plus => "plus" | .less => "less" | .times => "times"
inductive Tr where
  | num (n : Int)
  | node (k : Kd) (l r : Tr)
def Tr.toD : Tr → D
  | .num n => .tuple [.str "number", .int n]
  | .node k l r => .tuple [.str k.str, l.toD, r.toD]
def Tr.leaves : Tr → Nat
  | .num _ => 1
  | .node _ l r => l.leaves + r.leaves
def Tr.dep : Tr → Nat
  | .num _ => 0
  | .node _ l r => max l.dep r.dep + 1
/-- all numbers lie within -1000 .. 1000 -/
def Tr.ok : Tr → Prop
  | .num n => -1000 ≤ n ∧ n ≤ 1000
  | .node _ l r => l.ok ∧ r.ok
def Tr.worth : Tr → Int
  | .num n => n
  | .node .plus l r => l.worth + r.worth
  | .node .less l r => l.worth - r.worth
  | .node .times l r => l.worth * r.worth
theorem kd_ok (k : Kd) : PyData.strOk k.str = true := by cases k <;> decide +kernel
theorem kd_ne (k : Kd) : (k.str == ("number" : Str)) = false := by cases k <;> decide +kernel
theorem Tr.leaves_pos : ∀ t : Tr, 1 ≤ t.leaves
  | .num _ => Nat.le_refl _
  | .node _ l r => by have := l.leaves_pos; simp only [Tr.leaves]; omega
theorem Tr.dep_lt : ∀ t : Tr, t.dep < t.leaves
  | .num _ => Nat.lt_succ_self _
  | .node _ l r => by
    have := l.dep_lt; have := r.dep_lt; have := l.leaves_pos; have := r.leaves_pos
    simp only [Tr.leaves, Tr.dep]; omega
theorem Tr.lay : ∀ t : Tr, t.toD.canLay0 = true
  | .num _ => by simp [Tr.toD, PyData.canLay0, PyData.canLayAll0, ok_number]
  | .node k l r => by simp [Tr.toD, PyData.canLay0, PyData.canLayAll0, kd_ok k, l.lay, r.lay]
theorem Tr.depth_eq : ∀ t : Tr, t.toD.depth = t.dep + 1
  | .num _ => by simp [Tr.toD, PyData.depth, PyData.depthAll, Tr.dep]
  | .node k l r => by simp [Tr.toD, PyData.depth, PyData.depthAll, Tr.dep, l.depth_eq, r.depth_eq]
mutual
theorem eqv_refl : ∀ d : D, d.canLay0 = true → d.eqv d = true
  | .none, _ => by simp [PyData.eqv]
  | .bool _, _ => by simp [PyData.eqv]
  | .int _, _ => by simp [PyData.eqv]
  | .str _, _ => by simp [PyData.eqv]
  | .list xs, h => by simp only [PyData.canLay0] at h; simp only [PyData.eqv]; exact eqvAll_refl xs h
  | .tuple xs, h => by simp only [PyData.canLay0] at h; simp only [PyData.eqv]; exact eqvAll_refl xs h
  | .dict _, h => by simp [PyData.canLay0] at h
theorem eqvAll_refl : ∀ xs : List D, PyData.canLayAll0 xs = true → PyData.eqvAll xs xs = true
  | [], _ => by simp [PyData.eqvAll]
  | x :: r, h => by
    simp only [PyData.canLayAll0, Bool.and_eq_true] at h
    simp only [PyData.eqvAll, eqv_refl x h.1, eqvAll_refl r h.2, Bool.and_self]
end
theorem eqD_self {d : D} (h : d.canLay0 = true) (hd : d.depth ≤ 60) : eqD d d = some (.bool true) := by simp [eqD, okEq, h, hd, eqv_refl d h]
theorem neD_self {d : D} (h : d.canLay0 = true) (hd : d.depth ≤ 60) : neD d d = some (.bool false) := by simp [neD, okEq, h, hd, eqv_refl d h]
@[simp] theorem eqD_kd (k : Kd) : eqD (.str k.str) (.str "number") = some (.bool false) := by
  rw [eqD_str (by rw [canLay0_str]; exact kd_ok k) ok_number]; simp [PyData.eqv, kd_ne]
@[simp] theorem eqD_num : eqD (.str "number") (.str "number") = some (.bool true) := by
  rw [eqD_str (by rw [canLay0_str]; exact ok_number) ok_number]; simp [PyData.eqv]
theorem eqD_k2 (k : Kd) (s : Str) (hs : PyData.strOk s = true) : eqD (.str k.str) (.str s) = some (.bool (k.str == s)) := by
  rw [eqD_str (by rw [canLay0_str]; exact kd_ok k) hs]; simp [PyData.eqv]
@[simp] theorem pp : (Kd.plus.str == ("plus" : Str)) = true := by decide +kernel
@[simp] theorem lp : (Kd.less.str == ("plus" : Str)) = false := by decide +kernel
@[simp] theorem tp : (Kd.times.str == ("plus" : Str)) = false := by decide +kernel
@[simp] theorem pl : (Kd.plus.str == ("less" : Str)) = false := by decide +kernel
@[simp] theorem ll : (Kd.less.str == ("less" : Str)) = true := by decide +kernel
@[simp] theorem tl : (Kd.times.str == ("less" : Str)) = false := by decide +kernel
@[simp] theorem pt : (Kd.plus.str == ("times" : Str)) = false := by decide +kernel
@[simp] theorem lt' : (Kd.less.str == ("times" : Str)) = false := by decide +kernel
@[simp] theorem tt : (Kd.times.str == ("times" : Str)) = true := by decide +kernel
theorem Tr.worth_le : ∀ t : Tr, t.ok → t.worth.natAbs ≤ 1000 ^ t.leaves
  | .num n, h => by simp only [Tr.worth, Tr.leaves]; simp only [Tr.ok] at h; omega
  | .node k l r, h => by
    have hl := l.worth_le h.1
    have hr := r.worth_le h.2
    have pl : 1000 ≤ 1000 ^ l.leaves := by
      have := l.leaves_pos
      calc 1000 = 1000 ^ 1 := by decide
        _ ≤ 1000 ^ l.leaves := Nat.pow_le_pow_right (by decide) this
    have pr : 1000 ≤ 1000 ^ r.leaves := by
      have := r.leaves_pos
      calc 1000 = 1000 ^ 1 := by decide
        _ ≤ 1000 ^ r.leaves := Nat.pow_le_pow_right (by decide) this
    have hs : 1000 ^ l.leaves + 1000 ^ r.leaves ≤ 1000 ^ (Tr.node k l r).leaves := by
      simp only [Tr.leaves, Nat.pow_add]
      generalize 1000 ^ l.leaves = a at *
      generalize 1000 ^ r.leaves = b at *
      have : a * 2 ≤ a * b := Nat.mul_le_mul_left a (by omega)
      have : 2 * b ≤ a * b := Nat.mul_le_mul_right b (by omega)
      omega
    cases k with
    | plus => simp only [Tr.worth]; omega
    | less => simp only [Tr.worth]; omega
    | times =>
      simp only [Tr.worth, Tr.leaves, Nat.pow_add, Int.natAbs_mul]
      exact Nat.mul_le_mul hl hr
theorem Tr.worth_lt {t : Tr} (h : t.ok) (hl : t.leaves ≤ 16) : t.worth.natAbs < 2 ^ 500 := by
  have h1 := t.worth_le h
  have h2 : 1000 ^ t.leaves ≤ 1000 ^ 16 := Nat.pow_le_pow_right (by decide) hl
  have h3 : (1000 : Nat) ^ 16 < 2 ^ 500 := by decide +kernel
  omega
def part : Tr → List Nat → Option Tr
  | t, [] => some t
  | .num _, _ :: _ => none
  | .node _ l r, c :: cs => if c = 108 then part l cs else if c = 114 then part r cs else none
def partD (t : Tr) (cs : List Nat) : D := match part t cs with
  | some t' => t'.toD
  | none => .none
def valid (cs : List Nat) : Prop := ∀ c ∈ cs, c < 1114112
theorem s_l : ("l" : Str) = ⟨#[108]⟩ := by decide +kernel
theorem s_r : ("r" : Str) = ⟨#[114]⟩ := by decide +kernel
theorem s_lr : ("lr" : Str).cps = #[108, 114] := by decide +kernel
theorem s_e : ("" : Str) = ⟨#[]⟩ := by decide +kernel
theorem eqD_chr {c k : Nat} (hc : c < 1114112) (hk : k < 1114112) : eqD (chr1 c) (.str ⟨#[k]⟩) = some (.bool (decide (c = k))) := by
  simp [eqD, okEq, chr1, PyData.canLay0, PyData.strOk, hc, hk, PyData.depth, PyData.eqv]
  rw [Bool.eq_iff_iff]; simp
theorem eqD_l {c : Nat} (hc : c < 1114112) : eqD (chr1 c) (.str "l") = some (.bool (decide (c = 108))) := by rw [s_l]; exact eqD_chr hc (by decide)
theorem eqD_r {c : Nat} (hc : c < 1114112) : eqD (chr1 c) (.str "r") = some (.bool (decide (c = 114))) := by rw [s_r]; exact eqD_chr hc (by decide)
theorem findD_chr (c : Nat) : findD (.str "lr") (chr1 c) = some (.int (findLR c)) := by simp [findD, chr1, s_lr]
def turn : Tr → List Nat → Tr
  | .num n, _ => .num n
  | .node k l r, [] => .node k r l
  | .node k l r, c :: cs => if c = 108 then .node k (turn l cs) r else .node k l (turn r cs)
theorem cut1 {α : Type} (x : α) (xs : List α) : cut (x :: xs) (some 1) none = xs := by
  simp [cut, clip]
theorem part_turn : ∀ (cs : List Nat) (t : Tr) (k : Kd) (l r : Tr), part t cs = some (.node k l r) → part (turn t cs) cs = some (.node k r l) ∧ turn (turn t cs) cs = t
  | [], t, k, l, r, h => by
    simp only [part, Option.some.injEq] at h
    subst h
    simp [turn, part]
  | c :: cs, .num i, k, l, r, h => by simp [part] at h
  | c :: cs, .node k' a b, k, l, r, h => by
    by_cases e1 : c = 108
    · simp only [part, e1, if_true] at h
      have ih := part_turn cs a k l r h
      simp [turn, part, e1, ih]
    · by_cases e2 : c = 114
      · simp [part, e1, e2] at h
        have ih := part_turn cs b k l r h
        simp [turn, part, e1, e2, ih]
      · simp [part, e1, e2] at h
/-- elsewhere nothing changes -/
theorem part_else : ∀ (cs bs : List Nat) (t : Tr) (k : Kd) (l r : Tr), part t cs = some (.node k l r) → ¬ cs <+: bs → ¬ bs <+: cs → part (turn t cs) bs = part t bs
  | [], bs, _, _, _, _, _, h, _ => absurd (List.nil_prefix) h
  | _ :: _, [], _, _, _, _, _, _, h => absurd (List.nil_prefix) h
  | c :: cs, b :: bs, .num i, k, l, r, h, _, _ => by simp [part] at h
  | c :: cs, b :: bs, .node k' x y, k, l, r, h, h1, h2 => by
    have g1 : c = b → ¬ cs <+: bs := fun e z => h1 (by rw [e]; exact (List.prefix_cons_inj b).mpr z)
    have g2 : c = b → ¬ bs <+: cs := fun e z => h2 (by rw [e]; exact (List.prefix_cons_inj b).mpr z)
    by_cases e1 : c = 108
    · simp only [part, e1, if_true] at h
      by_cases e3 : b = 108
      · have ih := part_else cs bs x k l r h (g1 (by omega)) (g2 (by omega))
        simp [turn, part, e1, e3, ih]
      · simp [turn, part, e1, e3]
    · by_cases e2 : c = 114
      · simp [part, e1, e2] at h
        by_cases e3 : b = 114
        · have ih := part_else cs bs y k l r h (g1 (by omega)) (g2 (by omega))
          simp [turn, part, e1, e2, e3, ih]
        · by_cases e4 : b = 108 <;> simp [turn, part, e1, e2, e3, e4]
      · simp [part, e1, e2] at h
def addrs : Tr → List Nat → List (List Nat)
  | .num _, a => [a]
  | .node _ l r, a => a :: (addrs l (a ++ [108]) ++ addrs r (a ++ [114]))
def strD' (a : List Nat) : D := .str ⟨a.toArray⟩
theorem addrs_len : ∀ (t : Tr) (a : List Nat), (addrs t a).length + 1 = 2 * t.leaves
  | .num _, a => by simp [addrs, Tr.leaves]
  | .node _ l r, a => by
    have := addrs_len l (a ++ [108]); have := addrs_len r (a ++ [114])
    simp only [addrs, Tr.leaves, List.length_cons, List.length_append]; omega
theorem addrs_form : ∀ (t : Tr) (a b : List Nat), b ∈ addrs t a → ∃ c, b = a ++ c ∧ c.length ≤ t.dep ∧ (∀ x ∈ c, x = 108 ∨ x = 114) ∧ (part t c).isSome
  | .num _, a, b, h => by
    simp only [addrs, List.mem_singleton] at h
    exact ⟨[], by simp [h], by simp, by simp, by simp [part]⟩
  | .node _ l r, a, b, h => by
    simp only [addrs, List.mem_cons, List.mem_append] at h
    rcases h with rfl | h | h
    · exact ⟨[], by simp, by simp, by simp, by simp [part]⟩
    · obtain ⟨c, e, h1, h2, h3⟩ := addrs_form l _ b h
      refine ⟨108 :: c, by simp [e], by simp only [List.length_cons, Tr.dep]; omega, ?_, by simpa [part] using h3⟩
      intro x hx
      rcases List.mem_cons.mp hx with rfl | hx
      · exact .inl rfl
      · exact h2 x hx
    · obtain ⟨c, e, h1, h2, h3⟩ := addrs_form r _ b h
      refine ⟨114 :: c, by simp [e], by simp only [List.length_cons, Tr.dep]; omega, ?_, by simpa [part] using h3⟩
      intro x hx
      rcases List.mem_cons.mp hx with rfl | hx
      · exact .inr rfl
      · exact h2 x hx
theorem app_l (a : List Nat) : (⟨a.toArray⟩ : Str) ++ ("l" : Str) = ⟨(a ++ [108]).toArray⟩ := by
  rw [s_l]; show Str.append _ _ = _; simp [Str.append]
theorem app_r (a : List Nat) : (⟨a.toArray⟩ : Str) ++ ("r" : Str) = ⟨(a ++ [114]).toArray⟩ := by
  rw [s_r]; show Str.append _ _ = _; simp [Str.append]
theorem len_l : ("l" : Str).length = 1 := by decide +kernel
theorem len_r : ("r" : Str).length = 1 := by decide +kernel
theorem addD_list {xs ys : List D} (h : xs.length + ys.length ≤ 1000) : addD (.list xs) (.list ys) = some (.list (xs ++ ys)) := by simp [addD, h]
theorem addD_tup {xs ys : List D} (h : xs.length + ys.length ≤ 1000) : addD (.tuple xs) (.tuple ys) = some (.tuple (xs ++ ys)) := by simp [addD, h]
def drawn (num k : Int) : Int :=
  let d := (num + 104729 * k + 17) * 69621 % 2147483647
  (d * d + 3 * d + k) % 2147483629
theorem okMul_r (i j : Int) (h : j.natAbs < 18446744073709551616) : okMul i j = true := by simp [okMul, h]
theorem okMul_l (i j : Int) (h : i.natAbs < 18446744073709551616) : okMul i j = true := by simp [okMul, h]
def cell (xs : List Int) (k : Nat) : Int := xs.getD k 0
def mixed (xs : List Int) (k : Nat) : Int :=
  let d := (cell xs k + 7919 * k + 1) * 48271 % 2147483647
  (d * d + 7 * d + k) % 2147483629
theorem mixed_nonneg (xs : List Int) (k : Nat) : 0 ≤ mixed xs k := by unfold mixed; exact Int.emod_nonneg _ (by decide)
theorem half_cases (i : Int) : i % 2 = 0 ∨ i % 2 = 1 := by omega
theorem at_three {x y z : D} {i : Int} (h : i = 0 ∨ i = 1 ∨ i = 2) : at? [x, y, z] i = some (if i = 0 then x else if i = 1 then y else z) := by
  rcases h with rfl | rfl | rfl <;> rfl
def kdOf (i : Int) : Kd := if i = 0 then .plus else if i = 1 then .less else .times
theorem at_mem {α : Type} {xs : List α} {i : Int} (h0 : 0 ≤ i) (h1 : i < xs.length) : ∃ x, x ∈ xs ∧ at? xs i = some x := by
  have h : i.toNat < xs.length := by omega
  refine ⟨xs[i.toNat], List.getElem_mem h, ?_⟩
  simp [at?, h0, h]
def fine (k : Nat) (d : D) : Bool := d.canLay0 && decide (d.depth ≤ k)
theorem fine_iff {k : Nat} {d : D} : fine k d = true ↔ d.canLay0 = true ∧ d.depth ≤ k := by simp [fine]
theorem fine_mono {j k : Nat} {d : D} (h : fine j d = true) (hk : j ≤ k) : fine k d = true := by
  simp only [fine, Bool.and_eq_true, decide_eq_true_eq] at h ⊢
  exact ⟨h.1, by omega⟩
theorem depthAll_le {xs : List D} {k : Nat} (h : ∀ x ∈ xs, x.depth ≤ k) : PyData.depthAll xs ≤ k := by
  induction xs with
  | nil => simp [PyData.depthAll]
  | cons a r ih =>
    simp only [PyData.depthAll]
    have := h a (List.mem_cons_self ..)
    have := ih fun x hx => h x (List.mem_cons_of_mem _ hx)
    omega
theorem le_depthAll {xs : List D} {x : D} (h : x ∈ xs) : x.depth ≤ PyData.depthAll xs := by
  induction xs with
  | nil => cases h
  | cons a r ih =>
    simp only [PyData.depthAll]
    rcases List.mem_cons.mp h with rfl | h
    · omega
    · have := ih h; omega
theorem layAll_of {xs : List D} (h : ∀ x ∈ xs, x.canLay0 = true) : PyData.canLayAll0 xs = true := by
  induction xs with
  | nil => simp [PyData.canLayAll0]
  | cons a r ih =>
    simp only [PyData.canLayAll0, Bool.and_eq_true]
    exact ⟨h a (List.mem_cons_self ..), ih fun x hx => h x (List.mem_cons_of_mem _ hx)⟩
/-- a tuple or list of fine things -/
theorem fine_tup {xs : List D} {k : Nat} (h : ∀ x ∈ xs, fine k x = true) : fine (k + 1) (.tuple xs) = true := by
  rw [fine_iff]
  simp only [PyData.canLay0, PyData.depth]
  exact ⟨layAll_of fun x hx => (fine_iff.mp (h x hx)).1, Nat.succ_le_succ (depthAll_le fun x hx => (fine_iff.mp (h x hx)).2)⟩
theorem fine_lst {xs : List D} {k : Nat} (h : ∀ x ∈ xs, fine k x = true) : fine (k + 1) (.list xs) = true := by
  rw [fine_iff]
  simp only [PyData.canLay0, PyData.depth]
  exact ⟨layAll_of fun x hx => (fine_iff.mp (h x hx)).1, Nat.succ_le_succ (depthAll_le fun x hx => (fine_iff.mp (h x hx)).2)⟩
theorem of_fine_tup {xs : List D} {k : Nat} (h : fine (k + 1) (.tuple xs) = true) : ∀ x ∈ xs, fine k x = true := by
  rw [fine_iff] at h
  simp only [PyData.canLay0, PyData.depth] at h
  intro x hx
  rw [fine_iff]
  have := le_depthAll hx
  exact ⟨canLayAll0_mem h.1 x hx, by omega⟩
theorem cut_mem {α : Type} {xs : List α} {lo hi : Option Int} {x : α} (h : x ∈ cut xs lo hi) : x ∈ xs := List.mem_of_mem_drop (List.mem_of_mem_take h)
theorem cut_len {α : Type} (xs : List α) (lo hi : Option Int) : (cut xs lo hi).length ≤ xs.length := by
  simp only [cut, List.length_take, List.length_drop]; omega
theorem fine_str (s : Str) (h : PyData.strOk s = true) : fine 0 (.str s) = true := by simp [fine, canLay0_str, h, PyData.depth]
theorem seq_of {a b : FS} {ρ ρ' : En} {r : Option Out} (h1 : a ρ = some (.nx ρ')) (h2 : b ρ' = r) : sSeq a b ρ = r := by simp [h1, h2]
theorem seq_rt {a b : FS} {ρ : En} {d : D} (h1 : a ρ = some (.rt d)) : sSeq a b ρ = some (.rt d) := by simp [h1]
theorem valid_lr {cs : List Nat} (h : ∀ x ∈ cs, x = 108 ∨ x = 114) : valid cs := fun c hc => by rcases h c hc with rfl | rfl <;> decide
theorem partD_fine (t : Tr) (cs : List Nat) (ht : t.leaves ≤ 16) : fine 20 (partD t cs) = true := by
  have key : ∀ (cs : List Nat) (t t' : Tr), part t cs = some t' → t'.dep ≤ t.dep := by
    intro cs
    induction cs with
    | nil => intro t t' h; simp only [part, Option.some.injEq] at h; rw [h]; omega
    | cons c cs ih =>
      intro t t' h
      cases t with
      | num _ => simp [part] at h
      | node k l r =>
        simp only [part] at h
        simp only [Tr.dep]
        split at h
        · have := ih _ _ h; omega
        · split at h
          · have := ih _ _ h; omega
          · cases h
  unfold partD
  split
  · rename_i t' h
    have h1 := key _ _ _ h
    have h2 := t.dep_lt
    rw [fine_iff]
    exact ⟨t'.lay, by rw [t'.depth_eq]; omega⟩
  · decide
theorem neD_fine {d : D} (h : fine 60 d = true) : neD d d = some (.bool false) := neD_self (fine_iff.mp h).1 (fine_iff.mp h).2
theorem neD_bool (a b : Bool) : neD (.bool a) (.bool b) = some (.bool (!(a == b))) := by
  simp [neD, okEq, PyData.canLay0, PyData.eqv, PyData.depth]
theorem compGo_filter (t : FT) (caps : En) (p : D → Bool) : ∀ xs : List D, (∀ x ∈ xs, t (some x :: caps) = some (p x)) → compGo t (eVar 0) caps xs = some (xs.filter p)
  | [], _ => rfl
  | x :: r, h => by
    have h1 := h x (List.mem_cons_self ..)
    have ih := compGo_filter t caps p r fun y hy => h y (List.mem_cons_of_mem _ hy)
    simp only [compGo, h1, ih, Option.bind_some]
    cases hp : p x <;> simp [List.filter_cons, hp]
theorem sw_iff (a b : List Nat) : swS ⟨a.toArray⟩ ⟨b.toArray⟩ = decide (b <+: a) := by
  rw [Bool.eq_iff_iff]
  simp only [swS, Bool.and_eq_true, decide_eq_true_eq, beq_iff_eq, Str.length, List.size_toArray, Nat.zero_add, List.extract_toArray, List.extract_eq_drop_take, List.drop_zero, Nat.sub_zero]
  constructor
  · rintro ⟨h1, h2⟩
    have h2' : List.take b.length a = b := by simpa using h2
    have h3 := List.take_append_drop b.length a
    rw [h2'] at h3
    exact ⟨List.drop b.length a, h3⟩
  · rintro ⟨c, rfl⟩
    simp
theorem app_str (a b : List Nat) : (⟨a.toArray⟩ : Str) ++ (⟨b.toArray⟩ : Str) = ⟨(a ++ b).toArray⟩ := by
  show Str.append _ _ = _; simp [Str.append]
theorem addD_strs {a b : List Nat} (h : a.length + b.length ≤ 1000) : addD (strD' a) (strD' b) = some (strD' (a ++ b)) := by
  simp only [strD', addD, app_str]; rw [if_pos (by simpa [Str.length] using h)]
theorem filter_none : ∀ ys : List D, ys.filter (fun _ => false) = []
  | [] => rfl
  | _ :: r => by simp only [List.filter_cons, Bool.false_eq_true, if_false]; exact filter_none r
end FD
end
section
set_option Elab.async false
set_option linter.all false
set_option maxHeartbeats 1000000
namespace FD
open PySem
inductive Deed where
  | put (p : Int) (a : List Nat) | join (p : Int) (a : List Nat) (o s : Int) | shelve (pl pn : Int) | fetch (pn pl : Int)
  deriving DecidableEq
def Deed.toD : Deed → D
  | .put p a => .tuple [.str "put", .int p, strD' a]
  | .join p a o s => .tuple [.str "join", .int p, strD' a, .int o, .int s]
  | .shelve p q => .tuple [.str "shelve", .int p, .int q]
  | .fetch p q => .tuple [.str "fetch", .int p, .int q]
def okA (a : List Nat) : Prop := valid a ∧ a.length ≤ 200
def Deed.ok : Deed → Prop
  | .put _ a => okA a
  | .join _ a _ _ => okA a
  | _ => True
abbrev Row := List (Option (List Nat))
def held (row : Row) (k : Int) : Option (List Nat) := if 0 ≤ k ∧ k < row.length then (row[k.toNat]?).join else none
def Deed.at : Deed → Int
  | .put p _ => p
  | .join p _ _ _ => p
  | .shelve p _ => p
  | .fetch p _ => p
end FD
end
section
set_option Elab.async false
set_option linter.all false
set_option maxHeartbeats 1000000
namespace FD
open PySem
def idxN (a : List Nat) : List (List Nat) → Nat
  | [] => 0
  | b :: r => if b = a then 0 else idxN a r + 1
end FD
end
section
set_option Elab.async false
set_option linter.all false
set_option maxHeartbeats 1000000
namespace FD
open PySem
end FD
end
section
set_option Elab.async false
set_option linter.all false
set_option maxHeartbeats 1000000
namespace FD
open PySem
end FD
end
section
set_option Elab.async false
set_option linter.all false
set_option maxHeartbeats 1000000
namespace FD
open PySem
end FD
end
section
set_option Elab.async false
set_option linter.all false
set_option maxHeartbeats 1000000
namespace FD
open PySem
def place (num : Int) (every : List (List Nat)) (b : List Nat) : Int := ((idxN b every : Nat) + num / 4096) % 41
end FD
end
section
set_option Elab.async false
set_option linter.all false
set_option maxHeartbeats 1000000
namespace FD
open PySem
@[simp] theorem at_3 {α : Type} (x y z u : α) (xs : List α) : at? (x :: y :: z :: u :: xs) 3 = some u := rfl
@[simp] theorem at_4 {α : Type} (x y z u v : α) (xs : List α) : at? (x :: y :: z :: u :: v :: xs) 4 = some v := rfl
end FD
end
section
set_option Elab.async false
set_option linter.all false
set_option maxHeartbeats 1000000
namespace FD
open PySem
end FD
end
section
set_option Elab.async false
set_option linter.all false
set_option maxHeartbeats 1000000
namespace FD
open PySem
inductive FTr where
  | leaf (a : List Nat) | node (a : List Nat) (l r : FTr)
def FTr.toD : FTr → D
  | .leaf a => .tuple [strD' a]
  | .node a l r => .tuple [strD' a, l.toD, r.toD]
/-- all numbers of the deed lie within 0 .. 40 -/
def Deed.num : Deed → Prop
  | .put p _ => 0 ≤ p ∧ p ≤ 40
  | .join p _ o s => (0 ≤ p ∧ p ≤ 40) ∧ (0 ≤ o ∧ o ≤ 40) ∧ (0 ≤ s ∧ s ≤ 40)
  | .shelve p q => (0 ≤ p ∧ p ≤ 40) ∧ (0 ≤ q ∧ q ≤ 40)
  | .fetch p q => (0 ≤ p ∧ p ≤ 40) ∧ (0 ≤ q ∧ q ≤ 40)
end FD
end
section
set_option Elab.async false
set_option linter.all false
set_option maxHeartbeats 1000000
namespace FD
open PySem
end FD
end
section
set_option Elab.async false
set_option linter.all false
set_option maxHeartbeats 1000000
namespace FD
open PySem
end FD
end
section
set_option Elab.async false
set_option linter.all false
set_option maxHeartbeats 1000000
namespace FD
open PySem
end FD
end
section
set_option Elab.async false
set_option linter.all false
set_option maxRecDepth 100000
set_option maxHeartbeats 4000000
namespace FD
open PySem
def c_JOIN_KINDS : D := (.tuple [(.str "plus"), (.str "less"), (.str "times")])
def c_GREATEST_NUMBER : D := (.int 1000)
def c_MOST_NUMBERS : D := (.int 16)
def f_is_whole : FS :=
  (sRet (eAnd (eUn (isiD .int) (eVar 0)) (eNot (eUn (isiD .bool) (eVar 0)))))
def F_is_whole : Nat → List D → Option D
  | 0, _ => none
  | n + 1, ds => bodyF 1 1 (f_is_whole ) ds
theorem e_is_whole (n : Nat) (ds : List D) : F_is_whole (n + 1) ds = bodyF 1 1 (f_is_whole ) ds := rfl
def f_is_number (c_is_whole : List D → Option D) : FS :=
  (sSeq (sIf (tOr (tNot (tVal (eUn (isiD .tup) (eVar 0)))) (tOr (tVal (eBin neD (eCall lenD (aCons (eVar 0) aNil)) (eC (.int 2)))) (tVal (eBin neD (eBin ixD (eVar 0) (eC (.int 0))) (eC (.str "number")))))) (sRet (eC (.bool false))) sNil) (sRet (eAnd (eCall c_is_whole (aCons (eBin ixD (eVar 0) (eC (.int 1))) aNil)) (eBin leD (eCall absD (aCons (eBin ixD (eVar 0) (eC (.int 1))) aNil)) (eC c_GREATEST_NUMBER)))))
def F_is_number : Nat → List D → Option D
  | 0, _ => none
  | n + 1, ds => bodyF 1 1 (f_is_number (F_is_whole n)) ds
theorem e_is_number (n : Nat) (ds : List D) : F_is_number (n + 1) ds = bodyF 1 1 (f_is_number (F_is_whole n)) ds := rfl
def f_has_join_form : FS :=
  (sRet (eAnd (eUn (isiD .tup) (eVar 0)) (eAnd (eBin eqD (eCall lenD (aCons (eVar 0) aNil)) (eC (.int 3))) (eBin inD (eBin ixD (eVar 0) (eC (.int 0))) (eC c_JOIN_KINDS)))))
def F_has_join_form : Nat → List D → Option D
  | 0, _ => none
  | n + 1, ds => bodyF 1 1 (f_has_join_form ) ds
theorem e_has_join_form (n : Nat) (ds : List D) : F_has_join_form (n + 1) ds = bodyF 1 1 (f_has_join_form ) ds := rfl
def f_count_numbers (c_is_number : List D → Option D) (c_has_join_form : List D → Option D) (c_count_numbers : List D → Option D) : FS :=
  (sSeq (sIf (tVal (eBin ltD (eVar 1) (eC (.int 1)))) (sRet (eC .none)) sNil) (sSeq (sIf (tVal (eCall c_is_number (aCons (eVar 0) aNil))) (sRet (eC (.int 1))) sNil) (sSeq (sIf (tNot (tVal (eCall c_has_join_form (aCons (eVar 0) aNil)))) (sRet (eC .none)) sNil) (sSeq (sSet 2 (eCall c_count_numbers (aCons (eBin ixD (eVar 0) (eC (.int 1))) (aCons (eBin subD (eVar 1) (eC (.int 1))) aNil)))) (sSeq (sIf (tVal (eUn isND (eVar 2))) (sRet (eC .none)) sNil) (sSeq (sSet 3 (eCall c_count_numbers (aCons (eBin ixD (eVar 0) (eC (.int 2))) (aCons (eBin subD (eVar 1) (eVar 2)) aNil)))) (sSeq (sIf (tVal (eUn isND (eVar 3))) (sRet (eC .none)) sNil) (sRet (eBin addD (eVar 2) (eVar 3))))))))))
def F_count_numbers : Nat → List D → Option D
  | 0, _ => none
  | n + 1, ds => bodyF 4 2 (f_count_numbers (F_is_number n) (F_has_join_form n) (F_count_numbers n)) ds
theorem e_count_numbers (n : Nat) (ds : List D) : F_count_numbers (n + 1) ds = bodyF 4 2 (f_count_numbers (F_is_number n) (F_has_join_form n) (F_count_numbers n)) ds := rfl
def f_is_tree (c_count_numbers : List D → Option D) : FS :=
  (sRet (eUn notND (eCall c_count_numbers (aCons (eVar 0) (aCons (eC c_MOST_NUMBERS) aNil)))))
def F_is_tree : Nat → List D → Option D
  | 0, _ => none
  | n + 1, ds => bodyF 1 1 (f_is_tree (F_count_numbers n)) ds
theorem e_is_tree (n : Nat) (ds : List D) : F_is_tree (n + 1) ds = bodyF 1 1 (f_is_tree (F_count_numbers n)) ds := rfl
def f_joined_worth : FS :=
  (sSeq (sIf (tVal (eBin eqD (eVar 0) (eC (.str "plus")))) (sRet (eBin addD (eVar 1) (eVar 2))) sNil) (sSeq (sIf (tVal (eBin eqD (eVar 0) (eC (.str "less")))) (sRet (eBin subD (eVar 1) (eVar 2))) sNil) (sRet (eBin mulD (eVar 1) (eVar 2)))))
def F_joined_worth : Nat → List D → Option D
  | 0, _ => none
  | n + 1, ds => bodyF 3 3 (f_joined_worth ) ds
theorem e_joined_worth (n : Nat) (ds : List D) : F_joined_worth (n + 1) ds = bodyF 3 3 (f_joined_worth ) ds := rfl
def f_worth (c_worth : List D → Option D) (c_joined_worth : List D → Option D) : FS :=
  (sSeq (sIf (tVal (eBin eqD (eBin ixD (eVar 0) (eC (.int 0))) (eC (.str "number")))) (sRet (eBin ixD (eVar 0) (eC (.int 1)))) sNil) (sRet (eCall c_joined_worth (aCons (eBin ixD (eVar 0) (eC (.int 0))) (aCons (eCall c_worth (aCons (eBin ixD (eVar 0) (eC (.int 1))) aNil)) (aCons (eCall c_worth (aCons (eBin ixD (eVar 0) (eC (.int 2))) aNil)) aNil))))))
def F_worth : Nat → List D → Option D
  | 0, _ => none
  | n + 1, ds => bodyF 1 1 (f_worth (F_worth n) (F_joined_worth n)) ds
theorem e_worth (n : Nat) (ds : List D) : F_worth (n + 1) ds = bodyF 1 1 (f_worth (F_worth n) (F_joined_worth n)) ds := rfl
def f_part_at : FS :=
  (sSeq (sSet 2 (eVar 0)) (sSeq (sForStr 3 (eVar 1) (sSeq (sIf (tVal (eBin eqD (eBin ixD (eVar 2) (eC (.int 0))) (eC (.str "number")))) (sRet (eC .none)) sNil) (sIf (tVal (eBin eqD (eVar 3) (eC (.str "l")))) (sSet 2 (eBin ixD (eVar 2) (eC (.int 1)))) (sIf (tVal (eBin eqD (eVar 3) (eC (.str "r")))) (sSet 2 (eBin ixD (eVar 2) (eC (.int 2)))) (sRet (eC .none)))))) (sRet (eVar 2))))
def F_part_at : Nat → List D → Option D
  | 0, _ => none
  | n + 1, ds => bodyF 4 2 (f_part_at ) ds
theorem e_part_at (n : Nat) (ds : List D) : F_part_at (n + 1) ds = bodyF 4 2 (f_part_at ) ds := rfl
def f_turned (c_turned : List D → Option D) : FS :=
  (sSeq (sIf (tVal (eBin eqD (eVar 1) (eC (.str "")))) (sRet (eTup (aCons (eBin ixD (eVar 0) (eC (.int 0))) (aCons (eBin ixD (eVar 0) (eC (.int 2))) (aCons (eBin ixD (eVar 0) (eC (.int 1))) aNil))))) sNil) (sSeq (sSet 2 (eSlice (eVar 1) (oSome (eC (.int 1))) oNone)) (sSeq (sIf (tVal (eBin eqD (eBin ixD (eVar 1) (eC (.int 0))) (eC (.str "l")))) (sRet (eTup (aCons (eBin ixD (eVar 0) (eC (.int 0))) (aCons (eCall c_turned (aCons (eBin ixD (eVar 0) (eC (.int 1))) (aCons (eVar 2) aNil))) (aCons (eBin ixD (eVar 0) (eC (.int 2))) aNil))))) sNil) (sRet (eTup (aCons (eBin ixD (eVar 0) (eC (.int 0))) (aCons (eBin ixD (eVar 0) (eC (.int 1))) (aCons (eCall c_turned (aCons (eBin ixD (eVar 0) (eC (.int 2))) (aCons (eVar 2) aNil))) aNil))))))))
def F_turned : Nat → List D → Option D
  | 0, _ => none
  | n + 1, ds => bodyF 3 2 (f_turned (F_turned n)) ds
theorem e_turned (n : Nat) (ds : List D) : F_turned (n + 1) ds = bodyF 3 2 (f_turned (F_turned n)) ds := rfl
def f__law_cell_at : FS :=
  (sSeq (sIf (tVal (eBin ltD (eVar 1) (eCall lenD (aCons (eVar 0) aNil)))) (sRet (eBin ixD (eVar 0) (eVar 1))) sNil) (sRet (eC (.int 0))))
def F__law_cell_at : Nat → List D → Option D
  | 0, _ => none
  | n + 1, ds => bodyF 2 2 (f__law_cell_at ) ds
theorem e__law_cell_at (n : Nat) (ds : List D) : F__law_cell_at (n + 1) ds = bodyF 2 2 (f__law_cell_at ) ds := rfl
def f__law_mixed (c__law_cell_at : List D → Option D) : FS :=
  (sSeq (sSet 2 (eBin modD (eBin mulD (eBin addD (eBin addD (eCall c__law_cell_at (aCons (eVar 0) (aCons (eVar 1) aNil))) (eBin mulD (eC (.int 7919)) (eVar 1))) (eC (.int 1))) (eC (.int 48271))) (eC (.int 2147483647)))) (sRet (eBin modD (eBin addD (eBin addD (eBin mulD (eVar 2) (eVar 2)) (eBin mulD (eC (.int 7)) (eVar 2))) (eVar 1)) (eC (.int 2147483629)))))
def F__law_mixed : Nat → List D → Option D
  | 0, _ => none
  | n + 1, ds => bodyF 3 2 (f__law_mixed (F__law_cell_at n)) ds
theorem e__law_mixed (n : Nat) (ds : List D) : F__law_mixed (n + 1) ds = bodyF 3 2 (f__law_mixed (F__law_cell_at n)) ds := rfl
def f__law_drawn : FS :=
  (sSeq (sSet 2 (eBin modD (eBin mulD (eBin addD (eBin addD (eVar 0) (eBin mulD (eC (.int 104729)) (eVar 1))) (eC (.int 17))) (eC (.int 69621))) (eC (.int 2147483647)))) (sRet (eBin modD (eBin addD (eBin addD (eBin mulD (eVar 2) (eVar 2)) (eBin mulD (eC (.int 3)) (eVar 2))) (eVar 1)) (eC (.int 2147483629)))))
def F__law_drawn : Nat → List D → Option D
  | 0, _ => none
  | n + 1, ds => bodyF 3 2 (f__law_drawn ) ds
theorem e__law_drawn (n : Nat) (ds : List D) : F__law_drawn (n + 1) ds = bodyF 3 2 (f__law_drawn ) ds := rfl
def f__law_tree (c__law_drawn : List D → Option D) (c__law_tree : List D → Option D) : FS :=
  (sSeq (sIf (tVal (eBin eqD (eVar 1) (eC (.int 1)))) (sRet (eTup (aCons (eC (.str "number")) (aCons (eBin subD (eBin modD (eBin fdivD (eCall c__law_drawn (aCons (eVar 0) (aCons (eC (.int 1)) aNil))) (eC (.int 8))) (eBin ixD (eTup (aCons (eC (.int 21)) (aCons (eC (.int 2001)) aNil))) (eBin modD (eBin fdivD (eVar 0) (eC (.int 16))) (eC (.int 2))))) (eBin ixD (eTup (aCons (eC (.int 10)) (aCons (eC (.int 1000)) aNil))) (eBin modD (eBin fdivD (eVar 0) (eC (.int 16))) (eC (.int 2))))) aNil)))) sNil) (sSeq (sSet 3 (eBin addD (eC (.int 1)) (eBin modD (eBin fdivD (eVar 0) (eC (.int 8))) (eBin subD (eVar 1) (eC (.int 1)))))) (sSeq (sIf (tOr (tVal (eBin eqD (eVar 2) (eC (.int 1)))) (tAnd (tVal (eBin eqD (eVar 2) (eC (.int 2)))) (tVal (eBin eqD (eBin modD (eVar 0) (eC (.int 2))) (eC (.int 1)))))) (sSet 3 (eBin fdivD (eVar 1) (eC (.int 2)))) sNil) (sSeq (sIf (tVal (eBin eqD (eVar 2) (eC (.int 3)))) (sSet 3 (eBin ixD (eLst (aCons (eC (.int 1)) (aCons (eBin subD (eVar 1) (eC (.int 1))) aNil))) (eBin modD (eBin fdivD (eVar 0) (eC (.int 8))) (eC (.int 2))))) sNil) (sSeq (sSet 4 (eCall c__law_tree (aCons (eCall c__law_drawn (aCons (eVar 0) (aCons (eC (.int 2)) aNil))) (aCons (eVar 3) (aCons (eVar 2) aNil))))) (sSeq (sSet 5 (eCall c__law_tree (aCons (eCall c__law_drawn (aCons (eVar 0) (aCons (eC (.int 3)) aNil))) (aCons (eBin subD (eVar 1) (eVar 3)) (aCons (eVar 2) aNil))))) (sRet (eTup (aCons (eBin ixD (eTup (aCons (eC (.str "plus")) (aCons (eC (.str "less")) (aCons (eC (.str "times")) aNil)))) (eBin modD (eBin fdivD (eVar 0) (eC (.int 4))) (eC (.int 3)))) (aCons (eVar 4) (aCons (eVar 5) aNil)))))))))))
def F__law_tree : Nat → List D → Option D
  | 0, _ => none
  | n + 1, ds => bodyF 6 3 (f__law_tree (F__law_drawn n) (F__law_tree n)) ds
theorem e__law_tree (n : Nat) (ds : List D) : F__law_tree (n + 1) ds = bodyF 6 3 (f__law_tree (F__law_drawn n) (F__law_tree n)) ds := rfl
def f__law_drawn_tree (c__law_tree : List D → Option D) : FS :=
  (sRet (eCall c__law_tree (aCons (eBin fdivD (eVar 0) (eC (.int 64))) (aCons (eBin ixD (eTup (aCons (eC (.int 16)) (aCons (eC (.int 8)) (aCons (eC (.int 4)) (aCons (eBin addD (eC (.int 1)) (eBin modD (eBin fdivD (eVar 0) (eC (.int 64))) (eC (.int 16)))) aNil))))) (eBin modD (eBin fdivD (eVar 0) (eC (.int 4))) (eC (.int 4)))) (aCons (eBin modD (eVar 0) (eC (.int 4))) aNil)))))
def F__law_drawn_tree : Nat → List D → Option D
  | 0, _ => none
  | n + 1, ds => bodyF 1 1 (f__law_drawn_tree (F__law_tree n)) ds
theorem e__law_drawn_tree (n : Nat) (ds : List D) : F__law_drawn_tree (n + 1) ds = bodyF 1 1 (f__law_drawn_tree (F__law_tree n)) ds := rfl
def f__law_part : FS :=
  (sSeq (sSet 2 (eVar 0)) (sSeq (sForStr 3 (eVar 1) (sSeq (sIf (tOr (tVal (eBin eqD (eBin ixD (eVar 2) (eC (.int 0))) (eC (.str "number")))) (tVal (eBin ltD (eBin findD (eC (.str "lr")) (eVar 3)) (eC (.int 0))))) (sRet (eC .none)) sNil) (sSet 2 (eBin ixD (eVar 2) (eBin addD (eBin findD (eC (.str "lr")) (eVar 3)) (eC (.int 1))))))) (sRet (eVar 2))))
def F__law_part : Nat → List D → Option D
  | 0, _ => none
  | n + 1, ds => bodyF 4 2 (f__law_part ) ds
theorem e__law_part (n : Nat) (ds : List D) : F__law_part (n + 1) ds = bodyF 4 2 (f__law_part ) ds := rfl
def f__law_addresses (c__law_addresses : List D → Option D) : FS :=
  (sSeq (sIf (tVal (eBin eqD (eBin ixD (eVar 0) (eC (.int 0))) (eC (.str "number")))) (sRet (eLst (aCons (eVar 1) aNil))) sNil) (sRet (eBin addD (eBin addD (eLst (aCons (eVar 1) aNil)) (eCall c__law_addresses (aCons (eBin ixD (eVar 0) (eC (.int 1))) (aCons (eBin addD (eVar 1) (eC (.str "l"))) aNil)))) (eCall c__law_addresses (aCons (eBin ixD (eVar 0) (eC (.int 2))) (aCons (eBin addD (eVar 1) (eC (.str "r"))) aNil))))))
def F__law_addresses : Nat → List D → Option D
  | 0, _ => none
  | n + 1, ds => bodyF 2 2 (f__law_addresses (F__law_addresses n)) ds
theorem e__law_addresses (n : Nat) (ds : List D) : F__law_addresses (n + 1) ds = bodyF 2 2 (f__law_addresses (F__law_addresses n)) ds := rfl
def f__law_worth (c__law_worth : List D → Option D) : FS :=
  (sSeq (sIf (tVal (eBin eqD (eBin ixD (eVar 0) (eC (.int 0))) (eC (.str "number")))) (sRet (eBin ixD (eVar 0) (eC (.int 1)))) sNil) (sSeq (sSet 1 (eCall c__law_worth (aCons (eBin ixD (eVar 0) (eC (.int 1))) aNil))) (sSeq (sSet 2 (eCall c__law_worth (aCons (eBin ixD (eVar 0) (eC (.int 2))) aNil))) (sSeq (sIf (tVal (eBin eqD (eBin ixD (eVar 0) (eC (.int 0))) (eC (.str "times")))) (sRet (eBin mulD (eVar 1) (eVar 2))) sNil) (sRet (eBin addD (eVar 1) (eBin ixD (eLst (aCons (eVar 2) (aCons (eUn negD (eVar 2)) aNil))) (eCall intD (aCons (eBin eqD (eBin ixD (eVar 0) (eC (.int 0))) (eC (.str "less"))) aNil)))))))))
def F__law_worth : Nat → List D → Option D
  | 0, _ => none
  | n + 1, ds => bodyF 3 1 (f__law_worth (F__law_worth n)) ds
theorem e__law_worth (n : Nat) (ds : List D) : F__law_worth (n + 1) ds = bodyF 3 1 (f__law_worth (F__law_worth n)) ds := rfl
def f__law_count (c__law_count : List D → Option D) : FS :=
  (sSeq (sIf (tOr (tNot (tVal (eUn (isiD .tup) (eVar 0)))) (tOr (tVal (eBin eqD (eCall lenD (aCons (eVar 0) aNil)) (eC (.int 0)))) (tNot (tVal (eUn (isiD .str) (eBin ixD (eVar 0) (eC (.int 0)))))))) (sRet (eC (.int 99))) sNil) (sSeq (sIf (tVal (eBin eqD (eBin ixD (eVar 0) (eC (.int 0))) (eC (.str "number")))) (sSeq (sIf (tOr (tVal (eBin neD (eCall lenD (aCons (eVar 0) aNil)) (eC (.int 2)))) (tOr (tNot (tVal (eUn (isiD .int) (eBin ixD (eVar 0) (eC (.int 1)))))) (tVal (eUn (isiD .bool) (eBin ixD (eVar 0) (eC (.int 1))))))) (sRet (eC (.int 99))) sNil) (sRet (eBin ixD (eLst (aCons (eC (.int 99)) (aCons (eC (.int 1)) aNil))) (eCall intD (aCons (eBin leD (eCall absD (aCons (eBin ixD (eVar 0) (eC (.int 1))) aNil)) (eC (.int 1000))) aNil))))) sNil) (sSeq (sIf (tOr (tVal (eBin notInD (eBin ixD (eVar 0) (eC (.int 0))) (eTup (aCons (eC (.str "plus")) (aCons (eC (.str "less")) (aCons (eC (.str "times")) aNil)))))) (tVal (eBin neD (eCall lenD (aCons (eVar 0) aNil)) (eC (.int 3))))) (sRet (eC (.int 99))) sNil) (sRet (eBin addD (eCall c__law_count (aCons (eBin ixD (eVar 0) (eC (.int 1))) aNil)) (eCall c__law_count (aCons (eBin ixD (eVar 0) (eC (.int 2))) aNil)))))))
def F__law_count : Nat → List D → Option D
  | 0, _ => none
  | n + 1, ds => bodyF 1 1 (f__law_count (F__law_count n)) ds
theorem e__law_count (n : Nat) (ds : List D) : F__law_count (n + 1) ds = bodyF 1 1 (f__law_count (F__law_count n)) ds := rfl
def f__law_odd : FS :=
  (sSeq (sSet 1 (eLst (aCons (eUn negD (eC (.int 1))) (aCons (eC (.int 0)) (aCons (eC (.int 1000)) (aCons (eC (.int 1001)) (aCons (eC (.bool true)) (aCons (eC .none) (aCons (eC (.str "")) (aCons (eC (.str "number")) (aCons (eC (.str "plus")) (aCons (eTup aNil) (aCons (eLst aNil) (aCons (eTup (aCons (eC (.str "number")) (aCons (eC (.int 1)) aNil))) (aCons (eTup (aCons (eC (.str "number")) aNil)) (aCons (eTup (aCons (eC (.str "number")) (aCons (eC (.bool true)) aNil))) aNil)))))))))))))))) (sSeq (sSet 1 (eBin addD (eVar 1) (eLst (aCons (eTup (aCons (eC (.str "plus")) (aCons (eTup (aCons (eC (.str "number")) (aCons (eC (.int 1)) aNil))) aNil))) (aCons (eTup (aCons (eC (.str "number")) (aCons (eC (.int 1001)) aNil))) (aCons (eTup (aCons (eC (.str "over")) (aCons (eTup (aCons (eC (.str "number")) (aCons (eC (.int 1)) aNil))) (aCons (eTup (aCons (eC (.str "number")) (aCons (eC (.int 1)) aNil))) aNil)))) (aCons (eTup (aCons (eC (.str "number")) (aCons (eC .none) aNil))) aNil))))))) (sRet (eBin ixD (eBin addD (eVar 1) (eLst (aCons (eTup (aCons (eC (.str "plus")) (aCons (eC (.int 1)) (aCons (eC (.int 2)) aNil)))) (aCons (eLst (aCons (eC (.str "number")) (aCons (eC (.int 1)) aNil))) (aCons (eTup (aCons (eC (.str "number")) (aCons (eUn negD (eC (.int 1000))) aNil))) aNil))))) (eBin modD (eVar 0) (eC (.int 21)))))))
def F__law_odd : Nat → List D → Option D
  | 0, _ => none
  | n + 1, ds => bodyF 2 1 (f__law_odd ) ds
theorem e__law_odd (n : Nat) (ds : List D) : F__law_odd (n + 1) ds = bodyF 2 1 (f__law_odd ) ds := rfl
def f__law_spoilt (c__law_spoilt : List D → Option D) (c__law_odd : List D → Option D) : FS :=
  (sSeq (sIf (tAnd (tVal (eBin gtD (eVar 2) (eC (.int 0)))) (tAnd (tVal (eUn (isiD .tup) (eVar 0))) (tAnd (tVal (eBin gtD (eCall lenD (aCons (eVar 0) aNil)) (eC (.int 0)))) (tVal (eBin gtD (eBin modD (eVar 1) (eC (.int 6))) (eC (.int 0))))))) (sSeq (sSet 3 (eBin modD (eBin fdivD (eVar 1) (eC (.int 6))) (eCall lenD (aCons (eVar 0) aNil)))) (sSeq (sSet 4 (eCall c__law_spoilt (aCons (eBin ixD (eVar 0) (eVar 3)) (aCons (eBin fdivD (eVar 1) (eC (.int 18))) (aCons (eBin subD (eVar 2) (eC (.int 1))) aNil))))) (sRet (eBin addD (eBin addD (eSlice (eVar 0) oNone (oSome (eVar 3))) (eTup (aCons (eVar 4) aNil))) (eSlice (eVar 0) (oSome (eBin addD (eVar 3) (eC (.int 1)))) oNone))))) sNil) (sSeq (sIf (tAnd (tVal (eUn (isiD .tup) (eVar 0))) (tAnd (tVal (eBin gtD (eCall lenD (aCons (eVar 0) aNil)) (eC (.int 0)))) (tVal (eBin eqD (eBin modD (eBin fdivD (eVar 1) (eC (.int 6))) (eC (.int 2))) (eC (.int 0)))))) (sSeq (sSet 5 (eLst (aCons (eCall listD (aCons (eVar 0) aNil)) (aCons (eSlice (eVar 0) oNone (oSome (eUn negD (eC (.int 1))))) (aCons (eBin addD (eVar 0) (eSlice (eVar 0) (oSome (eUn negD (eC (.int 1)))) oNone)) (aCons (eSlice (eVar 0) (oSome (eC (.int 1))) oNone) (aCons (eUn revD (eVar 0)) (aCons (eTup (aCons (eC (.str "plus")) (aCons (eVar 0) (aCons (eVar 0) aNil)))) aNil)))))))) (sRet (eBin ixD (eVar 5) (eBin modD (eBin fdivD (eVar 1) (eC (.int 12))) (eC (.int 6)))))) sNil) (sSeq (sIf (tAnd (tVal (eUn (isiD .int) (eVar 0))) (tVal (eBin eqD (eBin modD (eBin fdivD (eVar 1) (eC (.int 6))) (eC (.int 2))) (eC (.int 0))))) (sRet (eBin ixD (eLst (aCons (eCall strD (aCons (eVar 0) aNil)) (aCons (eUn negD (eVar 0)) (aCons (eBin addD (eVar 0) (eC (.int 1))) (aCons (eBin eqD (eVar 0) (eC (.int 1))) (aCons (eBin addD (eVar 0) (eC (.int 1000))) aNil)))))) (eBin modD (eBin fdivD (eVar 1) (eC (.int 12))) (eC (.int 5))))) sNil) (sRet (eCall c__law_odd (aCons (eBin fdivD (eVar 1) (eC (.int 6))) aNil))))))
def F__law_spoilt : Nat → List D → Option D
  | 0, _ => none
  | n + 1, ds => bodyF 6 3 (f__law_spoilt (F__law_spoilt n) (F__law_odd n)) ds
theorem e__law_spoilt (n : Nat) (ds : List D) : F__law_spoilt (n + 1) ds = bodyF 6 3 (f__law_spoilt (F__law_spoilt n) (F__law_odd n)) ds := rfl
def f_law (c__law_mixed : List D → Option D) (c__law_drawn_tree : List D → Option D) (c__law_spoilt : List D → Option D) (c_is_tree : List D → Option D) (c__law_count : List D → Option D) (c_worth : List D → Option D) (c__law_worth : List D → Option D) (c__law_addresses : List D → Option D) (c_part_at : List D → Option D) (c__law_part : List D → Option D) (c_turned : List D → Option D) : FS :=
  (sSeq (sSet 1 (eCall c__law_drawn_tree (aCons (eCall c__law_mixed (aCons (eVar 0) (aCons (eC (.int 0)) aNil))) aNil))) (sSeq (sSet 2 (eCall c__law_mixed (aCons (eVar 0) (aCons (eC (.int 1)) aNil)))) (sSeq (sSet 3 (eVar 1)) (sSeq (sIf (tVal (eBin eqD (eBin modD (eVar 2) (eC (.int 2))) (eC (.int 1)))) (sSet 3 (eCall c__law_spoilt (aCons (eVar 1) (aCons (eCall c__law_mixed (aCons (eVar 0) (aCons (eC (.int 2)) aNil))) (aCons (eBin modD (eBin fdivD (eVar 2) (eC (.int 2))) (eC (.int 5))) aNil))))) sNil) (sSeq (sSet 4 (eCall c_is_tree (aCons (eVar 3) aNil))) (sSeq (sIf (tOr (tNot (tVal (eUn (isiD .bool) (eVar 4)))) (tVal (eBin neD (eVar 4) (eBin leD (eCall c__law_count (aCons (eVar 3) aNil)) (eC (.int 16)))))) (sRet (eC (.bool false))) sNil) (sSeq (sSet 5 (eCall c_worth (aCons (eVar 1) aNil))) (sSeq (sIf (tOr (tVal (eUn (isiD .bool) (eVar 5))) (tVal (eBin neD (eVar 5) (eCall c__law_worth (aCons (eVar 1) aNil))))) (sRet (eC (.bool false))) sNil) (sSeq (sSet 6 (eCall c__law_addresses (aCons (eVar 1) (aCons (eC (.str "")) aNil)))) (sSeq (sSet 7 (eBin ixD (eVar 6) (eBin modD (eCall c__law_mixed (aCons (eVar 0) (aCons (eC (.int 3)) aNil))) (eCall lenD (aCons (eVar 6) aNil))))) (sSeq (sIf (tVal (eBin eqD (eBin modD (eCall c__law_mixed (aCons (eVar 0) (aCons (eC (.int 4)) aNil))) (eC (.int 4))) (eC (.int 1)))) (sSet 7 (eBin addD (eVar 7) (eBin ixD (eLst (aCons (eC (.str "l")) (aCons (eC (.str "r")) (aCons (eC (.str "x")) (aCons (eC (.str "L")) (aCons (eC (.str "rl")) (aCons (eC (.str " ")) aNil))))))) (eBin modD (eBin fdivD (eCall c__law_mixed (aCons (eVar 0) (aCons (eC (.int 4)) aNil))) (eC (.int 4))) (eC (.int 6)))))) sNil) (sSeq (sIf (tVal (eBin neD (eCall c_part_at (aCons (eVar 1) (aCons (eVar 7) aNil))) (eCall c__law_part (aCons (eVar 1) (aCons (eVar 7) aNil))))) (sRet (eC (.bool false))) sNil) (sSeq (sIf (tOr (tVal (eUn isND (eCall c__law_part (aCons (eVar 1) (aCons (eVar 7) aNil))))) (tVal (eBin eqD (eBin ixD (eCall c__law_part (aCons (eVar 1) (aCons (eVar 7) aNil))) (eC (.int 0))) (eC (.str "number"))))) (sRet (eC (.bool true))) sNil) (sSeq (sSet 8 (eCall c_turned (aCons (eVar 1) (aCons (eVar 7) aNil)))) (sSeq (sUnp [9, 10, 11] (eCall c__law_part (aCons (eVar 1) (aCons (eVar 7) aNil)))) (sSeq (sIf (tOr (tVal (eBin neD (eCall c__law_part (aCons (eVar 8) (aCons (eVar 7) aNil))) (eTup (aCons (eVar 9) (aCons (eVar 11) (aCons (eVar 10) aNil)))))) (tVal (eBin neD (eCall c_turned (aCons (eVar 8) (aCons (eVar 7) aNil))) (eVar 1)))) (sRet (eC (.bool false))) sNil) (sSeq (sSet 12 (eComp (eVar 6) [7] (tAnd (tNot (tVal (eBin swD (eVar 0) (eVar 1)))) (tNot (tVal (eBin swD (eVar 1) (eVar 0))))) (eVar 0))) (sRet (eBin eqD (eComp (eVar 12) [8, 1] (tVal (eBin neD (eCall c__law_part (aCons (eVar 1) (aCons (eVar 0) aNil))) (eCall c__law_part (aCons (eVar 2) (aCons (eVar 0) aNil))))) (eVar 0)) (eLst aNil))))))))))))))))))))
def F_law : Nat → List D → Option D
  | 0, _ => none
  | n + 1, ds => bodyF 13 1 (f_law (F__law_mixed n) (F__law_drawn_tree n) (F__law_spoilt n) (F_is_tree n) (F__law_count n) (F_worth n) (F__law_worth n) (F__law_addresses n) (F_part_at n) (F__law_part n) (F_turned n)) ds
theorem e_law (n : Nat) (ds : List D) : F_law (n + 1) ds = bodyF 13 1 (f_law (F__law_mixed n) (F__law_drawn_tree n) (F__law_spoilt n) (F_is_tree n) (F__law_count n) (F_worth n) (F__law_worth n) (F__law_addresses n) (F_part_at n) (F__law_part n) (F_turned n)) ds := rfl
end FD
end
section
set_option Elab.async false
set_option linter.all false
set_option maxHeartbeats 1000000
namespace FD
open PySem
def Kd.go : Kd → Int → Int → Int
  | .plus, x, y => x + y
  | .less, x, y => x - y
  | .times, x, y => x * y
theorem F_pjoined (n : Nat) (k : Kd) (x y : Int) (hm : okMul x y = true) : F_joined_worth (n + 1) [.str k.str, .int x, .int y] = some (.int (k.go x y)) := by
  rw [e_joined_worth]
  cases k <;> simp [f_joined_worth, Kd.go, eqD_k2 _ _ ok_plus, eqD_k2 _ _ ok_less, addD, mulD, hm]
theorem worth_go (k : Kd) (l r : Tr) : (Tr.node k l r).worth = k.go l.worth r.worth := by cases k <;> simp [Tr.worth, Kd.go]
theorem okMul_worth {l r : Tr} (hl : l.ok) (hr : r.ok) (h : l.leaves ≤ 16) (h' : r.leaves ≤ 16) : okMul l.worth r.worth = true := by
  have bl := Tr.worth_lt hl h
  have br := Tr.worth_lt hr h'
  simp [okMul, bl, br]
theorem F_worth_eq (n : Nat) : ∀ t : Tr, t.ok → t.leaves ≤ 16 → t.dep < n → F_worth n [t.toD] = some (.int t.worth) := by
  induction n with
  | zero => intro t _ _ h; omega
  | succ n ih =>
    intro t hok hl hn
    rw [e_worth]
    cases t with
    | num i => simp [f_worth, Tr.toD, Tr.worth]
    | node k l r =>
      have pl := l.leaves_pos
      have pr := r.leaves_pos
      simp only [Tr.leaves, Tr.dep] at hl hn
      have el := ih l hok.1 (by omega) (by omega)
      have er := ih r hok.2 (by omega) (by omega)
      have hm := okMul_worth hok.1 hok.2 (by omega) (by omega)
      obtain ⟨j, rfl⟩ : ∃ j, n = j + 1 := ⟨n - 1, by omega⟩
      have ej := F_pjoined j k _ _ hm
      rw [worth_go]
      simp [f_worth, Tr.toD, el, er, ej]
theorem F_lworth_eq (n : Nat) : ∀ t : Tr, t.ok → t.leaves ≤ 16 → t.dep < n → F__law_worth n [t.toD] = some (.int t.worth) := by
  induction n with
  | zero => intro t _ _ h; omega
  | succ n ih =>
    intro t hok hl hn
    rw [e__law_worth]
    cases t with
    | num i => simp [f__law_worth, Tr.toD, Tr.worth]
    | node k l r =>
      have pl := l.leaves_pos
      have pr := r.leaves_pos
      simp only [Tr.leaves, Tr.dep] at hl hn
      have el := ih l hok.1 (by omega) (by omega)
      have er := ih r hok.2 (by omega) (by omega)
      have bl := Tr.worth_lt hok.1 (by omega)
      have br := Tr.worth_lt hok.2 (by omega)
      have hm : okMul l.worth r.worth = true := by simp [okMul, bl, br]
      cases k <;> simp [f__law_worth, Tr.toD, Tr.worth, el, er, eqD_k2 _ _ ok_times, eqD_k2 _ _ ok_less, addD, mulD, hm, Int.sub_eq_add_neg]
theorem F_turn : ∀ (cs : List Nat) (n : Nat) (t : Tr) (k : Kd) (l r : Tr), valid cs → cs.length < n → cs.length ≤ 1000 → part t cs = some (.node k l r) →
    F_turned n [t.toD, .str ⟨cs.toArray⟩] = some (turn t cs).toD
  | _, 0, _, _, _, _, _, h, _, _ => by omega
  | [], n + 1, t, k, l, r, _, _, _, hp => by
    rw [e_turned]
    simp only [part, Option.some.injEq] at hp
    subst hp
    simp [f_turned, turn, Tr.toD, eqD, okEq, s_e, PyData.canLay0, PyData.strOk, PyData.depth, PyData.eqv]
  | c :: cs, n + 1, .num i, k, l, r, _, _, _, hp => by simp [part] at hp
  | c :: cs, n + 1, .node k' a b, k, l, r, hv, hn, hm, hp => by
    have hc := hv c (List.mem_cons_self ..)
    have h' : valid cs := fun d hd => hv d (List.mem_cons_of_mem _ hd)
    have hn' : cs.length < n := by simp only [List.length_cons] at hn; omega
    have hm' : cs.length + 1 ≤ 1000 := by simpa using hm
    have hs : PyData.strOk ⟨(c :: cs).toArray⟩ = true := by
      simp only [PyData.strOk, List.all_toArray, List.all_eq_true, decide_eq_true_eq]
      exact hv
    have he : eqD (.str ⟨(c :: cs).toArray⟩) (.str "") = some (.bool false) := by
      rw [eqD_str (by rw [canLay0_str]; exact hs) (by decide +kernel)]
      simp [PyData.eqv, s_e]
    have hlen : (⟨(c :: cs).toArray⟩ : Str).length ≤ 1000 := by simpa [Str.length] using hm
    rw [e_turned]
    by_cases e1 : c = 108
    · simp [part, e1] at hp
      have ih := F_turn cs n a k l r h' hn' (by omega) hp
      subst e1
      simp [f_turned, Tr.toD, he, hlen, cut1, eqD_l hc, ih, turn]
    · by_cases e2 : c = 114
      · simp [part, e1, e2] at hp
        have ih := F_turn cs n b k l r h' hn' (by omega) hp
        simp [f_turned, Tr.toD, he, hlen, cut1, eqD_l hc, e1, ih, turn]
      · simp [part, e1, e2] at hp
def pBody : FS := (sSeq (sIf (tVal (eBin eqD (eBin ixD (eVar 2) (eC (.int 0))) (eC (.str "number")))) (sRet (eC .none)) sNil) (sIf (tVal (eBin eqD (eVar 3) (eC (.str "l")))) (sSet 2 (eBin ixD (eVar 2) (eC (.int 1)))) (sIf (tVal (eBin eqD (eVar 3) (eC (.str "r")))) (sSet 2 (eBin ixD (eVar 2) (eC (.int 2)))) (sRet (eC .none)))))
theorem pLoop (t0 a : D) : ∀ (cs : List Nat) (t : Tr) (y : Option D), valid cs →
    (∃ y', forGo 3 pBody (cs.map chr1) [some t0, some a, some t.toD, y] = match part t cs with
      | some t' => some (.nx [some t0, some a, some t'.toD, y'])
      | none => some (.rt .none))
  | [], t, y, _ => ⟨y, by simp [forGo, part]⟩
  | c :: cs, .num i, y, h => ⟨y, by
      simp [forGo, part, pBody, Tr.toD]⟩
  | c :: cs, .node k l r, y, h => by
    have hc := h c (List.mem_cons_self ..)
    have h' : valid cs := fun d hd => h d (List.mem_cons_of_mem _ hd)
    by_cases e1 : c = 108
    · obtain ⟨y', e⟩ := pLoop t0 a cs l (some (chr1 108)) h'
      refine ⟨y', ?_⟩
      subst e1
      simp [forGo, part, pBody, Tr.toD, eqD_l hc] at e ⊢
      exact e
    · by_cases e2 : c = 114
      · obtain ⟨y', e⟩ := pLoop t0 a cs r (some (chr1 114)) h'
        refine ⟨y', ?_⟩
        subst e2
        simp [forGo, part, pBody, Tr.toD, eqD_l hc, eqD_r hc] at e ⊢
        exact e
      · exact ⟨y, by simp [forGo, part, pBody, Tr.toD, eqD_l hc, eqD_r hc, e1, e2]⟩
theorem F_part (n : Nat) (t : Tr) (s : Str) (h : valid s.cps.toList) : F_part_at (n + 1) [t.toD, .str s] = some (partD t s.cps.toList) := by
  obtain ⟨y, e⟩ := pLoop t.toD (.str s) s.cps.toList t none h
  rw [e_part_at]
  have e' : f_part_at = sSeq (sSet 2 (eVar 0)) (sSeq (sForStr 3 (eVar 1) pBody) (sRet (eVar 2))) := rfl
  rw [e']
  simp [chars, e, partD]
  cases part t s.cps.toList <;> simp
def qBody : FS := (sSeq (sIf (tOr (tVal (eBin eqD (eBin ixD (eVar 2) (eC (.int 0))) (eC (.str "number")))) (tVal (eBin ltD (eBin findD (eC (.str "lr")) (eVar 3)) (eC (.int 0))))) (sRet (eC .none)) sNil) (sSet 2 (eBin ixD (eVar 2) (eBin addD (eBin findD (eC (.str "lr")) (eVar 3)) (eC (.int 1))))))
theorem qLoop (t0 a : D) : ∀ (cs : List Nat) (t : Tr) (y : Option D),
    (∃ y', forGo 3 qBody (cs.map chr1) [some t0, some a, some t.toD, y] = match part t cs with
      | some t' => some (.nx [some t0, some a, some t'.toD, y'])
      | none => some (.rt .none))
  | [], t, y => ⟨y, by simp [forGo, part]⟩
  | c :: cs, .num i, y => ⟨y, by
      simp [forGo, part, qBody, Tr.toD]⟩
  | c :: cs, .node k l r, y => by
    by_cases e1 : c = 108
    · obtain ⟨y', e⟩ := qLoop t0 a cs l (some (chr1 108))
      refine ⟨y', ?_⟩
      subst e1
      simp [forGo, part, qBody, Tr.toD, findD_chr, findLR, addD] at e ⊢
      exact e
    · by_cases e2 : c = 114
      · obtain ⟨y', e⟩ := qLoop t0 a cs r (some (chr1 114))
        refine ⟨y', ?_⟩
        subst e2
        simp [forGo, part, qBody, Tr.toD, findD_chr, findLR, addD] at e ⊢
        exact e
      · exact ⟨y, by simp [forGo, part, qBody, Tr.toD, findD_chr, findLR, addD, e1, e2]⟩
theorem F_lpart (n : Nat) (t : Tr) (s : Str) : F__law_part (n + 1) [t.toD, .str s] = some (partD t s.cps.toList) := by
  obtain ⟨y, e⟩ := qLoop t.toD (.str s) s.cps.toList t none
  rw [e__law_part]
  have e' : f__law_part = sSeq (sSet 2 (eVar 0)) (sSeq (sForStr 3 (eVar 1) qBody) (sRet (eVar 2))) := rfl
  rw [e']
  simp [chars, e, partD]
  cases part t s.cps.toList <;> simp
theorem F_addrs (n : Nat) : ∀ (t : Tr) (a : List Nat), t.dep < n → t.leaves ≤ 100 → a.length + t.dep ≤ 900 → F__law_addresses n [t.toD, strD' a] = some (.list ((addrs t a).map strD')) := by
  induction n with
  | zero => intro t a h; omega
  | succ n ih =>
    intro t a hn hl ha
    rw [e__law_addresses]
    cases t with
    | num i => simp [f__law_addresses, Tr.toD, addrs]
    | node k l r =>
      simp only [Tr.dep, Tr.leaves] at hn hl ha
      have el := ih l (a ++ [108]) (by omega) (by omega) (by simp; omega)
      have er := ih r (a ++ [114]) (by omega) (by omega) (by simp; omega)
      have ll := addrs_len l (a ++ [108])
      have lr := addrs_len r (a ++ [114])
      have h1 : a.length + 1 ≤ 1000 := by omega
      have g1 : 0 + 1 + (addrs l (a ++ [108])).length ≤ 1000 := by omega
      have g2 : (addrs l (a ++ [108])).length + 1 + (addrs r (a ++ [114])).length ≤ 1000 := by omega
      have s1 : addD (strD' a) (.str "l") = some (strD' (a ++ [108])) := by
        simp only [strD', addD, app_l, len_l]; rw [if_pos (by simpa [Str.length] using h1)]
      have s2 : addD (strD' a) (.str "r") = some (strD' (a ++ [114])) := by
        simp only [strD', addD, app_r, len_r]; rw [if_pos (by simpa [Str.length] using h1)]
      simp [f__law_addresses, Tr.toD, addrs, s1, s2, el, er]
      rw [addD_list (by simp; omega)]
      simp only [Option.bind_some]
      rw [addD_list (by simp; omega)]
      simp
theorem F_drawn (n : Nat) (num k : Int) : F__law_drawn (n + 1) [.int num, .int k] = some (.int (drawn num k)) := by
  rw [e__law_drawn]
  have h1 : okMul 104729 k = true := okMul_l _ _ (by decide)
  have h2 : okMul (num + 104729 * k + 17) 69621 = true := okMul_r _ _ (by decide)
  have h3 : okMul ((num + 104729 * k + 17) * 69621 % 2147483647) ((num + 104729 * k + 17) * 69621 % 2147483647) = true := okMul_l _ _ (by omega)
  have h4 : okMul 3 ((num + 104729 * k + 17) * 69621 % 2147483647) = true := okMul_l _ _ (by decide)
  simp [f__law_drawn, addD, mulD, modD, h1, h2, h3, h4, drawn]
theorem F_cell (n : Nat) (xs : List Int) (k : Nat) : F__law_cell_at (n + 1) [.list (xs.map .int), .int k] = some (.int (cell xs k)) := by
  rw [e__law_cell_at]
  by_cases h : k < xs.length
  · have h' : (k : Int) < (xs.length : Int) := by omega
    have e : at? (xs.map PyData.int) (k : Int) = some (.int (cell xs k)) := by
      simp [at?, cell, List.getD, h]
    simp [f__law_cell_at, h', e]
  · have h' : ¬ (k : Int) < (xs.length : Int) := by omega
    have e : cell xs k = 0 := by simp [cell, List.getD, h]
    simp [f__law_cell_at, h', e]
theorem F_mixed (n : Nat) (xs : List Int) (k : Nat) : F__law_mixed (n + 2) [.list (xs.map .int), .int k] = some (.int (mixed xs k)) := by
  rw [e__law_mixed]
  have h1 : okMul 7919 (k : Int) = true := okMul_l _ _ (by decide)
  have h2 : okMul (cell xs k + 7919 * k + 1) 48271 = true := okMul_r _ _ (by decide)
  have h3 : okMul ((cell xs k + 7919 * k + 1) * 48271 % 2147483647) ((cell xs k + 7919 * k + 1) * 48271 % 2147483647) = true := okMul_l _ _ (by omega)
  have h4 : okMul 7 ((cell xs k + 7919 * k + 1) * 48271 % 2147483647) = true := okMul_l _ _ (by decide)
  simp [f__law_mixed, F_cell n xs k, addD, mulD, modD, h1, h2, h3, h4, mixed]
def treeRest (c__law_drawn c__law_tree : List D → Option D) : FS := (sSeq (sSet 4 (eCall c__law_tree (aCons (eCall c__law_drawn (aCons (eVar 0) (aCons (eC (.int 2)) aNil))) (aCons (eVar 3) (aCons (eVar 2) aNil))))) (sSeq (sSet 5 (eCall c__law_tree (aCons (eCall c__law_drawn (aCons (eVar 0) (aCons (eC (.int 3)) aNil))) (aCons (eBin subD (eVar 1) (eVar 3)) (aCons (eVar 2) aNil))))) (sRet (eTup (aCons (eBin ixD (eTup (aCons (eC (.str "plus")) (aCons (eC (.str "less")) (aCons (eC (.str "times")) aNil)))) (eBin modD (eBin fdivD (eVar 0) (eC (.int 4))) (eC (.int 3)))) (aCons (eVar 4) (aCons (eVar 5) aNil)))))))
theorem tree_first (cd ct : List D → Option D) (many : Nat) (num kind : Int) (h2 : 2 ≤ many) :
    ∃ first : Nat, 1 ≤ first ∧ first < many ∧ f__law_tree cd ct [some (.int num), some (.int many), some (.int kind), none, none, none] =
      treeRest cd ct [some (.int num), some (.int many), some (.int kind), some (.int first), none, none] := by
  have hne : ¬ ((many : Int) = 1) := by omega
  have hpos : (0 : Int) < (many : Int) - 1 := by omega
  have hpos' : (1 : Int) < (many : Int) := by omega
  by_cases k3 : kind = 3
  · subst k3
    rcases half_cases (num / 8) with hh | hh
    · refine ⟨1, Nat.le_refl _, by omega, ?_⟩
      simp only [f__law_tree, treeRest]
      simp [fdivD, modD, addD, hne, hpos', hh]
    · refine ⟨many - 1, by omega, by omega, ?_⟩
      have e : ((many - 1 : Nat) : Int) = (many : Int) - 1 := by omega
      simp only [f__law_tree, treeRest]
      simp [fdivD, modD, addD, hne, hpos', hh, e]
  · by_cases k1 : kind = 1
    · refine ⟨many / 2, by omega, by omega, ?_⟩
      simp only [f__law_tree, treeRest]
      simp [fdivD, modD, addD, hne, hpos', k1]
    · by_cases k2 : kind = 2 ∧ num % 2 = 1
      · refine ⟨many / 2, by omega, by omega, ?_⟩
        simp only [f__law_tree, treeRest]
        simp [fdivD, modD, addD, hne, hpos', k2.1, k2.2]
      · have hm := Int.emod_nonneg (num / 8) (show (many : Int) - 1 ≠ 0 by omega)
        have hl := Int.emod_lt_of_pos (num / 8) hpos
        refine ⟨(1 + num / 8 % ((many : Int) - 1)).toNat, by omega, by omega, ?_⟩
        have e : (((1 + num / 8 % ((many : Int) - 1)).toNat : Nat) : Int) = 1 + num / 8 % ((many : Int) - 1) := by omega
        rw [e]
        simp only [f__law_tree, treeRest]
        by_cases k4 : kind = 2
        · have k5 : ¬ num % 2 = 1 := fun z => k2 ⟨k4, z⟩
          subst k4
          simp [fdivD, modD, addD, hne, hpos', k5]
        · simp [fdivD, modD, addD, hne, hpos', k1, k3, k4]
theorem F_tree (m : Nat) : ∀ (many : Nat) (num kind : Int) (n : Nat), many ≤ m → 1 ≤ many → many ≤ 16 → many + 1 ≤ n →
    ∃ t : Tr, F__law_tree n [.int num, .int many, .int kind] = some t.toD ∧ t.leaves = many ∧ t.ok := by
  induction m with
  | zero => intro many num kind n h h1; omega
  | succ m ih =>
    intro many num kind n hm h1 h16 hn
    obtain ⟨n, rfl⟩ : ∃ k, n = k + 2 := ⟨n - 2, by omega⟩
    by_cases e1 : many = 1
    · subst e1
      rcases half_cases (num / 16) with hh | hh
      · refine ⟨.num (drawn num 1 / 8 % 21 - 10), ?_, rfl, ?_⟩
        · rw [e__law_tree]
          simp [f__law_tree, F_drawn n num 1, fdivD, modD, hh, Tr.toD]
        · simp only [Tr.ok]; omega
      · refine ⟨.num (drawn num 1 / 8 % 2001 - 1000), ?_, rfl, ?_⟩
        · rw [e__law_tree]
          simp [f__law_tree, F_drawn n num 1, fdivD, modD, hh, Tr.toD]
        · simp only [Tr.ok]; omega
    · obtain ⟨first, f1, f2, ef⟩ := tree_first (F__law_drawn (n + 1)) (F__law_tree (n + 1)) many num kind (by omega)
      obtain ⟨t1, e1', l1, o1⟩ := ih first (drawn num 2) kind (n + 1) (by omega) f1 (by omega) (by omega)
      obtain ⟨t2, e2', l2, o2⟩ := ih (many - first) (drawn num 3) kind (n + 1) (by omega) (by omega) (by omega) (by omega)
      refine ⟨.node (kdOf (num / 4 % 3)) t1 t2, ?_, by simp only [Tr.leaves]; omega, o1, o2⟩
      rw [e__law_tree]
      have es : ((many : Int) - (first : Int)) = ((many - first : Nat) : Int) := by omega
      have hq : num / 4 % 3 = 0 ∨ num / 4 % 3 = 1 ∨ num / 4 % 3 = 2 := by omega
      have ek : (if num / 4 % 3 = 0 then PyData.str "plus" else if num / 4 % 3 = 1 then .str "less" else .str "times") = PyData.str (kdOf (num / 4 % 3)).str := by
        rcases hq with h | h | h <;> rw [h] <;> rfl
      simp only [bodyF, start]
      simp [ef]
      simp [treeRest, F_drawn n, e1', es, e2', fdivD, modD, at_three hq, ek, Tr.toD]
theorem F_drawn_tree (n : Nat) (num : Int) (h : 18 ≤ n) : ∃ t : Tr, F__law_drawn_tree (n + 1) [.int num] = some t.toD ∧ t.leaves ≤ 16 ∧ t.ok := by
  rw [e__law_drawn_tree]
  have hq : num / 4 % 4 = 0 ∨ num / 4 % 4 = 1 ∨ num / 4 % 4 = 2 ∨ num / 4 % 4 = 3 := by omega
  have go : ∀ many : Nat, 1 ≤ many → many ≤ 16 → ∃ t : Tr, F__law_tree n [.int (num / 64), .int many, .int (num % 4)] = some t.toD ∧ t.leaves ≤ 16 ∧ t.ok := fun many h1 h2 => by
    obtain ⟨t, a, b, c⟩ := F_tree many many (num / 64) (num % 4) n (Nat.le_refl _) h1 h2 (by omega)
    exact ⟨t, a, by omega, c⟩
  rcases hq with hq | hq | hq | hq
  · obtain ⟨t, a, b⟩ := go 16 (by decide) (by decide)
    refine ⟨t, ?_, b⟩
    have a' : F__law_tree n [.int (num / 64), .int 16, .int (num % 4)] = some t.toD := a
    simp [f__law_drawn_tree, fdivD, modD, hq, addD, a']
  · obtain ⟨t, a, b⟩ := go 8 (by decide) (by decide)
    refine ⟨t, ?_, b⟩
    have a' : F__law_tree n [.int (num / 64), .int 8, .int (num % 4)] = some t.toD := a
    simp [f__law_drawn_tree, fdivD, modD, hq, addD, a']
  · obtain ⟨t, a, b⟩ := go 4 (by decide) (by decide)
    refine ⟨t, ?_, b⟩
    have a' : F__law_tree n [.int (num / 64), .int 4, .int (num % 4)] = some t.toD := a
    simp [f__law_drawn_tree, fdivD, modD, hq, addD, a']
  · obtain ⟨t, a, b⟩ := go (1 + num / 64 % 16).toNat (by omega) (by omega)
    refine ⟨t, ?_, b⟩
    have e : (((1 + num / 64 % 16).toNat : Nat) : Int) = 1 + num / 64 % 16 := by omega
    rw [e] at a
    have h3 : at? [PyData.int 16, PyData.int 8, PyData.int 4, PyData.int (1 + num / 64 % 16)] 3 = some (.int (1 + num / 64 % 16)) := rfl
    simp [f__law_drawn_tree, fdivD, modD, hq, addD, a, h3]
def isNum : D → Bool
  | .tuple [.str s, .int n] => s == "number" && decide (-1000 ≤ n) && decide (n ≤ 1000)
  | _ => false
def isKind (s : Str) : Bool := s == "plus" || s == "less" || s == "times"
def cnt : D → Int
  | .tuple [.str s, .int n] => if s == "number" && decide (-1000 ≤ n) && decide (n ≤ 1000) then 1 else 99
  | .tuple [.str s, a, b] => if isKind s then cnt a + cnt b else 99
  | _ => 99
theorem F_whole (n : Nat) (d : D) (hd : d.canLay0 = true) : F_is_whole (n + 1) [d] = some (.bool (match d with | .int _ => true | _ => false)) := by
  cases d with
  | dict _ => simp [PyData.canLay0] at hd
  | _ => simp [F_is_whole, f_is_whole]
theorem F_number (n : Nat) (d : D) (hd : d.canLay0 = true) : F_is_number (n + 2) [d] = some (.bool (isNum d)) := by
  cases d with
  | tuple xs =>
    match xs with
    | [] => simp [F_is_number, f_is_number, isNum]
    | [x] => simp [F_is_number, f_is_number, isNum]
    | [x, y] =>
      simp only [PyData.canLay0, PyData.canLayAll0, Bool.and_eq_true] at hd
      simp [F_is_number, f_is_number, neD_str hd.1 ok_number, F_whole n y hd.2.1, c_GREATEST_NUMBER]
      cases x <;> cases y <;> simp [isNum, PyData.eqv]
      rename_i s i
      by_cases h : s = "number" <;> simp [h]
      rw [Bool.eq_iff_iff]
      simp
      split <;> omega
    | x :: y :: z :: r =>
      have h : ¬ ((r.length : Int) + 1 + 1 + 1 = 2) := by omega
      simp [F_is_number, f_is_number, isNum, h]
  | dict _ => simp [PyData.canLay0] at hd
  | _ => simp [F_is_number, f_is_number, isNum]
def isJoin : D → Bool
  | .tuple [.str s, _, _] => isKind s
  | _ => false
theorem F_join (n : Nat) (d : D) (hd : d.canLay0 = true) (hp : d.depth ≤ 60) : F_has_join_form (n + 1) [d] = some (.bool (isJoin d)) := by
  cases d with
  | tuple xs =>
    match xs with
    | [] => simp [F_has_join_form, f_has_join_form, isJoin]
    | [x] => simp [F_has_join_form, f_has_join_form, isJoin]
    | [x, y] => simp [F_has_join_form, f_has_join_form, isJoin]
    | [x, y, z] =>
      simp only [PyData.canLay0, PyData.canLayAll0, Bool.and_eq_true] at hd
      simp only [PyData.depth, PyData.depthAll] at hp
      have hx : okIn x [.str "plus", .str "less", .str "times"] = true := by
        simp [okIn, hd.1, PyData.canLayAll0, canLay0_str, ok_plus, ok_less, ok_times]; omega
      simp [F_has_join_form, f_has_join_form, isJoin, c_JOIN_KINDS, inD, hx]
      cases x <;> simp [PyData.eqv, isKind, isJoin]
      rename_i s
      have e : ∀ t : Str, (t == s) = (s == t) := fun t => BEq.comm
      rw [e, e, e, Bool.or_assoc]
    | x :: y :: z :: u :: r =>
      have h : ¬ ((r.length : Int) + 1 + 1 + 1 + 1 = 3) := by omega
      simp [F_has_join_form, f_has_join_form, isJoin, h]
  | dict _ => simp [PyData.canLay0] at hd
  | _ => simp [F_has_join_form, f_has_join_form, isJoin]
theorem cnt_num {d : D} (h : isNum d = true) : cnt d = 1 := by
  unfold isNum at h
  split at h
  · simp only [cnt]; rw [if_pos h]
  · cases h
theorem cnt_join (s : Str) (a b : D) (h : isKind s = true) : cnt (.tuple [.str s, a, b]) = cnt a + cnt b := by
  simp [cnt, h]
theorem cnt_other {d : D} (h1 : isNum d = false) (h2 : isJoin d = false) : cnt d = 99 := by
  unfold cnt
  split
  · simp only [isNum] at h1; simp [h1]
  · simp only [isJoin] at h2; simp [h2]
  · rfl
theorem cnt_pos : ∀ d : D, 1 ≤ cnt d := by
  intro d
  induction d using cnt.induct <;> unfold cnt <;> simp_all <;> (try split) <;> omega
theorem join_form {d : D} (h : isJoin d = true) : ∃ s a b, d = .tuple [.str s, a, b] ∧ isKind s = true := by
  unfold isJoin at h
  split at h
  · exact ⟨_, _, _, rfl, h⟩
  · cases h
theorem lay3 {s : Str} {a b : D} (h : (PyData.tuple [.str s, a, b]).canLay0 = true) : a.canLay0 = true ∧ b.canLay0 = true := by
  simp only [PyData.canLay0, PyData.canLayAll0, Bool.and_eq_true] at h
  exact ⟨h.2.1, h.2.2.1⟩
theorem dep3' {s : Str} {a b : D} {k : Nat} (h : (PyData.tuple [.str s, a, b]).depth ≤ k) : a.depth ≤ k ∧ b.depth ≤ k := by
  simp only [PyData.depth, PyData.depthAll] at h
  omega
theorem dep3 {s : Str} {a b : D} {k : Nat} (h : (PyData.tuple [.str s, a, b]).depth < k + 1) : a.depth < k ∧ b.depth < k := by
  simp only [PyData.depth, PyData.depthAll] at h
  omega
theorem F_count (n : Nat) : ∀ d : D, d.canLay0 = true → d.depth < n → d.depth ≤ 60 → ∀ m : Int, m ≤ 90 → F_count_numbers (n + 2) [d, .int m] = some (if 1 ≤ m ∧ cnt d ≤ m then .int (cnt d) else .none) := by
  induction n with
  | zero => intro d _ h; omega
  | succ n ih =>
    intro d hd hn h60 m hm
    by_cases h1 : m < 1
    · have : ¬ (1 ≤ m ∧ cnt d ≤ m) := by omega
      rw [e_count_numbers]; simp [f_count_numbers, h1, this]
    · by_cases hN : isNum d = true
      · have : 1 ≤ m := by omega
        rw [e_count_numbers]; simp [f_count_numbers, h1, F_number n d hd, hN, cnt_num hN, this]
      · have hN' : isNum d = false := by simpa using hN
        by_cases hJ : isJoin d = true
        · obtain ⟨s, a, b, rfl, hs⟩ := join_form hJ
          obtain ⟨la, lb⟩ := lay3 hd
          obtain ⟨da, db⟩ := dep3 hn
          obtain ⟨da', db'⟩ := dep3' h60
          have ea := ih a la da (by omega) (m - 1) (by omega)
          have pa := cnt_pos a
          have pb := cnt_pos b
          rw [cnt_join s a b hs]
          by_cases c1 : 1 ≤ m - 1 ∧ cnt a ≤ m - 1
          · rw [if_pos c1] at ea
            have eb := ih b lb db (by omega) (m - cnt a) (by omega)
            by_cases c2 : 1 ≤ m - cnt a ∧ cnt b ≤ m - cnt a
            · rw [if_pos c2] at eb
              have c3 : 1 ≤ m ∧ cnt a + cnt b ≤ m := by omega
              rw [e_count_numbers]; simp [f_count_numbers, h1, F_number n _ hd, hN', F_join (n + 1) _ hd h60, hJ, ea, eb, c3, addD]
            · rw [if_neg c2] at eb
              have c3 : ¬ (1 ≤ m ∧ cnt a + cnt b ≤ m) := by omega
              rw [e_count_numbers]; simp [f_count_numbers, h1, F_number n _ hd, hN', F_join (n + 1) _ hd h60, hJ, ea, eb, c3, addD]
          · rw [if_neg c1] at ea
            have c3 : ¬ (1 ≤ m ∧ cnt a + cnt b ≤ m) := by omega
            rw [e_count_numbers]; simp [f_count_numbers, h1, F_number n _ hd, hN', F_join (n + 1) _ hd h60, hJ, ea, c3, addD]
        · have hJ' : isJoin d = false := by simpa using hJ
          have c3 : ¬ (1 ≤ m ∧ cnt d ≤ m) := by rw [cnt_other hN' hJ']; omega
          rw [e_count_numbers]; simp [f_count_numbers, h1, F_number n d hd, hN', F_join (n + 1) d hd h60, hJ', c3]
theorem F_istree (n : Nat) (d : D) (hd : d.canLay0 = true) (hn : d.depth < n) (h60 : d.depth ≤ 60) : F_is_tree (n + 3) [d] = some (.bool (decide (cnt d ≤ 16))) := by
  have h := F_count n d hd hn h60 16 (by omega)
  by_cases c : cnt d ≤ 16
  · have c' : 1 ≤ (16 : Int) ∧ cnt d ≤ 16 := by omega
    rw [if_pos c'] at h
    rw [e_is_tree]; simp [f_is_tree, c_MOST_NUMBERS, h, c]
  · have c' : ¬ (1 ≤ (16 : Int) ∧ cnt d ≤ 16) := by omega
    rw [if_neg c'] at h
    rw [e_is_tree]; simp [f_is_tree, c_MOST_NUMBERS, h, c]
theorem notIn_kinds {x : D} (hx : x.canLay0 = true) (hp : x.depth ≤ 60) : notInD x (.tuple [.str "plus", .str "less", .str "times"]) = some (.bool (!match x with | .str s => isKind s | _ => false)) := by
  have h : okIn x [.str "plus", .str "less", .str "times"] = true := by
    simp [okIn, hx, hp, PyData.canLayAll0, canLay0_str, ok_plus, ok_less, ok_times]
  simp [notInD, h]
  cases x <;> simp [PyData.eqv, isKind]
  rename_i s
  have e : ∀ t : Str, (t == s) = (s == t) := fun t => BEq.comm
  simp [e, Bool.and_assoc]
theorem F_lcount (n : Nat) : ∀ d : D, d.canLay0 = true → d.depth < n → d.depth ≤ 60 → F__law_count (n + 1) [d] = some (.int (cnt d)) := by
  induction n with
  | zero => intro d _ h; omega
  | succ n ih =>
    intro d hd hn h60
    rw [e__law_count]
    cases d with
    | dict _ => simp [PyData.canLay0] at hd
    | tuple xs =>
      match xs with
      | [] => simp [f__law_count, cnt]
      | x :: r =>
        have lx : x.canLay0 = true ∧ PyData.canLayAll0 r = true := by simpa only [PyData.canLay0, PyData.canLayAll0, Bool.and_eq_true] using hd
        have hz : ¬ ((r.length : Int) + 1 = 0) := by omega
        cases x with
        | str s =>
          by_cases hs : s = "number"
          · subst hs
            match r with
            | [] => simp [f__law_count, cnt, eqD_str lx.1 ok_number, eqv_self_str]
            | [y] =>
              cases y with
              | int i =>
                by_cases c : (if i < 0 then -i else i) ≤ 1000
                · have c' : -1000 ≤ i ∧ i ≤ 1000 := by split at c <;> omega
                  simp [f__law_count, cnt, eqD_str lx.1 ok_number, eqv_self_str, neD_int, c, c']
                · have c' : ¬ (-1000 ≤ i ∧ i ≤ 1000) := by split at c <;> omega
                  simp [f__law_count, cnt, eqD_str lx.1 ok_number, eqv_self_str, neD_int, c, c']
              | dict _ => simp [PyData.canLay0, PyData.canLayAll0] at hd
              | _ => simp [f__law_count, cnt, eqD_str lx.1 ok_number, eqv_self_str]
            | y :: z :: t =>
              have h3 : ¬ ((t.length : Int) + 1 + 1 + 1 = 2) := by omega
              have hc : cnt (.tuple (.str "number" :: y :: z :: t)) = 99 := by
                refine cnt_other ?_ ?_
                · simp [isNum]
                · cases t with
                  | nil => show isKind "number" = false; decide +kernel
                  | cons _ _ => simp [isJoin]
              simp [f__law_count, eqD_str lx.1 ok_number, eqv_self_str, h3, hc]
          · have hs' : (s == ("number" : Str)) = false := by simpa using hs
            have hx60 : (PyData.str s).depth ≤ 60 := by simp [PyData.depth]
            by_cases hk : isKind s = true
            · match r with
              | [] =>
                have hc : cnt (.tuple [.str s]) = 99 := by simp [cnt]
                simp [f__law_count, eqD_str lx.1 ok_number, PyData.eqv, hs, notIn_kinds lx.1 hx60, hk, hc]
              | [y] =>
                have hc : cnt (.tuple [.str s, y]) = 99 := by
                  refine cnt_other ?_ ?_
                  · cases y <;> simp [isNum, hs']
                  · simp [isJoin]
                simp [f__law_count, eqD_str lx.1 ok_number, PyData.eqv, hs, notIn_kinds lx.1 hx60, hk, hc]
              | [y, z] =>
                obtain ⟨la, lb⟩ := lay3 hd
                obtain ⟨da, db⟩ := dep3 hn
                obtain ⟨da', db'⟩ := dep3' h60
                simp [f__law_count, eqD_str lx.1 ok_number, PyData.eqv, hs, notIn_kinds lx.1 hx60, hk, cnt_join s y z hk, ih y la da da', ih z lb db db', addD]
              | y :: z :: u :: t =>
                have h3 : ¬ ((t.length : Int) + 1 + 1 + 1 + 1 = 3) := by omega
                have hc : cnt (.tuple (.str s :: y :: z :: u :: t)) = 99 := by
                  refine cnt_other ?_ ?_ <;> simp [isNum, isJoin]
                simp [f__law_count, eqD_str lx.1 ok_number, PyData.eqv, hs, notIn_kinds lx.1 hx60, hk, hc, h3]
            · have hk' : isKind s = false := by simpa using hk
              have hc : cnt (.tuple (.str s :: r)) = 99 := by
                refine cnt_other ?_ ?_
                · unfold isNum; split <;> simp_all
                · unfold isJoin; split <;> simp_all
              simp [f__law_count, eqD_str lx.1 ok_number, PyData.eqv, hs, notIn_kinds lx.1 hx60, hk', hc, hz]
        | dict _ => simp [PyData.canLay0] at lx
        | _ => simp [f__law_count, cnt, hz]
    | _ => simp [f__law_count, cnt]
def odds : List D := [.int (-1), .int 0, .int 1000, .int 1001, .bool true, .none, .str "", .str "number", .str "plus", .tuple [], .list [], .tuple [.str "number", .int 1], .tuple [.str "number"], .tuple [.str "number", .bool true],
  .tuple [.str "plus", .tuple [.str "number", .int 1]], .tuple [.str "number", .int 1001], .tuple [.str "over", .tuple [.str "number", .int 1], .tuple [.str "number", .int 1]], .tuple [.str "number", .none],
  .tuple [.str "plus", .int 1, .int 2], .list [.str "number", .int 1], .tuple [.str "number", .int (-1000)]]
theorem odds_fine : odds.all (fine 2) = true := by decide +kernel
theorem F_odd (n : Nat) (k : Int) : ∃ r, F__law_odd (n + 1) [.int k] = some r ∧ fine 2 r = true := by
  obtain ⟨x, hx, e⟩ := at_mem (xs := odds) (i := k % 21) (Int.emod_nonneg _ (by decide)) (by have := Int.emod_lt_of_pos k (show (0 : Int) < 21 by decide); simpa [odds] using this)
  refine ⟨x, ?_, List.all_eq_true.mp odds_fine x hx⟩
  rw [e__law_odd]
  simp only [odds] at e
  simp [f__law_odd, addD, modD, e]
def good : D → Bool
  | .int i => decide (-1000 ≤ i) && decide (i ≤ 1000)
  | .str s => PyData.strOk s
  | .tuple [a] => good a
  | .tuple [a, b] => good a && good b
  | .tuple [a, b, c] => good a && good b && good c
  | _ => false
theorem good_tree : ∀ t : Tr, t.ok → good t.toD = true
  | .num n, h => by simp only [Tr.ok] at h; simp [Tr.toD, good, ok_number, h]
  | .node k l r, h => by simp [Tr.toD, good, kd_ok, good_tree l h.1, good_tree r h.2]
theorem good_lay : ∀ d : D, good d = true → d.canLay0 = true := by
  intro d
  induction d using good.induct <;> simp_all [good, PyData.canLay0, PyData.canLayAll0]
theorem fine_self {d : D} (h : good d = true) : fine d.depth d = true := by simp [fine, good_lay d h]
theorem good_small {xs : List D} (h : good (.tuple xs) = true) : 1 ≤ xs.length ∧ xs.length ≤ 3 ∧ ∀ x ∈ xs, good x = true := by
  match xs with
  | [] => simp [good] at h
  | [a] => simpa [good] using h
  | [a, b] => simpa [good] using h
  | [a, b, c] =>
    simp only [good, Bool.and_eq_true] at h
    refine ⟨by simp, by simp, ?_⟩
    intro x hx
    simp only [List.mem_cons, List.not_mem_nil, or_false] at hx
    rcases hx with rfl | rfl | rfl
    · exact h.1.1
    · exact h.1.2
    · exact h.2
  | a :: b :: c :: d :: r => simp [good] at h
theorem ok_digits (i : Int) : PyData.strOk (dig i) = true := by
  rw [dig, Str.ofString_eq_toList]
  simp only [PyData.strOk, List.all_toArray, List.all_map, List.all_eq_true, Function.comp, decide_eq_true_eq]
  intro c _
  rcases c.valid with h | ⟨_, h⟩
  · show c.val.toNat < 1114112; omega
  · exact h
/-- the end of the def, where it goes no deeper -/
def spEnd (c__law_odd : List D → Option D) : FS := (sSeq (sIf (tAnd (tVal (eUn (isiD .tup) (eVar 0))) (tAnd (tVal (eBin gtD (eCall lenD (aCons (eVar 0) aNil)) (eC (.int 0)))) (tVal (eBin eqD (eBin modD (eBin fdivD (eVar 1) (eC (.int 6))) (eC (.int 2))) (eC (.int 0)))))) (sSeq (sSet 5 (eLst (aCons (eCall listD (aCons (eVar 0) aNil)) (aCons (eSlice (eVar 0) oNone (oSome (eUn negD (eC (.int 1))))) (aCons (eBin addD (eVar 0) (eSlice (eVar 0) (oSome (eUn negD (eC (.int 1)))) oNone)) (aCons (eSlice (eVar 0) (oSome (eC (.int 1))) oNone) (aCons (eUn revD (eVar 0)) (aCons (eTup (aCons (eC (.str "plus")) (aCons (eVar 0) (aCons (eVar 0) aNil)))) aNil)))))))) (sRet (eBin ixD (eVar 5) (eBin modD (eBin fdivD (eVar 1) (eC (.int 12))) (eC (.int 6)))))) sNil) (sSeq (sIf (tAnd (tVal (eUn (isiD .int) (eVar 0))) (tVal (eBin eqD (eBin modD (eBin fdivD (eVar 1) (eC (.int 6))) (eC (.int 2))) (eC (.int 0))))) (sRet (eBin ixD (eLst (aCons (eCall strD (aCons (eVar 0) aNil)) (aCons (eUn negD (eVar 0)) (aCons (eBin addD (eVar 0) (eC (.int 1))) (aCons (eBin eqD (eVar 0) (eC (.int 1))) (aCons (eBin addD (eVar 0) (eC (.int 1000))) aNil)))))) (eBin modD (eBin fdivD (eVar 1) (eC (.int 12))) (eC (.int 5))))) sNil) (sRet (eCall c__law_odd (aCons (eBin fdivD (eVar 1) (eC (.int 6))) aNil)))))
theorem sp_end (n : Nat) (d : D) (num deep : Int) (hg : good d = true) (h0 : 0 ≤ num) :
    ∃ r, spEnd (F__law_odd (n + 1)) [some d, some (.int num), some (.int deep), none, none, none] = some (.rt r) ∧ fine (d.depth + 2) r = true := by
  obtain ⟨o, eo, fo⟩ := F_odd n (num / 6)
  have fo' : fine (d.depth + 2) o = true := fine_mono fo (by omega)
  have hd := fine_self hg
  cases d with
  | str s => exact ⟨o, by simp [spEnd, fdivD, eo], fo'⟩
  | int i =>
    by_cases c : num / 6 % 2 = 0
    · simp only [good, Bool.and_eq_true, decide_eq_true_eq] at hg
      have hs : i.natAbs < 2 ^ 500 := by
        have h3 : (1001 : Nat) < 2 ^ 500 := by decide +kernel
        omega
      let xs : List D := [.str (dig i), .int (-i), .int (i + 1), .bool (i == 1), .int (i + 1000)]
      have hx : xs.all (fine 2) = true := by
        simp [xs, fine, canLay0_str, ok_digits, PyData.depth, PyData.canLay0]
      obtain ⟨x, mx, ex⟩ := at_mem (xs := xs) (i := num / 12 % 5) (Int.emod_nonneg _ (by decide)) (by have := Int.emod_lt_of_pos (num / 12) (show (0 : Int) < 5 by decide); simpa [xs] using this)
      refine ⟨x, ?_, fine_mono (List.all_eq_true.mp hx x mx) (by omega)⟩
      simp only [xs] at ex
      simp [spEnd, fdivD, modD, c, addD, strD, hs, ex]
    · exact ⟨o, by simp [spEnd, fdivD, modD, c, eo], fo'⟩
  | tuple ys =>
    obtain ⟨h1, h3, hy⟩ := good_small hg
    have hpos : (0 : Int) < (ys.length : Int) := by omega
    have hpos' : 0 < ys.length := by omega
    by_cases c : num / 6 % 2 = 0
    · have fy : ∀ x ∈ ys, fine (PyData.tuple ys).depth x = true := fun x hx => by
        have := of_fine_tup (k := (PyData.tuple ys).depth) (fine_mono hd (by omega)) x hx
        exact this
      let xs : List D := [.list ys, .tuple (cut ys none (some (-1))), .tuple (ys ++ cut ys (some (-1)) none), .tuple (cut ys (some 1) none), .tuple ys.reverse, .tuple [.str "plus", .tuple ys, .tuple ys]]
      have hx : ∀ x ∈ xs, fine ((PyData.tuple ys).depth + 2) x = true := by
        intro x hx
        refine fine_mono (j := (PyData.tuple ys).depth + 1) ?_ (by omega)
        simp only [xs, List.mem_cons, List.not_mem_nil, or_false] at hx
        rcases hx with rfl | rfl | rfl | rfl | rfl | rfl
        · exact fine_lst fy
        · exact fine_tup fun x hx => fy x (cut_mem hx)
        · exact fine_tup fun x hx => (List.mem_append.mp hx).elim (fy x) fun h => fy x (cut_mem h)
        · exact fine_tup fun x hx => fy x (cut_mem hx)
        · exact fine_tup fun x hx => fy x (List.mem_reverse.mp hx)
        · refine fine_tup fun x hx => ?_
          simp only [List.mem_cons, List.not_mem_nil, or_false] at hx
          rcases hx with rfl | rfl | rfl
          · exact fine_mono (fine_str _ ok_plus) (by omega)
          · exact hd
          · exact hd
      obtain ⟨x, mx, ex⟩ := at_mem (xs := xs) (i := num / 12 % 6) (Int.emod_nonneg _ (by decide)) (by have := Int.emod_lt_of_pos (num / 12) (show (0 : Int) < 6 by decide); simpa [xs] using this)
      refine ⟨x, ?_, hx x mx⟩
      simp only [xs] at ex
      have hl := cut_len ys (some (-1)) none
      have ea : addD (.tuple ys) (.tuple (cut ys (some (-1)) none)) = some (.tuple (ys ++ cut ys (some (-1)) none)) := addD_tup (by omega)
      simp [spEnd, fdivD, modD, c, hpos', ea, ex]
    · exact ⟨o, by simp [spEnd, fdivD, modD, c, hpos', eo], fo'⟩
  | _ => simp [good] at hg
theorem F_spoilt (deep : Nat) : ∀ (n : Nat) (d : D) (num : Int), good d = true → 0 ≤ num → deep ≤ n → ∃ r, F__law_spoilt (n + 2) [d, .int num, .int deep] = some r ∧ fine (d.depth + 2) r = true := by
  induction deep with
  | zero =>
    intro n d num hg h0 hn
    obtain ⟨r, e, f⟩ := sp_end n d num 0 hg h0
    refine ⟨r, ?_, f⟩
    rw [e__law_spoilt]
    have e' : f__law_spoilt (F__law_spoilt (n + 1)) (F__law_odd (n + 1)) [some d, some (.int num), some (.int 0), none, none, none] = spEnd (F__law_odd (n + 1)) [some d, some (.int num), some (.int 0), none, none, none] := by
      simp only [f__law_spoilt, spEnd]
      simp
    simp only [bodyF, start]
    simp [e', e]
  | succ deep ih =>
    intro n d num hg h0 hn
    obtain ⟨dp, edp⟩ : ∃ dp : Int, dp = ((deep + 1 : Nat) : Int) := ⟨_, rfl⟩
    rw [← edp]
    have hdd : 0 < dp := by omega
    have ed : dp - 1 = (deep : Int) := by omega
    rw [e__law_spoilt]
    have other : ∀ (h : f__law_spoilt (F__law_spoilt (n + 1)) (F__law_odd (n + 1)) [some d, some (.int num), some (.int dp), none, none, none] = spEnd (F__law_odd (n + 1)) [some d, some (.int num), some (.int dp), none, none, none]),
        ∃ r, bodyF 6 3 (f__law_spoilt (F__law_spoilt (n + 1)) (F__law_odd (n + 1))) [d, .int num, .int dp] = some r ∧ fine (d.depth + 2) r = true := fun h => by
      obtain ⟨r, e, f⟩ := sp_end n d num dp hg h0
      refine ⟨r, ?_, f⟩
      simp only [bodyF, start]
      simp [h, e]
    cases d with
    | tuple ys =>
      obtain ⟨h1, h3, hy⟩ := good_small hg
      have hpos : (0 : Int) < (ys.length : Int) := by omega
      have hpos' : 0 < ys.length := by omega
      by_cases c : 0 < num % 6
      · obtain ⟨x, mx, ex⟩ := at_mem (xs := ys) (i := num / 6 % ys.length) (Int.emod_nonneg _ (by omega)) (Int.emod_lt_of_pos _ hpos)
        obtain ⟨n', rfl⟩ : ∃ k, n = k + 1 := ⟨n - 1, by omega⟩
        obtain ⟨r, er, fr⟩ := ih n' x (num / 18) (hy x mx) (Int.ediv_nonneg h0 (by decide)) (by omega)
        refine ⟨.tuple (cut ys none (some (num / 6 % ys.length)) ++ [r] ++ cut ys (some (num / 6 % ys.length + 1)) none), ?_, ?_⟩
        · have l1 := cut_len ys none (some (num / 6 % ys.length))
          have l2 := cut_len ys (some (num / 6 % ys.length + 1)) none
          have a1 : addD (.tuple (cut ys none (some (num / 6 % ys.length)))) (.tuple [r]) = some (.tuple (cut ys none (some (num / 6 % ys.length)) ++ [r])) := addD_tup (by simp; omega)
          have a2 : addD (.tuple (cut ys none (some (num / 6 % ys.length)) ++ [r])) (.tuple (cut ys (some (num / 6 % ys.length + 1)) none)) = some (.tuple (cut ys none (some (num / 6 % ys.length)) ++ [r] ++ cut ys (some (num / 6 % ys.length + 1)) none)) := addD_tup (by simp; omega)
          have a3 : addD (.int (num / 6 % ys.length)) (.int 1) = some (.int (num / 6 % ys.length + 1)) := rfl
          simp [f__law_spoilt, hdd, hpos, hpos', c, fdivD, modD, ex, ed, er, a3, a1, a2]
        · have hd := fine_self hg
          have fy : ∀ z ∈ ys, fine (PyData.tuple ys).depth z = true := fun z hz => of_fine_tup (fine_mono hd (by omega)) z hz
          have dx : x.depth + 1 ≤ (PyData.tuple ys).depth := by
            have := le_depthAll mx
            simp only [PyData.depth]; omega
          refine fine_tup (k := (PyData.tuple ys).depth + 1) fun z hz => ?_
          simp only [List.mem_append, List.mem_singleton] at hz
          rcases hz with (hz | rfl) | hz
          · exact fine_mono (fy z (cut_mem hz)) (by omega)
          · exact fine_mono fr (by omega)
          · exact fine_mono (fy z (cut_mem hz)) (by omega)
      · refine other ?_
        have c' : ¬ 0 < num % 6 := c
        simp only [f__law_spoilt, spEnd]
        simp [fdivD, modD, c', hpos']
    | str s => exact other (by simp only [f__law_spoilt, spEnd]; simp)
    | int i => exact other (by simp only [f__law_spoilt, spEnd]; simp)
    | _ => simp [good] at hg
def sufs : List (List Nat) := [[108], [114], [120], [76], [114, 108], [32]]
theorem sufs_eq : ([.str "l", .str "r", .str "x", .str "L", .str "rl", .str " "] : List D) = sufs.map strD' := by
  have h : [("l" : Str), "r", "x", "L", "rl", " "] = sufs.map fun a => ⟨a.toArray⟩ := by decide +kernel
  have h2 := congrArg (List.map PyData.str) h
  simpa [sufs, strD'] using h2
theorem law_true (xs : List Int) (m : Nat) (hm : 40 ≤ m) : F_law (m + 1) [.list (xs.map .int)] = some (.bool true) := by
  obtain ⟨n, rfl⟩ : ∃ k, m = k + 3 := ⟨m - 3, by omega⟩
  obtain ⟨t, et, tl, tok⟩ := F_drawn_tree (n + 2) (mixed xs 0) (by omega)
  have mx : ∀ k : Nat, F__law_mixed (n + 3) [.list (xs.map .int), .int k] = some (.int (mixed xs k)) := fun k => F_mixed (n + 1) xs k
  have m0 : F__law_mixed (n + 3) [.list (xs.map .int), .int 0] = some (.int (mixed xs 0)) := mx 0
  have m1 : F__law_mixed (n + 3) [.list (xs.map .int), .int 1] = some (.int (mixed xs 1)) := mx 1
  have m2 : F__law_mixed (n + 3) [.list (xs.map .int), .int 2] = some (.int (mixed xs 2)) := mx 2
  have m3 : F__law_mixed (n + 3) [.list (xs.map .int), .int 3] = some (.int (mixed xs 3)) := mx 3
  have m4 : F__law_mixed (n + 3) [.list (xs.map .int), .int 4] = some (.int (mixed xs 4)) := mx 4
  have tdep := t.dep_lt
  have ttd := t.depth_eq
  rw [e_law]
  suffices h : f_law (F__law_mixed (n + 3)) (F__law_drawn_tree (n + 3)) (F__law_spoilt (n + 3)) (F_is_tree (n + 3)) (F__law_count (n + 3)) (F_worth (n + 3)) (F__law_worth (n + 3)) (F__law_addresses (n + 3)) (F_part_at (n + 3)) (F__law_part (n + 3)) (F_turned (n + 3))
      [some (.list (xs.map .int)), none, none, none, none, none, none, none, none, none, none, none, none] = some (.rt (.bool true)) by
    simp only [bodyF, start]
    simp [h]
  unfold f_law
  refine seq_of (ρ' := [some (.list (xs.map .int)), some t.toD, none, none, none, none, none, none, none, none, none, none, none]) (by simp [m0, et]) ?_
  refine seq_of (ρ' := [some (.list (xs.map .int)), some t.toD, some (.int (mixed xs 1)), none, none, none, none, none, none, none, none, none, none]) (by simp [m1]) ?_
  refine seq_of (ρ' := [some (.list (xs.map .int)), some t.toD, some (.int (mixed xs 1)), some t.toD, none, none, none, none, none, none, none, none, none]) (by simp) ?_
  obtain ⟨d, ed, fd⟩ : ∃ d : D, (mixed xs 1 % 2 = 1 → F__law_spoilt (n + 3) [t.toD, .int (mixed xs 2), .int (mixed xs 1 / 2 % 5)] = some d) ∧ (¬ mixed xs 1 % 2 = 1 → d = t.toD) ∧ fine 25 d = true := by
    by_cases c : mixed xs 1 % 2 = 1
    · have p1 := mixed_nonneg xs 1
      obtain ⟨r, er, fr⟩ := F_spoilt (mixed xs 1 / 2 % 5).toNat (n + 1) t.toD (mixed xs 2) (good_tree t tok) (mixed_nonneg xs 2) (by omega)
      have e5 : (((mixed xs 1 / 2 % 5).toNat : Nat) : Int) = mixed xs 1 / 2 % 5 := by omega
      rw [e5] at er
      exact ⟨r, fun _ => er, fun z => absurd c z, fine_mono fr (by omega)⟩
    · exact ⟨t.toD, fun z => absurd z c, fun _ => rfl, fine_mono (fine_self (good_tree t tok)) (by omega)⟩
  refine seq_of (ρ' := [some (.list (xs.map .int)), some t.toD, some (.int (mixed xs 1)), some d, none, none, none, none, none, none, none, none, none]) ?_ ?_
  · by_cases c : mixed xs 1 % 2 = 1
    · simp [modD, fdivD, c, m2, ed c]
    · simp [modD, fdivD, c, fd.1 c]
  have fd' := fine_iff.mp fd.2
  have eI := F_istree n d fd'.1 (by omega) (by omega)
  have eC' := F_lcount (n + 2) d fd'.1 (by omega) (by omega)
  refine seq_of (ρ' := [some (.list (xs.map .int)), some t.toD, some (.int (mixed xs 1)), some d, some (.bool (decide (cnt d ≤ 16))), none, none, none, none, none, none, none, none]) (by simp [eI]) ?_
  refine seq_of (ρ' := [some (.list (xs.map .int)), some t.toD, some (.int (mixed xs 1)), some d, some (.bool (decide (cnt d ≤ 16))), none, none, none, none, none, none, none, none]) (by simp [eC', neD_bool]) ?_
  have eW := F_worth_eq (n + 3) t tok tl (by omega)
  have eL := F_lworth_eq (n + 3) t tok tl (by omega)
  refine seq_of (ρ' := [some (.list (xs.map .int)), some t.toD, some (.int (mixed xs 1)), some d, some (.bool (decide (cnt d ≤ 16))), some (.int t.worth), none, none, none, none, none, none, none]) (by simp [eW]) ?_
  refine seq_of (ρ' := [some (.list (xs.map .int)), some t.toD, some (.int (mixed xs 1)), some d, some (.bool (decide (cnt d ≤ 16))), some (.int t.worth), none, none, none, none, none, none, none]) (by simp [eL]) ?_
  have eA := F_addrs (n + 3) t [] (by omega) (by omega) (by simp; omega)
  have e0 : strD' [] = .str "" := by rw [s_e]; rfl
  rw [e0] at eA
  have alen := addrs_len t []
  have hpos : (0 : Int) < (addrs t []).length := by have := t.leaves_pos; omega
  refine seq_of (ρ' := [some (.list (xs.map .int)), some t.toD, some (.int (mixed xs 1)), some d, some (.bool (decide (cnt d ≤ 16))), some (.int t.worth), some (.list ((addrs t []).map strD')), none, none, none, none, none, none]) (by simp [eA]) ?_
  obtain ⟨ax, hax, eax⟩ := at_mem (xs := (addrs t []).map strD') (i := mixed xs 3 % (addrs t []).length) (Int.emod_nonneg _ (by omega)) (by simpa using Int.emod_lt_of_pos (mixed xs 3) hpos)
  obtain ⟨a, ha, rfl⟩ := List.mem_map.mp hax
  obtain ⟨a', ea', al, alr, apart⟩ := addrs_form t [] a ha
  have ea2 : a' = a := by simpa using ea'.symm
  subst ea2
  have hposN : 0 < (addrs t []).length := by omega
  refine seq_of (ρ' := [some (.list (xs.map .int)), some t.toD, some (.int (mixed xs 1)), some d, some (.bool (decide (cnt d ≤ 16))), some (.int t.worth), some (.list ((addrs t []).map strD')), some (strD' a'), none, none, none, none, none]) (by simp [m3, modD, hposN, eax]) ?_
  obtain ⟨cs, hcv, hcl, ecs⟩ : ∃ cs : List Nat, valid cs ∧ cs.length ≤ 30 ∧ ((mixed xs 4 % 4 = 1 → ∃ b, b ∈ sufs ∧ cs = a' ++ b ∧ at? (sufs.map strD') (mixed xs 4 / 4 % 6) = some (strD' b)) ∧ (¬ mixed xs 4 % 4 = 1 → cs = a')) := by
    by_cases c : mixed xs 4 % 4 = 1
    · obtain ⟨bx, hb, eb⟩ := at_mem (xs := sufs.map strD') (i := mixed xs 4 / 4 % 6) (Int.emod_nonneg _ (by decide)) (by have := Int.emod_lt_of_pos (mixed xs 4 / 4) (show (0 : Int) < 6 by decide); simpa [sufs] using this)
      obtain ⟨b, hb', rfl⟩ := List.mem_map.mp hb
      have hbv : valid b ∧ b.length ≤ 2 := by
        simp only [sufs, List.mem_cons, List.not_mem_nil, or_false] at hb'
        rcases hb' with rfl | rfl | rfl | rfl | rfl | rfl <;> simp [valid]
      refine ⟨a' ++ b, ?_, by simp; omega, fun _ => ⟨b, hb', rfl, eb⟩, fun z => absurd c z⟩
      intro x hx
      rcases List.mem_append.mp hx with hx | hx
      · exact valid_lr alr x hx
      · exact hbv.1 x hx
    · exact ⟨a', valid_lr alr, by omega, fun z => absurd z c, fun _ => rfl⟩
  refine seq_of (ρ' := [some (.list (xs.map .int)), some t.toD, some (.int (mixed xs 1)), some d, some (.bool (decide (cnt d ≤ 16))), some (.int t.worth), some (.list ((addrs t []).map strD')), some (strD' cs), none, none, none, none, none]) ?_ ?_
  · by_cases c : mixed xs 4 % 4 = 1
    · obtain ⟨b, hb, e1, e2⟩ := ecs.1 c
      have hl : a'.length + b.length ≤ 1000 := by
        have := congrArg List.length e1
        simp at this; omega
      rw [← sufs_eq] at e2
      simp [m4, modD, fdivD, c, e2, addD_strs hl, e1]
    · simp [m4, modD, fdivD, c, ecs.2 c]
  have eP := F_part (n + 2) t ⟨cs.toArray⟩ (by simpa using hcv)
  have eQ := F_lpart (n + 2) t ⟨cs.toArray⟩
  simp only at eP eQ
  have fP := partD_fine t cs tl
  have eP' : F_part_at (n + 3) [t.toD, strD' cs] = some (partD t cs) := eP
  have eQ' : F__law_part (n + 3) [t.toD, strD' cs] = some (partD t cs) := eQ
  refine seq_of (ρ' := [some (.list (xs.map .int)), some t.toD, some (.int (mixed xs 1)), some d, some (.bool (decide (cnt d ≤ 16))), some (.int t.worth), some (.list ((addrs t []).map strD')), some (strD' cs), none, none, none, none, none]) (by simp [eP', eQ', neD_fine (fine_mono fP (by decide : 20 ≤ 60))]) ?_
  cases hp : part t cs with
  | none =>
    have e1 : partD t cs = .none := by simp [partD, hp]
    rw [e1] at eQ'
    exact seq_rt (by simp [eQ'])
  | some t' =>
    have e1 : partD t cs = t'.toD := by simp [partD, hp]
    rw [e1] at eQ'
    cases t' with
    | num i => exact seq_rt (by simp [eQ', Tr.toD])
    | node k l r =>
      refine seq_of (ρ' := [some (.list (xs.map .int)), some t.toD, some (.int (mixed xs 1)), some d, some (.bool (decide (cnt d ≤ 16))), some (.int t.worth), some (.list ((addrs t []).map strD')), some (strD' cs), none, none, none, none, none]) (by simp [eQ', Tr.toD]) ?_
      have eT : F_turned (n + 3) [t.toD, strD' cs] = some (turn t cs).toD := F_turn cs (n + 3) t k l r hcv (by omega) (by omega) hp
      refine seq_of (ρ' := [some (.list (xs.map .int)), some t.toD, some (.int (mixed xs 1)), some d, some (.bool (decide (cnt d ≤ 16))), some (.int t.worth), some (.list ((addrs t []).map strD')), some (strD' cs), some (turn t cs).toD, none, none, none, none]) (by simp [eT]) ?_
      refine seq_of (ρ' := [some (.list (xs.map .int)), some t.toD, some (.int (mixed xs 1)), some d, some (.bool (decide (cnt d ≤ 16))), some (.int t.worth), some (.list ((addrs t []).map strD')), some (strD' cs), some (turn t cs).toD, some (.str k.str), some l.toD, some r.toD, none]) (by simp [eQ', Tr.toD]) ?_
      obtain ⟨pt1, pt2⟩ := part_turn cs t k l r hp
      have eU : F_turned (n + 3) [(turn t cs).toD, strD' cs] = some t.toD := by
        have := F_turn cs (n + 3) (turn t cs) k r l hcv (by omega) (by omega) pt1
        rw [pt2] at this; exact this
      have eV : F__law_part (n + 3) [(turn t cs).toD, strD' cs] = some (.tuple [.str k.str, r.toD, l.toD]) := by
        have := F_lpart (n + 2) (turn t cs) ⟨cs.toArray⟩
        simp only [partD, pt1] at this
        exact this
      have fN : fine 20 (.tuple [.str k.str, l.toD, r.toD]) = true := by rw [e1] at fP; exact fP
      have fM : fine 60 (.tuple [.str k.str, r.toD, l.toD]) = true := by
        have := of_fine_tup (k := 19) fN
        refine fine_mono (fine_tup (k := 19) fun x hx => this x ?_) (by decide)
        simp only [List.mem_cons, List.not_mem_nil, or_false] at hx ⊢
        rcases hx with h | h | h
        · exact .inl h
        · exact .inr (.inr h)
        · exact .inr (.inl h)
      have fT : fine 60 t.toD = true := fine_mono (fine_self (good_tree t tok)) (by omega)
      refine seq_of (ρ' := [some (.list (xs.map .int)), some t.toD, some (.int (mixed xs 1)), some d, some (.bool (decide (cnt d ≤ 16))), some (.int t.worth), some (.list ((addrs t []).map strD')), some (strD' cs), some (turn t cs).toD, some (.str k.str), some l.toD, some r.toD, none]) (by simp [eV, eU, neD_fine fM, neD_fine fT]) ?_
      let p : D → Bool := fun x => match x with
        | .str s => !(decide (cs <+: s.cps.toList)) && !(decide (s.cps.toList <+: cs))
        | _ => false
      have few1 : (addrs t []).length ≤ 1000 := by omega
      refine seq_of (ρ' := [some (.list (xs.map .int)), some t.toD, some (.int (mixed xs 1)), some d, some (.bool (decide (cnt d ≤ 16))), some (.int t.worth), some (.list ((addrs t []).map strD')), some (strD' cs), some (turn t cs).toD, some (.str k.str), some l.toD, some r.toD, some (.list (((addrs t []).map strD').filter p))]) ?_ ?_
      · simp only [sSet, eComp]
        simp [few1]
        rw [compGo_filter _ _ p]
        · rfl
        · intro x hx
          obtain ⟨b, hb, rfl⟩ := List.mem_map.mp hx
          by_cases c1 : cs <+: b <;> simp [swD, strD', sw_iff, p, c1]
      · have few2 : (((addrs t []).map strD').filter p).length ≤ 1000 := by
          have := List.length_filter_le p ((addrs t []).map strD')
          simp at this ⊢; omega
        simp only [sRet, eBin, eComp]
        simp [few2]
        rw [compGo_filter _ _ fun _ => false]
        · rw [filter_none]
          simp [eqD_self, eqD, okEq, PyData.canLay0, PyData.canLayAll0, PyData.eqv, PyData.eqvAll, PyData.depth, PyData.depthAll]
        · intro x hx
          obtain ⟨hx1, hx2⟩ := List.mem_filter.mp hx
          obtain ⟨b, hb, rfl⟩ := List.mem_map.mp hx1
          have hb1 : ¬ cs <+: b ∧ ¬ b <+: cs := by simpa [p, strD'] using hx2
          have e5 := F_lpart (n + 2) (turn t cs) ⟨b.toArray⟩
          have e6 := F_lpart (n + 2) t ⟨b.toArray⟩
          have e7 : partD (turn t cs) b = partD t b := by simp only [partD, part_else cs b t k l r hp hb1.1 hb1.2]
          have e5' : F__law_part (n + 3) [(turn t cs).toD, strD' b] = some (partD t b) := by rw [← e7]; exact e5
          have e6' : F__law_part (n + 3) [t.toD, strD' b] = some (partD t b) := e6
          simp [e5', e6', neD_fine (fine_mono (partD_fine t b tl) (by decide : 20 ≤ 60))]
end FD
end
set_option Elab.async false
set_option linter.all false
set_option maxRecDepth 100000
set_option maxHeartbeats 4000000
namespace FD
open PySem PySem.Spec PyProof.Rows L2
abbrev FUEL1 : Nat := 40
abbrev FUEL : Nat := 41
theorem law_sp {K : PySem.W.Frag} : ∀ vs H Q E, spLaw K vs H Q E → spF K (F_law FUEL) vs H Q E := sp_of fun ns => law_true ns FUEL1 (Nat.le_refl _)
def top (i : Nat) : Stmt := PySem.Challenge.pw_fewpans_k01_trees.main.body.getD i (.Pass ⟨0, 0, 0, 0⟩)
section
variable {P : Program} {w : World} {K : PySem.W.Frag} {mg : Str → Option Value} {base : Heap} {f : Addr} {fd : FuncData} {n : Nat}
abbrev st_is_whole : Stmt := top 7
abbrev st_is_number : Stmt := top 6
abbrev st_has_join_form : Stmt := top 8
abbrev st_count_numbers : Stmt := top 5
abbrev st_is_tree : Stmt := top 4
abbrev st_joined_worth : Stmt := top 10
abbrev st_worth : Stmt := top 9
abbrev st_part_at : Stmt := top 11
abbrev st_turned : Stmt := top 12
abbrev st__law_cell_at : Stmt := top 14
abbrev st__law_mixed : Stmt := top 15
abbrev st__law_drawn : Stmt := top 16
abbrev st__law_tree : Stmt := top 17
abbrev st__law_drawn_tree : Stmt := top 18
abbrev st__law_part : Stmt := top 19
abbrev st__law_addresses : Stmt := top 20
abbrev st__law_worth : Stmt := top 21
abbrev st__law_count : Stmt := top 22
abbrev st__law_odd : Stmt := top 23
abbrev st__law_spoilt : Stmt := top 24
abbrev st_law : Stmt := top 25
theorem sc_is_whole : FnScope ["thing"] ["thing"] (defScope st_is_whole) := ⟨rfl, rfl, rfl, by decide +kernel, rfl, by decide +kernel, by decide +kernel⟩
set_option maxHeartbeats 40000000 in
theorem ok_is_whole (F : Fun K "is_whole" "is_whole" st_is_whole f fd) (z_isinstance : mg "isinstance" = none) (z_int : mg "int" = none) (z_bool : mg "bool" = none) : FnOk P w K mg base CX0 (n + 1) f fd ["thing"] (spF K (F_is_whole (n + 1))) := by
  have e : F_is_whole (n + 1) = bodyF 1 1 (f_is_whole ) := funext (e_is_whole n)
  rw [e]
  refine okF F sc_is_whole fun cdv A outer s H E hr => ?_
  have hu := hr.units
  have nd := sc_is_whole.nd
  exact (fs_one (fs_ret (fe_and (fe_isi kit_int bt_isinstance bt_int rfl z_isinstance rfl z_int (fe_var 0) (by decide) (by decide) (by decide) (by decide) rfl rfl rfl) (fe_one (fe_not (fe_isi kit_bool bt_isinstance bt_bool rfl z_isinstance rfl z_bool (fe_var 0) (by decide) (by decide) (by decide) (by decide) rfl rfl rfl))))))
theorem sc_is_number : FnScope ["thing"] ["thing"] (defScope st_is_number) := ⟨rfl, rfl, rfl, by decide +kernel, rfl, by decide +kernel, by decide +kernel⟩
set_option maxHeartbeats 40000000 in
theorem ok_is_number (F : Fun K "is_number" "is_number" st_is_number f fd) (k_is_whole : Kn P w K mg base n "is_whole" ["thing"] (F_is_whole n)) (z_isinstance : mg "isinstance" = none) (z_tuple : mg "tuple" = none) (z_len : mg "len" = none) (z_abs : mg "abs" = none) (g_GREATEST_NUMBER : Gc K mg "GREATEST_NUMBER" c_GREATEST_NUMBER) : FnOk P w K mg base CX0 (n + 1) f fd ["thing"] (spF K (F_is_number (n + 1))) := by
  have e : F_is_number (n + 1) = bodyF 1 1 (f_is_number (F_is_whole n)) := funext (e_is_number n)
  rw [e]
  refine okF F sc_is_number fun cdv A outer s H E hr => ?_
  have hu := hr.units
  have nd := sc_is_number.nd
  exact (fs_cons (fs_if (FWx.pt (fw_or (ft_not (ft_val (fe_isi kit_tup bt_isinstance bt_tuple rfl z_isinstance rfl z_tuple (fe_var 0) (by decide) (by decide) (by decide) (by decide) rfl rfl rfl))) (fw_or (ft_cmp (op_neD hu) (fe_blt cb_len rfl z_len bt_len (fa_cons (fe_var 0) fa_nil)) fe_int (nomark _)) (fw_or1 (ft_cmp (op_neD hu) (fe_ix (fe_var 0) fe_int (fun _ _ => rfl)) fe_str (nomark _))))))
    (fs_one (fs_ret fe_bl))
    fs_nil) (fs_one (fs_ret (fe_and (fe_call k_is_whole hr rfl (fa_cons (fe_ix (fe_var 0) fe_int (fun _ _ => rfl)) fa_nil)) (fe_one (fe_cmp (op_leD) (fe_blt cb_abs rfl z_abs bt_abs (fa_cons (fe_ix (fe_var 0) fe_int (fun _ _ => rfl)) fa_nil)) (fe_glob rfl g_GREATEST_NUMBER) (nomark _)))))))
theorem sc_has_join_form : FnScope ["thing"] ["thing"] (defScope st_has_join_form) := ⟨rfl, rfl, rfl, by decide +kernel, rfl, by decide +kernel, by decide +kernel⟩
set_option maxHeartbeats 40000000 in
theorem ok_has_join_form (F : Fun K "has_join_form" "has_join_form" st_has_join_form f fd) (z_isinstance : mg "isinstance" = none) (z_tuple : mg "tuple" = none) (z_len : mg "len" = none) (g_JOIN_KINDS : Gc K mg "JOIN_KINDS" c_JOIN_KINDS) : FnOk P w K mg base CX0 (n + 1) f fd ["thing"] (spF K (F_has_join_form (n + 1))) := by
  have e : F_has_join_form (n + 1) = bodyF 1 1 (f_has_join_form ) := funext (e_has_join_form n)
  rw [e]
  refine okF F sc_has_join_form fun cdv A outer s H E hr => ?_
  have hu := hr.units
  have nd := sc_has_join_form.nd
  exact (fs_one (fs_ret (fe_and (fe_isi kit_tup bt_isinstance bt_tuple rfl z_isinstance rfl z_tuple (fe_var 0) (by decide) (by decide) (by decide) (by decide) rfl rfl rfl) (fe_and (fe_cmp (op_eqD hu) (fe_blt cb_len rfl z_len bt_len (fa_cons (fe_var 0) fa_nil)) fe_int (nomark _)) (fe_one (fe_cmp (op_inD hu) (fe_ix (fe_var 0) fe_int (fun _ _ => rfl)) (fe_glob rfl g_JOIN_KINDS) (by with_unfolding_all rfl)))))))
theorem sc_count_numbers : FnScope ["thing", "most", "in_one", "in_other"] ["thing", "most"] (defScope st_count_numbers) := ⟨rfl, rfl, rfl, by decide +kernel, rfl, by decide +kernel, by decide +kernel⟩
set_option maxHeartbeats 40000000 in
theorem ok_count_numbers (F : Fun K "count_numbers" "count_numbers" st_count_numbers f fd) (k_is_number : Kn P w K mg base n "is_number" ["thing"] (F_is_number n)) (k_has_join_form : Kn P w K mg base n "has_join_form" ["thing"] (F_has_join_form n)) (k_count_numbers : Kn P w K mg base n "count_numbers" ["thing", "most"] (F_count_numbers n)) : FnOk P w K mg base CX0 (n + 1) f fd ["thing", "most"] (spF K (F_count_numbers (n + 1))) := by
  have e : F_count_numbers (n + 1) = bodyF 4 2 (f_count_numbers (F_is_number n) (F_has_join_form n) (F_count_numbers n)) := funext (e_count_numbers n)
  rw [e]
  refine okF F sc_count_numbers fun cdv A outer s H E hr => ?_
  have hu := hr.units
  have nd := sc_count_numbers.nd
  exact (fs_cons (fs_if (ft_cmp (op_ltD) (fe_var 1) fe_int (nomark _))
    (fs_one (fs_ret fe_non))
    fs_nil) (fs_cons (fs_if (ft_val (fe_call k_is_number hr rfl (fa_cons (fe_var 0) fa_nil)))
    (fs_one (fs_ret fe_int))
    fs_nil) (fs_cons (fs_if (ft_not (ft_val (fe_call k_has_join_form hr rfl (fa_cons (fe_var 0) fa_nil))))
    (fs_one (fs_ret fe_non))
    fs_nil) (fs_cons (fs_set (i := 2) nd rfl (by first | exact Or.inl rfl | exact Or.inr rfl) (fe_call k_count_numbers hr rfl (fa_cons (fe_ix (fe_var 0) fe_int (fun _ _ => rfl)) (fa_cons (fe_op op_subD (fe_var 1) fe_int) fa_nil)))) (fs_cons (fs_if (ft_isN (fe_var 2))
    (fs_one (fs_ret fe_non))
    fs_nil) (fs_cons (fs_set (i := 3) nd rfl (by first | exact Or.inl rfl | exact Or.inr rfl) (fe_call k_count_numbers hr rfl (fa_cons (fe_ix (fe_var 0) fe_int (fun _ _ => rfl)) (fa_cons (fe_op op_subD (fe_var 1) (fe_var 2)) fa_nil)))) (fs_cons (fs_if (ft_isN (fe_var 3))
    (fs_one (fs_ret fe_non))
    fs_nil) (fs_one (fs_ret (fe_op op_addD (fe_var 2) (fe_var 3)))))))))))
theorem sc_is_tree : FnScope ["thing"] ["thing"] (defScope st_is_tree) := ⟨rfl, rfl, rfl, by decide +kernel, rfl, by decide +kernel, by decide +kernel⟩
set_option maxHeartbeats 40000000 in
theorem ok_is_tree (F : Fun K "is_tree" "is_tree" st_is_tree f fd) (k_count_numbers : Kn P w K mg base n "count_numbers" ["thing", "most"] (F_count_numbers n)) (g_MOST_NUMBERS : Gc K mg "MOST_NUMBERS" c_MOST_NUMBERS) : FnOk P w K mg base CX0 (n + 1) f fd ["thing"] (spF K (F_is_tree (n + 1))) := by
  have e : F_is_tree (n + 1) = bodyF 1 1 (f_is_tree (F_count_numbers n)) := funext (e_is_tree n)
  rw [e]
  refine okF F sc_is_tree fun cdv A outer s H E hr => ?_
  have hu := hr.units
  have nd := sc_is_tree.nd
  exact (fs_one (fs_ret (fe_notN (fe_call k_count_numbers hr rfl (fa_cons (fe_var 0) (fa_cons (fe_glob rfl g_MOST_NUMBERS) fa_nil))))))
theorem sc_joined_worth : FnScope ["kind", "one", "other"] ["kind", "one", "other"] (defScope st_joined_worth) := ⟨rfl, rfl, rfl, by decide +kernel, rfl, by decide +kernel, by decide +kernel⟩
set_option maxHeartbeats 40000000 in
theorem ok_joined_worth (F : Fun K "joined_worth" "joined_worth" st_joined_worth f fd)  : FnOk P w K mg base CX0 (n + 1) f fd ["kind", "one", "other"] (spF K (F_joined_worth (n + 1))) := by
  have e : F_joined_worth (n + 1) = bodyF 3 3 (f_joined_worth ) := funext (e_joined_worth n)
  rw [e]
  refine okF F sc_joined_worth fun cdv A outer s H E hr => ?_
  have hu := hr.units
  have nd := sc_joined_worth.nd
  exact (fs_cons (fs_if (ft_cmp (op_eqD hu) (fe_var 0) fe_str (nomark _))
    (fs_one (fs_ret (fe_op op_addD (fe_var 1) (fe_var 2))))
    fs_nil) (fs_cons (fs_if (ft_cmp (op_eqD hu) (fe_var 0) fe_str (nomark _))
    (fs_one (fs_ret (fe_op op_subD (fe_var 1) (fe_var 2))))
    fs_nil) (fs_one (fs_ret (fe_op op_mulD (fe_var 1) (fe_var 2))))))
theorem sc_worth : FnScope ["tree"] ["tree"] (defScope st_worth) := ⟨rfl, rfl, rfl, by decide +kernel, rfl, by decide +kernel, by decide +kernel⟩
set_option maxHeartbeats 40000000 in
theorem ok_worth (F : Fun K "worth" "worth" st_worth f fd) (k_worth : Kn P w K mg base n "worth" ["tree"] (F_worth n)) (k_joined_worth : Kn P w K mg base n "joined_worth" ["kind", "one", "other"] (F_joined_worth n)) : FnOk P w K mg base CX0 (n + 1) f fd ["tree"] (spF K (F_worth (n + 1))) := by
  have e : F_worth (n + 1) = bodyF 1 1 (f_worth (F_worth n) (F_joined_worth n)) := funext (e_worth n)
  rw [e]
  refine okF F sc_worth fun cdv A outer s H E hr => ?_
  have hu := hr.units
  have nd := sc_worth.nd
  exact (fs_cons (fs_if (ft_cmp (op_eqD hu) (fe_ix (fe_var 0) fe_int (fun _ _ => rfl)) fe_str (nomark _))
    (fs_one (fs_ret (fe_ix (fe_var 0) fe_int (fun _ _ => rfl))))
    fs_nil) (fs_one (fs_ret (fe_call k_joined_worth hr rfl (fa_cons (fe_ix (fe_var 0) fe_int (fun _ _ => rfl)) (fa_cons (fe_call k_worth hr rfl (fa_cons (fe_ix (fe_var 0) fe_int (fun _ _ => rfl)) fa_nil)) (fa_cons (fe_call k_worth hr rfl (fa_cons (fe_ix (fe_var 0) fe_int (fun _ _ => rfl)) fa_nil)) fa_nil)))))))
theorem sc_part_at : FnScope ["tree", "address", "part", "step"] ["tree", "address"] (defScope st_part_at) := ⟨rfl, rfl, rfl, by decide +kernel, rfl, by decide +kernel, by decide +kernel⟩
set_option maxHeartbeats 40000000 in
theorem ok_part_at (F : Fun K "part_at" "part_at" st_part_at f fd)  : FnOk P w K mg base CX0 (n + 1) f fd ["tree", "address"] (spF K (F_part_at (n + 1))) := by
  have e : F_part_at (n + 1) = bodyF 4 2 (f_part_at ) := funext (e_part_at n)
  rw [e]
  refine okF F sc_part_at fun cdv A outer s H E hr => ?_
  have hu := hr.units
  have nd := sc_part_at.nd
  exact (fs_cons (fs_set (i := 2) nd rfl (by first | exact Or.inl rfl | exact Or.inr rfl) (fe_var 0)) (fs_cons (fs_forStr (i := 3) nd rfl (by first | exact Or.inl rfl | exact Or.inr rfl) (fe_var 1)
    (fs_cons (fs_if (ft_cmp (op_eqD hu) (fe_ix (fe_var 2) fe_int (fun _ _ => rfl)) fe_str (nomark _))
    (fs_one (fs_ret fe_non))
    fs_nil) (fs_one (fs_if (ft_cmp (op_eqD hu) (fe_var 3) fe_str (nomark _))
    (fs_one (fs_set (i := 2) nd rfl (by first | exact Or.inl rfl | exact Or.inr rfl) (fe_ix (fe_var 2) fe_int (fun _ _ => rfl))))
    (fs_one (fs_if (ft_cmp (op_eqD hu) (fe_var 3) fe_str (nomark _))
    (fs_one (fs_set (i := 2) nd rfl (by first | exact Or.inl rfl | exact Or.inr rfl) (fe_ix (fe_var 2) fe_int (fun _ _ => rfl))))
    (fs_one (fs_ret fe_non)))))))) (fs_one (fs_ret (fe_var 2)))))
theorem sc_turned : FnScope ["tree", "address", "rest"] ["tree", "address"] (defScope st_turned) := ⟨rfl, rfl, rfl, by decide +kernel, rfl, by decide +kernel, by decide +kernel⟩
set_option maxHeartbeats 40000000 in
theorem ok_turned (F : Fun K "turned" "turned" st_turned f fd) (k_turned : Kn P w K mg base n "turned" ["tree", "address"] (F_turned n)) : FnOk P w K mg base CX0 (n + 1) f fd ["tree", "address"] (spF K (F_turned (n + 1))) := by
  have e : F_turned (n + 1) = bodyF 3 2 (f_turned (F_turned n)) := funext (e_turned n)
  rw [e]
  refine okF F sc_turned fun cdv A outer s H E hr => ?_
  have hu := hr.units
  have nd := sc_turned.nd
  exact (fs_cons (fs_if (ft_cmp (op_eqD hu) (fe_var 1) fe_str (nomark _))
    (fs_one (fs_ret (fe_tup (fa_cons (fe_ix (fe_var 0) fe_int (fun _ _ => rfl)) (fa_cons (fe_ix (fe_var 0) fe_int (fun _ _ => rfl)) (fa_cons (fe_ix (fe_var 0) fe_int (fun _ _ => rfl)) fa_nil))))))
    fs_nil) (fs_cons (fs_set (i := 2) nd rfl (by first | exact Or.inl rfl | exact Or.inr rfl) (fe_slice (fe_var 1) (fo_some fe_int) fo_none)) (fs_cons (fs_if (ft_cmp (op_eqD hu) (fe_ix (fe_var 1) fe_int (fun _ _ => rfl)) fe_str (nomark _))
    (fs_one (fs_ret (fe_tup (fa_cons (fe_ix (fe_var 0) fe_int (fun _ _ => rfl)) (fa_cons (fe_call k_turned hr rfl (fa_cons (fe_ix (fe_var 0) fe_int (fun _ _ => rfl)) (fa_cons (fe_var 2) fa_nil))) (fa_cons (fe_ix (fe_var 0) fe_int (fun _ _ => rfl)) fa_nil))))))
    fs_nil) (fs_one (fs_ret (fe_tup (fa_cons (fe_ix (fe_var 0) fe_int (fun _ _ => rfl)) (fa_cons (fe_ix (fe_var 0) fe_int (fun _ _ => rfl)) (fa_cons (fe_call k_turned hr rfl (fa_cons (fe_ix (fe_var 0) fe_int (fun _ _ => rfl)) (fa_cons (fe_var 2) fa_nil))) fa_nil)))))))))
theorem sc__law_cell_at : FnScope ["_law_script", "_law_k"] ["_law_script", "_law_k"] (defScope st__law_cell_at) := ⟨rfl, rfl, rfl, by decide +kernel, rfl, by decide +kernel, by decide +kernel⟩
set_option maxHeartbeats 40000000 in
theorem ok__law_cell_at (F : Fun K "_law_cell_at" "_law_cell_at" st__law_cell_at f fd) (z_len : mg "len" = none) : FnOk P w K mg base CX0 (n + 1) f fd ["_law_script", "_law_k"] (spF K (F__law_cell_at (n + 1))) := by
  have e : F__law_cell_at (n + 1) = bodyF 2 2 (f__law_cell_at ) := funext (e__law_cell_at n)
  rw [e]
  refine okF F sc__law_cell_at fun cdv A outer s H E hr => ?_
  have hu := hr.units
  have nd := sc__law_cell_at.nd
  exact (fs_cons (fs_if (ft_cmp (op_ltD) (fe_var 1) (fe_blt cb_len rfl z_len bt_len (fa_cons (fe_var 0) fa_nil)) (nomark _))
    (fs_one (fs_ret (fe_ix (fe_var 0) (fe_var 1) (fun _ _ => rfl))))
    fs_nil) (fs_one (fs_ret fe_int)))
theorem sc__law_mixed : FnScope ["_law_script", "_law_k", "_law_drawn_here"] ["_law_script", "_law_k"] (defScope st__law_mixed) := ⟨rfl, rfl, rfl, by decide +kernel, rfl, by decide +kernel, by decide +kernel⟩
set_option maxHeartbeats 40000000 in
theorem ok__law_mixed (F : Fun K "_law_mixed" "_law_mixed" st__law_mixed f fd) (k__law_cell_at : Kn P w K mg base n "_law_cell_at" ["_law_script", "_law_k"] (F__law_cell_at n)) : FnOk P w K mg base CX0 (n + 1) f fd ["_law_script", "_law_k"] (spF K (F__law_mixed (n + 1))) := by
  have e : F__law_mixed (n + 1) = bodyF 3 2 (f__law_mixed (F__law_cell_at n)) := funext (e__law_mixed n)
  rw [e]
  refine okF F sc__law_mixed fun cdv A outer s H E hr => ?_
  have hu := hr.units
  have nd := sc__law_mixed.nd
  exact (fs_cons (fs_set (i := 2) nd rfl (by first | exact Or.inl rfl | exact Or.inr rfl) (fe_op op_modD (fe_op op_mulD (fe_op op_addD (fe_op op_addD (fe_call k__law_cell_at hr rfl (fa_cons (fe_var 0) (fa_cons (fe_var 1) fa_nil))) (fe_op op_mulD fe_int (fe_var 1))) fe_int) fe_int) fe_int)) (fs_one (fs_ret (fe_op op_modD (fe_op op_addD (fe_op op_addD (fe_op op_mulD (fe_var 2) (fe_var 2)) (fe_op op_mulD fe_int (fe_var 2))) (fe_var 1)) fe_int))))
theorem sc__law_drawn : FnScope ["_law_number", "_law_k", "_law_drawn_here"] ["_law_number", "_law_k"] (defScope st__law_drawn) := ⟨rfl, rfl, rfl, by decide +kernel, rfl, by decide +kernel, by decide +kernel⟩
set_option maxHeartbeats 40000000 in
theorem ok__law_drawn (F : Fun K "_law_drawn" "_law_drawn" st__law_drawn f fd)  : FnOk P w K mg base CX0 (n + 1) f fd ["_law_number", "_law_k"] (spF K (F__law_drawn (n + 1))) := by
  have e : F__law_drawn (n + 1) = bodyF 3 2 (f__law_drawn ) := funext (e__law_drawn n)
  rw [e]
  refine okF F sc__law_drawn fun cdv A outer s H E hr => ?_
  have hu := hr.units
  have nd := sc__law_drawn.nd
  exact (fs_cons (fs_set (i := 2) nd rfl (by first | exact Or.inl rfl | exact Or.inr rfl) (fe_op op_modD (fe_op op_mulD (fe_op op_addD (fe_op op_addD (fe_var 0) (fe_op op_mulD fe_int (fe_var 1))) fe_int) fe_int) fe_int)) (fs_one (fs_ret (fe_op op_modD (fe_op op_addD (fe_op op_addD (fe_op op_mulD (fe_var 2) (fe_var 2)) (fe_op op_mulD fe_int (fe_var 2))) (fe_var 1)) fe_int))))
theorem sc__law_tree : FnScope ["_law_number", "_law_many", "_law_kind", "_law_first", "_law_one", "_law_other"] ["_law_number", "_law_many", "_law_kind"] (defScope st__law_tree) := ⟨rfl, rfl, rfl, by decide +kernel, rfl, by decide +kernel, by decide +kernel⟩
set_option maxHeartbeats 40000000 in
theorem ok__law_tree (F : Fun K "_law_tree" "_law_tree" st__law_tree f fd) (k__law_drawn : Kn P w K mg base n "_law_drawn" ["_law_number", "_law_k"] (F__law_drawn n)) (k__law_tree : Kn P w K mg base n "_law_tree" ["_law_number", "_law_many", "_law_kind"] (F__law_tree n)) : FnOk P w K mg base CX0 (n + 1) f fd ["_law_number", "_law_many", "_law_kind"] (spF K (F__law_tree (n + 1))) := by
  have e : F__law_tree (n + 1) = bodyF 6 3 (f__law_tree (F__law_drawn n) (F__law_tree n)) := funext (e__law_tree n)
  rw [e]
  refine okF F sc__law_tree fun cdv A outer s H E hr => ?_
  have hu := hr.units
  have nd := sc__law_tree.nd
  exact (fs_cons (fs_if (ft_cmp (op_eqD hu) (fe_var 1) fe_int (nomark _))
    (fs_one (fs_ret (fe_tup (fa_cons fe_str (fa_cons (fe_op op_subD (fe_op op_modD (fe_op op_fdivD (fe_call k__law_drawn hr rfl (fa_cons (fe_var 0) (fa_cons fe_int fa_nil))) fe_int) (fe_ix (fe_tup (fa_cons fe_int (fa_cons fe_int fa_nil))) (fe_op op_modD (fe_op op_fdivD (fe_var 0) fe_int) fe_int) (fun _ _ => rfl))) (fe_ix (fe_tup (fa_cons fe_int (fa_cons fe_int fa_nil))) (fe_op op_modD (fe_op op_fdivD (fe_var 0) fe_int) fe_int) (fun _ _ => rfl))) fa_nil)))))
    fs_nil) (fs_cons (fs_set (i := 3) nd rfl (by first | exact Or.inl rfl | exact Or.inr rfl) (fe_op op_addD fe_int (fe_op op_modD (fe_op op_fdivD (fe_var 0) fe_int) (fe_op op_subD (fe_var 1) fe_int)))) (fs_cons (fs_if (FWx.pt (fw_or (ft_cmp (op_eqD hu) (fe_var 2) fe_int (nomark _)) (fw_or1 (FWx.pt (fw_and (ft_cmp (op_eqD hu) (fe_var 2) fe_int (nomark _)) (fw_and1 (ft_cmp (op_eqD hu) (fe_op op_modD (fe_var 0) fe_int) fe_int (nomark _))))))))
    (fs_one (fs_set (i := 3) nd rfl (by first | exact Or.inl rfl | exact Or.inr rfl) (fe_op op_fdivD (fe_var 1) fe_int)))
    fs_nil) (fs_cons (fs_if (ft_cmp (op_eqD hu) (fe_var 2) fe_int (nomark _))
    (fs_one (fs_set (i := 3) nd rfl (by first | exact Or.inl rfl | exact Or.inr rfl) (fe_ix (fe_lst (fa_cons fe_int (fa_cons (fe_op op_subD (fe_var 1) fe_int) fa_nil))) (fe_op op_modD (fe_op op_fdivD (fe_var 0) fe_int) fe_int) (fun _ _ => rfl))))
    fs_nil) (fs_cons (fs_set (i := 4) nd rfl (by first | exact Or.inl rfl | exact Or.inr rfl) (fe_call k__law_tree hr rfl (fa_cons (fe_call k__law_drawn hr rfl (fa_cons (fe_var 0) (fa_cons fe_int fa_nil))) (fa_cons (fe_var 3) (fa_cons (fe_var 2) fa_nil))))) (fs_cons (fs_set (i := 5) nd rfl (by first | exact Or.inl rfl | exact Or.inr rfl) (fe_call k__law_tree hr rfl (fa_cons (fe_call k__law_drawn hr rfl (fa_cons (fe_var 0) (fa_cons fe_int fa_nil))) (fa_cons (fe_op op_subD (fe_var 1) (fe_var 3)) (fa_cons (fe_var 2) fa_nil))))) (fs_one (fs_ret (fe_tup (fa_cons (fe_ix (fe_tup (fa_cons fe_str (fa_cons fe_str (fa_cons fe_str fa_nil)))) (fe_op op_modD (fe_op op_fdivD (fe_var 0) fe_int) fe_int) (fun _ _ => rfl)) (fa_cons (fe_var 4) (fa_cons (fe_var 5) fa_nil))))))))))))
theorem sc__law_drawn_tree : FnScope ["_law_number"] ["_law_number"] (defScope st__law_drawn_tree) := ⟨rfl, rfl, rfl, by decide +kernel, rfl, by decide +kernel, by decide +kernel⟩
set_option maxHeartbeats 40000000 in
theorem ok__law_drawn_tree (F : Fun K "_law_drawn_tree" "_law_drawn_tree" st__law_drawn_tree f fd) (k__law_tree : Kn P w K mg base n "_law_tree" ["_law_number", "_law_many", "_law_kind"] (F__law_tree n)) : FnOk P w K mg base CX0 (n + 1) f fd ["_law_number"] (spF K (F__law_drawn_tree (n + 1))) := by
  have e : F__law_drawn_tree (n + 1) = bodyF 1 1 (f__law_drawn_tree (F__law_tree n)) := funext (e__law_drawn_tree n)
  rw [e]
  refine okF F sc__law_drawn_tree fun cdv A outer s H E hr => ?_
  have hu := hr.units
  have nd := sc__law_drawn_tree.nd
  exact (fs_one (fs_ret (fe_call k__law_tree hr rfl (fa_cons (fe_op op_fdivD (fe_var 0) fe_int) (fa_cons (fe_ix (fe_tup (fa_cons fe_int (fa_cons fe_int (fa_cons fe_int (fa_cons (fe_op op_addD fe_int (fe_op op_modD (fe_op op_fdivD (fe_var 0) fe_int) fe_int)) fa_nil))))) (fe_op op_modD (fe_op op_fdivD (fe_var 0) fe_int) fe_int) (fun _ _ => rfl)) (fa_cons (fe_op op_modD (fe_var 0) fe_int) fa_nil))))))
theorem sc__law_part : FnScope ["_law_tree_here", "_law_address", "_law_here", "_law_sign"] ["_law_tree_here", "_law_address"] (defScope st__law_part) := ⟨rfl, rfl, rfl, by decide +kernel, rfl, by decide +kernel, by decide +kernel⟩
set_option maxHeartbeats 40000000 in
theorem ok__law_part (F : Fun K "_law_part" "_law_part" st__law_part f fd)  : FnOk P w K mg base CX0 (n + 1) f fd ["_law_tree_here", "_law_address"] (spF K (F__law_part (n + 1))) := by
  have e : F__law_part (n + 1) = bodyF 4 2 (f__law_part ) := funext (e__law_part n)
  rw [e]
  refine okF F sc__law_part fun cdv A outer s H E hr => ?_
  have hu := hr.units
  have nd := sc__law_part.nd
  exact (fs_cons (fs_set (i := 2) nd rfl (by first | exact Or.inl rfl | exact Or.inr rfl) (fe_var 0)) (fs_cons (fs_forStr (i := 3) nd rfl (by first | exact Or.inl rfl | exact Or.inr rfl) (fe_var 1)
    (fs_cons (fs_if (FWx.pt (fw_or (ft_cmp (op_eqD hu) (fe_ix (fe_var 2) fe_int (fun _ _ => rfl)) fe_str (nomark _)) (fw_or1 (ft_cmp (op_ltD) (fe_find fe_str (fe_var 3)) fe_int (nomark _)))))
    (fs_one (fs_ret fe_non))
    fs_nil) (fs_one (fs_set (i := 2) nd rfl (by first | exact Or.inl rfl | exact Or.inr rfl) (fe_ix (fe_var 2) (fe_op op_addD (fe_find fe_str (fe_var 3)) fe_int) (fun _ _ => rfl)))))) (fs_one (fs_ret (fe_var 2)))))
theorem sc__law_addresses : FnScope ["_law_tree_here", "_law_address"] ["_law_tree_here", "_law_address"] (defScope st__law_addresses) := ⟨rfl, rfl, rfl, by decide +kernel, rfl, by decide +kernel, by decide +kernel⟩
set_option maxHeartbeats 40000000 in
theorem ok__law_addresses (F : Fun K "_law_addresses" "_law_addresses" st__law_addresses f fd) (k__law_addresses : Kn P w K mg base n "_law_addresses" ["_law_tree_here", "_law_address"] (F__law_addresses n)) : FnOk P w K mg base CX0 (n + 1) f fd ["_law_tree_here", "_law_address"] (spF K (F__law_addresses (n + 1))) := by
  have e : F__law_addresses (n + 1) = bodyF 2 2 (f__law_addresses (F__law_addresses n)) := funext (e__law_addresses n)
  rw [e]
  refine okF F sc__law_addresses fun cdv A outer s H E hr => ?_
  have hu := hr.units
  have nd := sc__law_addresses.nd
  exact (fs_cons (fs_if (ft_cmp (op_eqD hu) (fe_ix (fe_var 0) fe_int (fun _ _ => rfl)) fe_str (nomark _))
    (fs_one (fs_ret (fe_lst (fa_cons (fe_var 1) fa_nil))))
    fs_nil) (fs_one (fs_ret (fe_op op_addD (fe_op op_addD (fe_lst (fa_cons (fe_var 1) fa_nil)) (fe_call k__law_addresses hr rfl (fa_cons (fe_ix (fe_var 0) fe_int (fun _ _ => rfl)) (fa_cons (fe_op op_addD (fe_var 1) fe_str) fa_nil)))) (fe_call k__law_addresses hr rfl (fa_cons (fe_ix (fe_var 0) fe_int (fun _ _ => rfl)) (fa_cons (fe_op op_addD (fe_var 1) fe_str) fa_nil)))))))
theorem sc__law_worth : FnScope ["_law_tree_here", "_law_one", "_law_other"] ["_law_tree_here"] (defScope st__law_worth) := ⟨rfl, rfl, rfl, by decide +kernel, rfl, by decide +kernel, by decide +kernel⟩
set_option maxHeartbeats 40000000 in
theorem ok__law_worth (F : Fun K "_law_worth" "_law_worth" st__law_worth f fd) (k__law_worth : Kn P w K mg base n "_law_worth" ["_law_tree_here"] (F__law_worth n)) (z_int : mg "int" = none) : FnOk P w K mg base CX0 (n + 1) f fd ["_law_tree_here"] (spF K (F__law_worth (n + 1))) := by
  have e : F__law_worth (n + 1) = bodyF 3 1 (f__law_worth (F__law_worth n)) := funext (e__law_worth n)
  rw [e]
  refine okF F sc__law_worth fun cdv A outer s H E hr => ?_
  have hu := hr.units
  have nd := sc__law_worth.nd
  exact (fs_cons (fs_if (ft_cmp (op_eqD hu) (fe_ix (fe_var 0) fe_int (fun _ _ => rfl)) fe_str (nomark _))
    (fs_one (fs_ret (fe_ix (fe_var 0) fe_int (fun _ _ => rfl))))
    fs_nil) (fs_cons (fs_set (i := 1) nd rfl (by first | exact Or.inl rfl | exact Or.inr rfl) (fe_call k__law_worth hr rfl (fa_cons (fe_ix (fe_var 0) fe_int (fun _ _ => rfl)) fa_nil))) (fs_cons (fs_set (i := 2) nd rfl (by first | exact Or.inl rfl | exact Or.inr rfl) (fe_call k__law_worth hr rfl (fa_cons (fe_ix (fe_var 0) fe_int (fun _ _ => rfl)) fa_nil))) (fs_cons (fs_if (ft_cmp (op_eqD hu) (fe_ix (fe_var 0) fe_int (fun _ _ => rfl)) fe_str (nomark _))
    (fs_one (fs_ret (fe_op op_mulD (fe_var 1) (fe_var 2))))
    fs_nil) (fs_one (fs_ret (fe_op op_addD (fe_var 1) (fe_ix (fe_lst (fa_cons (fe_var 2) (fa_cons (fe_un un_negD (fe_var 2)) fa_nil))) (fe_typ cb_int rfl z_int bt_int (fa_cons (fe_cmp (op_eqD hu) (fe_ix (fe_var 0) fe_int (fun _ _ => rfl)) fe_str (nomark _)) fa_nil)) (fun _ _ => rfl)))))))))
theorem sc__law_count : FnScope ["_law_thing"] ["_law_thing"] (defScope st__law_count) := ⟨rfl, rfl, rfl, by decide +kernel, rfl, by decide +kernel, by decide +kernel⟩
set_option maxHeartbeats 40000000 in
theorem ok__law_count (F : Fun K "_law_count" "_law_count" st__law_count f fd) (k__law_count : Kn P w K mg base n "_law_count" ["_law_thing"] (F__law_count n)) (z_isinstance : mg "isinstance" = none) (z_tuple : mg "tuple" = none) (z_len : mg "len" = none) (z_str : mg "str" = none) (z_int : mg "int" = none) (z_bool : mg "bool" = none) (z_abs : mg "abs" = none) : FnOk P w K mg base CX0 (n + 1) f fd ["_law_thing"] (spF K (F__law_count (n + 1))) := by
  have e : F__law_count (n + 1) = bodyF 1 1 (f__law_count (F__law_count n)) := funext (e__law_count n)
  rw [e]
  refine okF F sc__law_count fun cdv A outer s H E hr => ?_
  have hu := hr.units
  have nd := sc__law_count.nd
  exact (fs_cons (fs_if (FWx.pt (fw_or (ft_not (ft_val (fe_isi kit_tup bt_isinstance bt_tuple rfl z_isinstance rfl z_tuple (fe_var 0) (by decide) (by decide) (by decide) (by decide) rfl rfl rfl))) (fw_or (ft_cmp (op_eqD hu) (fe_blt cb_len rfl z_len bt_len (fa_cons (fe_var 0) fa_nil)) fe_int (nomark _)) (fw_or1 (ft_not (ft_val (fe_isi kit_str bt_isinstance bt_str rfl z_isinstance rfl z_str (fe_ix (fe_var 0) fe_int (fun _ _ => rfl)) (by decide) (by decide) (by decide) (by decide) rfl rfl rfl)))))))
    (fs_one (fs_ret fe_int))
    fs_nil) (fs_cons (fs_if (ft_cmp (op_eqD hu) (fe_ix (fe_var 0) fe_int (fun _ _ => rfl)) fe_str (nomark _))
    (fs_cons (fs_if (FWx.pt (fw_or (ft_cmp (op_neD hu) (fe_blt cb_len rfl z_len bt_len (fa_cons (fe_var 0) fa_nil)) fe_int (nomark _)) (fw_or (ft_not (ft_val (fe_isi kit_int bt_isinstance bt_int rfl z_isinstance rfl z_int (fe_ix (fe_var 0) fe_int (fun _ _ => rfl)) (by decide) (by decide) (by decide) (by decide) rfl rfl rfl))) (fw_or1 (ft_val (fe_isi kit_bool bt_isinstance bt_bool rfl z_isinstance rfl z_bool (fe_ix (fe_var 0) fe_int (fun _ _ => rfl)) (by decide) (by decide) (by decide) (by decide) rfl rfl rfl))))))
    (fs_one (fs_ret fe_int))
    fs_nil) (fs_one (fs_ret (fe_ix (fe_lst (fa_cons fe_int (fa_cons fe_int fa_nil))) (fe_typ cb_int rfl z_int bt_int (fa_cons (fe_cmp (op_leD) (fe_blt cb_abs rfl z_abs bt_abs (fa_cons (fe_ix (fe_var 0) fe_int (fun _ _ => rfl)) fa_nil)) fe_int (nomark _)) fa_nil)) (fun _ _ => rfl)))))
    fs_nil) (fs_cons (fs_if (FWx.pt (fw_or (ft_cmp (op_notInD hu) (fe_ix (fe_var 0) fe_int (fun _ _ => rfl)) (fe_tup (fa_cons fe_str (fa_cons fe_str (fa_cons fe_str fa_nil)))) (by with_unfolding_all rfl)) (fw_or1 (ft_cmp (op_neD hu) (fe_blt cb_len rfl z_len bt_len (fa_cons (fe_var 0) fa_nil)) fe_int (nomark _)))))
    (fs_one (fs_ret fe_int))
    fs_nil) (fs_one (fs_ret (fe_op op_addD (fe_call k__law_count hr rfl (fa_cons (fe_ix (fe_var 0) fe_int (fun _ _ => rfl)) fa_nil)) (fe_call k__law_count hr rfl (fa_cons (fe_ix (fe_var 0) fe_int (fun _ _ => rfl)) fa_nil))))))))
theorem sc__law_odd : FnScope ["_law_number", "_law_some"] ["_law_number"] (defScope st__law_odd) := ⟨rfl, rfl, rfl, by decide +kernel, rfl, by decide +kernel, by decide +kernel⟩
set_option maxHeartbeats 40000000 in
theorem ok__law_odd (F : Fun K "_law_odd" "_law_odd" st__law_odd f fd)  : FnOk P w K mg base CX0 (n + 1) f fd ["_law_number"] (spF K (F__law_odd (n + 1))) := by
  have e : F__law_odd (n + 1) = bodyF 2 1 (f__law_odd ) := funext (e__law_odd n)
  rw [e]
  refine okF F sc__law_odd fun cdv A outer s H E hr => ?_
  have hu := hr.units
  have nd := sc__law_odd.nd
  exact (fs_cons (fs_set (i := 1) nd rfl (by first | exact Or.inl rfl | exact Or.inr rfl) (fe_lst (fa_cons (fe_un un_negD fe_int) (fa_cons fe_int (fa_cons fe_int (fa_cons fe_int (fa_cons fe_bl (fa_cons fe_non (fa_cons fe_str (fa_cons fe_str (fa_cons fe_str (fa_cons (fe_tup fa_nil) (fa_cons (fe_lst fa_nil) (fa_cons (fe_tup (fa_cons fe_str (fa_cons fe_int fa_nil))) (fa_cons (fe_tup (fa_cons fe_str fa_nil)) (fa_cons (fe_tup (fa_cons fe_str (fa_cons fe_bl fa_nil))) fa_nil)))))))))))))))) (fs_cons (fs_set (i := 1) nd rfl (by first | exact Or.inl rfl | exact Or.inr rfl) (fe_op op_addD (fe_var 1) (fe_lst (fa_cons (fe_tup (fa_cons fe_str (fa_cons (fe_tup (fa_cons fe_str (fa_cons fe_int fa_nil))) fa_nil))) (fa_cons (fe_tup (fa_cons fe_str (fa_cons fe_int fa_nil))) (fa_cons (fe_tup (fa_cons fe_str (fa_cons (fe_tup (fa_cons fe_str (fa_cons fe_int fa_nil))) (fa_cons (fe_tup (fa_cons fe_str (fa_cons fe_int fa_nil))) fa_nil)))) (fa_cons (fe_tup (fa_cons fe_str (fa_cons fe_non fa_nil))) fa_nil))))))) (fs_one (fs_ret (fe_ix (fe_op op_addD (fe_var 1) (fe_lst (fa_cons (fe_tup (fa_cons fe_str (fa_cons fe_int (fa_cons fe_int fa_nil)))) (fa_cons (fe_lst (fa_cons fe_str (fa_cons fe_int fa_nil))) (fa_cons (fe_tup (fa_cons fe_str (fa_cons (fe_un un_negD fe_int) fa_nil))) fa_nil))))) (fe_op op_modD (fe_var 0) fe_int) (fun _ _ => rfl))))))
theorem sc__law_spoilt : FnScope ["_law_thing", "_law_number", "_law_deep", "_law_at", "_law_part_here", "_law_some"] ["_law_thing", "_law_number", "_law_deep"] (defScope st__law_spoilt) := ⟨rfl, rfl, rfl, by decide +kernel, rfl, by decide +kernel, by decide +kernel⟩
set_option maxHeartbeats 40000000 in
theorem ok__law_spoilt (F : Fun K "_law_spoilt" "_law_spoilt" st__law_spoilt f fd) (k__law_spoilt : Kn P w K mg base n "_law_spoilt" ["_law_thing", "_law_number", "_law_deep"] (F__law_spoilt n)) (k__law_odd : Kn P w K mg base n "_law_odd" ["_law_number"] (F__law_odd n)) (z_isinstance : mg "isinstance" = none) (z_tuple : mg "tuple" = none) (z_len : mg "len" = none) (z_list : mg "list" = none) (z_int : mg "int" = none) (z_str : mg "str" = none) : FnOk P w K mg base CX0 (n + 1) f fd ["_law_thing", "_law_number", "_law_deep"] (spF K (F__law_spoilt (n + 1))) := by
  have e : F__law_spoilt (n + 1) = bodyF 6 3 (f__law_spoilt (F__law_spoilt n) (F__law_odd n)) := funext (e__law_spoilt n)
  rw [e]
  refine okF F sc__law_spoilt fun cdv A outer s H E hr => ?_
  have hu := hr.units
  have nd := sc__law_spoilt.nd
  exact (fs_cons (fs_if (FWx.pt (fw_and (ft_cmp (op_gtD) (fe_var 2) fe_int (nomark _)) (fw_and (ft_val (fe_isi kit_tup bt_isinstance bt_tuple rfl z_isinstance rfl z_tuple (fe_var 0) (by decide) (by decide) (by decide) (by decide) rfl rfl rfl)) (fw_and (ft_cmp (op_gtD) (fe_blt cb_len rfl z_len bt_len (fa_cons (fe_var 0) fa_nil)) fe_int (nomark _)) (fw_and1 (ft_cmp (op_gtD) (fe_op op_modD (fe_var 1) fe_int) fe_int (nomark _)))))))
    (fs_cons (fs_set (i := 3) nd rfl (by first | exact Or.inl rfl | exact Or.inr rfl) (fe_op op_modD (fe_op op_fdivD (fe_var 1) fe_int) (fe_blt cb_len rfl z_len bt_len (fa_cons (fe_var 0) fa_nil)))) (fs_cons (fs_set (i := 4) nd rfl (by first | exact Or.inl rfl | exact Or.inr rfl) (fe_call k__law_spoilt hr rfl (fa_cons (fe_ix (fe_var 0) (fe_var 3) (fun _ _ => rfl)) (fa_cons (fe_op op_fdivD (fe_var 1) fe_int) (fa_cons (fe_op op_subD (fe_var 2) fe_int) fa_nil))))) (fs_one (fs_ret (fe_op op_addD (fe_op op_addD (fe_slice (fe_var 0) fo_none (fo_some (fe_var 3))) (fe_tup (fa_cons (fe_var 4) fa_nil))) (fe_slice (fe_var 0) (fo_some (fe_op op_addD (fe_var 3) fe_int)) fo_none))))))
    fs_nil) (fs_cons (fs_if (FWx.pt (fw_and (ft_val (fe_isi kit_tup bt_isinstance bt_tuple rfl z_isinstance rfl z_tuple (fe_var 0) (by decide) (by decide) (by decide) (by decide) rfl rfl rfl)) (fw_and (ft_cmp (op_gtD) (fe_blt cb_len rfl z_len bt_len (fa_cons (fe_var 0) fa_nil)) fe_int (nomark _)) (fw_and1 (ft_cmp (op_eqD hu) (fe_op op_modD (fe_op op_fdivD (fe_var 1) fe_int) fe_int) fe_int (nomark _))))))
    (fs_cons (fs_set (i := 5) nd rfl (by first | exact Or.inl rfl | exact Or.inr rfl) (fe_lst (fa_cons (fe_typ cb_list rfl z_list bt_list (fa_cons (fe_var 0) fa_nil)) (fa_cons (fe_slice (fe_var 0) fo_none (fo_some (fe_un un_negD fe_int))) (fa_cons (fe_op op_addD (fe_var 0) (fe_slice (fe_var 0) (fo_some (fe_un un_negD fe_int)) fo_none)) (fa_cons (fe_slice (fe_var 0) (fo_some fe_int) fo_none) (fa_cons (fe_rev (fe_var 0)) (fa_cons (fe_tup (fa_cons fe_str (fa_cons (fe_var 0) (fa_cons (fe_var 0) fa_nil)))) fa_nil)))))))) (fs_one (fs_ret (fe_ix (fe_var 5) (fe_op op_modD (fe_op op_fdivD (fe_var 1) fe_int) fe_int) (fun _ _ => rfl)))))
    fs_nil) (fs_cons (fs_if (FWx.pt (fw_and (ft_val (fe_isi kit_int bt_isinstance bt_int rfl z_isinstance rfl z_int (fe_var 0) (by decide) (by decide) (by decide) (by decide) rfl rfl rfl)) (fw_and1 (ft_cmp (op_eqD hu) (fe_op op_modD (fe_op op_fdivD (fe_var 1) fe_int) fe_int) fe_int (nomark _)))))
    (fs_one (fs_ret (fe_ix (fe_lst (fa_cons (fe_typ cb_str rfl z_str bt_str (fa_cons (fe_var 0) fa_nil)) (fa_cons (fe_un un_negD (fe_var 0)) (fa_cons (fe_op op_addD (fe_var 0) fe_int) (fa_cons (fe_cmp (op_eqD hu) (fe_var 0) fe_int (nomark _)) (fa_cons (fe_op op_addD (fe_var 0) fe_int) fa_nil)))))) (fe_op op_modD (fe_op op_fdivD (fe_var 1) fe_int) fe_int) (fun _ _ => rfl))))
    fs_nil) (fs_one (fs_ret (fe_call k__law_odd hr rfl (fa_cons (fe_op op_fdivD (fe_var 1) fe_int) fa_nil)))))))
theorem sc_law : FnScope ["_law_script", "_law_tree_here", "_law_number", "_law_thing", "_law_found", "_law_here", "_law_every", "_law_address", "_law_other", "_law_word", "_law_first", "_law_second", "_law_rest"] ["_law_script"] (defScope st_law) := ⟨rfl, rfl, rfl, by decide +kernel, rfl, by decide +kernel, by decide +kernel⟩
set_option maxHeartbeats 40000000 in
theorem ok_law (F : Fun K "law" "law" st_law f fd) (k__law_mixed : Kn P w K mg base n "_law_mixed" ["_law_script", "_law_k"] (F__law_mixed n)) (k__law_drawn_tree : Kn P w K mg base n "_law_drawn_tree" ["_law_number"] (F__law_drawn_tree n)) (k__law_spoilt : Kn P w K mg base n "_law_spoilt" ["_law_thing", "_law_number", "_law_deep"] (F__law_spoilt n)) (k_is_tree : Kn P w K mg base n "is_tree" ["thing"] (F_is_tree n)) (k__law_count : Kn P w K mg base n "_law_count" ["_law_thing"] (F__law_count n)) (k_worth : Kn P w K mg base n "worth" ["tree"] (F_worth n)) (k__law_worth : Kn P w K mg base n "_law_worth" ["_law_tree_here"] (F__law_worth n)) (k__law_addresses : Kn P w K mg base n "_law_addresses" ["_law_tree_here", "_law_address"] (F__law_addresses n)) (k_part_at : Kn P w K mg base n "part_at" ["tree", "address"] (F_part_at n)) (k__law_part : Kn P w K mg base n "_law_part" ["_law_tree_here", "_law_address"] (F__law_part n)) (k_turned : Kn P w K mg base n "turned" ["tree", "address"] (F_turned n)) (z_isinstance : mg "isinstance" = none) (z_bool : mg "bool" = none) (z_len : mg "len" = none) : FnOk P w K mg base CX0 (n + 1) f fd ["_law_script"] (spF K (F_law (n + 1))) := by
  have e : F_law (n + 1) = bodyF 13 1 (f_law (F__law_mixed n) (F__law_drawn_tree n) (F__law_spoilt n) (F_is_tree n) (F__law_count n) (F_worth n) (F__law_worth n) (F__law_addresses n) (F_part_at n) (F__law_part n) (F_turned n)) := funext (e_law n)
  rw [e]
  refine okF F sc_law fun cdv A outer s H E hr => ?_
  have hu := hr.units
  have nd := sc_law.nd
  exact (fs_cons (fs_set (i := 1) nd rfl (by first | exact Or.inl rfl | exact Or.inr rfl) (fe_call k__law_drawn_tree hr rfl (fa_cons (fe_call k__law_mixed hr rfl (fa_cons (fe_var 0) (fa_cons fe_int fa_nil))) fa_nil))) (fs_cons (fs_set (i := 2) nd rfl (by first | exact Or.inl rfl | exact Or.inr rfl) (fe_call k__law_mixed hr rfl (fa_cons (fe_var 0) (fa_cons fe_int fa_nil)))) (fs_cons (fs_set (i := 3) nd rfl (by first | exact Or.inl rfl | exact Or.inr rfl) (fe_var 1)) (fs_cons (fs_if (ft_cmp (op_eqD hu) (fe_op op_modD (fe_var 2) fe_int) fe_int (nomark _))
    (fs_one (fs_set (i := 3) nd rfl (by first | exact Or.inl rfl | exact Or.inr rfl) (fe_call k__law_spoilt hr rfl (fa_cons (fe_var 1) (fa_cons (fe_call k__law_mixed hr rfl (fa_cons (fe_var 0) (fa_cons fe_int fa_nil))) (fa_cons (fe_op op_modD (fe_op op_fdivD (fe_var 2) fe_int) fe_int) fa_nil))))))
    fs_nil) (fs_cons (fs_set (i := 4) nd rfl (by first | exact Or.inl rfl | exact Or.inr rfl) (fe_call k_is_tree hr rfl (fa_cons (fe_var 3) fa_nil))) (fs_cons (fs_if (FWx.pt (fw_or (ft_not (ft_val (fe_isi kit_bool bt_isinstance bt_bool rfl z_isinstance rfl z_bool (fe_var 4) (by decide) (by decide) (by decide) (by decide) rfl rfl rfl))) (fw_or1 (ft_cmp (op_neD hu) (fe_var 4) (fe_cmp (op_leD) (fe_call k__law_count hr rfl (fa_cons (fe_var 3) fa_nil)) fe_int (nomark _)) (nomark _)))))
    (fs_one (fs_ret fe_bl))
    fs_nil) (fs_cons (fs_set (i := 5) nd rfl (by first | exact Or.inl rfl | exact Or.inr rfl) (fe_call k_worth hr rfl (fa_cons (fe_var 1) fa_nil))) (fs_cons (fs_if (FWx.pt (fw_or (ft_val (fe_isi kit_bool bt_isinstance bt_bool rfl z_isinstance rfl z_bool (fe_var 5) (by decide) (by decide) (by decide) (by decide) rfl rfl rfl)) (fw_or1 (ft_cmp (op_neD hu) (fe_var 5) (fe_call k__law_worth hr rfl (fa_cons (fe_var 1) fa_nil)) (nomark _)))))
    (fs_one (fs_ret fe_bl))
    fs_nil) (fs_cons (fs_set (i := 6) nd rfl (by first | exact Or.inl rfl | exact Or.inr rfl) (fe_call k__law_addresses hr rfl (fa_cons (fe_var 1) (fa_cons fe_str fa_nil)))) (fs_cons (fs_set (i := 7) nd rfl (by first | exact Or.inl rfl | exact Or.inr rfl) (fe_ix (fe_var 6) (fe_op op_modD (fe_call k__law_mixed hr rfl (fa_cons (fe_var 0) (fa_cons fe_int fa_nil))) (fe_blt cb_len rfl z_len bt_len (fa_cons (fe_var 6) fa_nil))) (fun _ _ => rfl))) (fs_cons (fs_if (ft_cmp (op_eqD hu) (fe_op op_modD (fe_call k__law_mixed hr rfl (fa_cons (fe_var 0) (fa_cons fe_int fa_nil))) fe_int) fe_int (nomark _))
    (fs_one (fs_set (i := 7) nd rfl (by first | exact Or.inl rfl | exact Or.inr rfl) (fe_op op_addD (fe_var 7) (fe_ix (fe_lst (fa_cons fe_str (fa_cons fe_str (fa_cons fe_str (fa_cons fe_str (fa_cons fe_str (fa_cons fe_str fa_nil))))))) (fe_op op_modD (fe_op op_fdivD (fe_call k__law_mixed hr rfl (fa_cons (fe_var 0) (fa_cons fe_int fa_nil))) fe_int) fe_int) (fun _ _ => rfl)))))
    fs_nil) (fs_cons (fs_if (ft_cmp (op_neD hu) (fe_call k_part_at hr rfl (fa_cons (fe_var 1) (fa_cons (fe_var 7) fa_nil))) (fe_call k__law_part hr rfl (fa_cons (fe_var 1) (fa_cons (fe_var 7) fa_nil))) (nomark _))
    (fs_one (fs_ret fe_bl))
    fs_nil) (fs_cons (fs_if (FWx.pt (fw_or (ft_isN (fe_call k__law_part hr rfl (fa_cons (fe_var 1) (fa_cons (fe_var 7) fa_nil)))) (fw_or1 (ft_cmp (op_eqD hu) (fe_ix (fe_call k__law_part hr rfl (fa_cons (fe_var 1) (fa_cons (fe_var 7) fa_nil))) fe_int (fun _ _ => rfl)) fe_str (nomark _)))))
    (fs_one (fs_ret fe_bl))
    fs_nil) (fs_cons (fs_set (i := 8) nd rfl (by first | exact Or.inl rfl | exact Or.inr rfl) (fe_call k_turned hr rfl (fa_cons (fe_var 1) (fa_cons (fe_var 7) fa_nil)))) (fs_cons (fs_unp rfl (fe_call k__law_part hr rfl (fa_cons (fe_var 1) (fa_cons (fe_var 7) fa_nil))) (fg_cons (i := 9) nd rfl (by first | exact Or.inl rfl | exact Or.inr rfl) (fg_cons (i := 10) nd rfl (by first | exact Or.inl rfl | exact Or.inr rfl) (fg_cons (i := 11) nd rfl (by first | exact Or.inl rfl | exact Or.inr rfl) fg_nil)))) (fs_cons (fs_if (FWx.pt (fw_or (ft_cmp (op_neD hu) (fe_call k__law_part hr rfl (fa_cons (fe_var 8) (fa_cons (fe_var 7) fa_nil))) (fe_tup (fa_cons (fe_var 9) (fa_cons (fe_var 11) (fa_cons (fe_var 10) fa_nil)))) (nomark _)) (fw_or1 (ft_cmp (op_neD hu) (fe_call k_turned hr rfl (fa_cons (fe_var 8) (fa_cons (fe_var 7) fa_nil))) (fe_var 1) (nomark _)))))
    (fs_one (fs_ret fe_bl))
    fs_nil) (fs_cons (fs_setc (i := 12) nd rfl rfl (x := "_law_some") (fr := ["_law_address"]) (caps := [7]) ⟨rfl, by decide +kernel, by decide +kernel, rfl, rfl, rfl, rfl, rfl, by decide +kernel, by with_unfolding_all rfl⟩ (fe_var 6) (fun C s₀ H₀ ex => (FWx.pt (fw_and (ft_not (ft_val (fe_startswith (fe_var 0) (fe_var 1)))) (fw_and1 (ft_not (ft_val (fe_startswith (fe_var 1) (fe_var 0)))))))) (fun C s₀ H₀ ex => (fe_var 0))) (fs_one (fs_ret (fe_cmp (op_eqD hu) (fe_comp (x := "_law_some") (fr := ["_law_other", "_law_tree_here"]) (caps := [8, 1]) ⟨rfl, by decide +kernel, by decide +kernel, rfl, rfl, rfl, rfl, rfl, by decide +kernel, by with_unfolding_all rfl⟩ (fe_var 12) (fun C s₀ H₀ ex => (ft_cmp (op_neD hu) (fe_call k__law_part hr rfl (fa_cons (fe_var 1) (fa_cons (fe_var 0) fa_nil))) (fe_call k__law_part hr rfl (fa_cons (fe_var 2) (fa_cons (fe_var 0) fa_nil))) (nomark _))) (fun C s₀ H₀ ex => (fe_var 0))) (fe_lst fa_nil) (nomark _)))))))))))))))))))))
/-- a def of the text as it stands behind the top -/
structure Df (K : PySem.W.Frag) (mg : Str → Option Value) (x : Str) (st : Stmt) (ps : List Str) : Prop where
  ex : ∃ (f : Addr) (fd : FuncData), Fun K x x st f fd ∧ mg x = some (.ref f) ∧ Binds K fd ps []
structure Lv (P : Program) (w : World) (K : PySem.W.Frag) (mg : Str → Option Value) (base : Heap) (n : Nat) : Prop where
  k_is_whole : Kn P w K mg base n "is_whole" ["thing"] (F_is_whole n)
  k_is_number : Kn P w K mg base n "is_number" ["thing"] (F_is_number n)
  k_has_join_form : Kn P w K mg base n "has_join_form" ["thing"] (F_has_join_form n)
  k_count_numbers : Kn P w K mg base n "count_numbers" ["thing", "most"] (F_count_numbers n)
  k_is_tree : Kn P w K mg base n "is_tree" ["thing"] (F_is_tree n)
  k_joined_worth : Kn P w K mg base n "joined_worth" ["kind", "one", "other"] (F_joined_worth n)
  k_worth : Kn P w K mg base n "worth" ["tree"] (F_worth n)
  k_part_at : Kn P w K mg base n "part_at" ["tree", "address"] (F_part_at n)
  k_turned : Kn P w K mg base n "turned" ["tree", "address"] (F_turned n)
  k__law_cell_at : Kn P w K mg base n "_law_cell_at" ["_law_script", "_law_k"] (F__law_cell_at n)
  k__law_mixed : Kn P w K mg base n "_law_mixed" ["_law_script", "_law_k"] (F__law_mixed n)
  k__law_drawn : Kn P w K mg base n "_law_drawn" ["_law_number", "_law_k"] (F__law_drawn n)
  k__law_tree : Kn P w K mg base n "_law_tree" ["_law_number", "_law_many", "_law_kind"] (F__law_tree n)
  k__law_drawn_tree : Kn P w K mg base n "_law_drawn_tree" ["_law_number"] (F__law_drawn_tree n)
  k__law_part : Kn P w K mg base n "_law_part" ["_law_tree_here", "_law_address"] (F__law_part n)
  k__law_addresses : Kn P w K mg base n "_law_addresses" ["_law_tree_here", "_law_address"] (F__law_addresses n)
  k__law_worth : Kn P w K mg base n "_law_worth" ["_law_tree_here"] (F__law_worth n)
  k__law_count : Kn P w K mg base n "_law_count" ["_law_thing"] (F__law_count n)
  k__law_odd : Kn P w K mg base n "_law_odd" ["_law_number"] (F__law_odd n)
  k__law_spoilt : Kn P w K mg base n "_law_spoilt" ["_law_thing", "_law_number", "_law_deep"] (F__law_spoilt n)
  k_law : Kn P w K mg base n "law" ["_law_script"] (F_law n)
theorem kn0 {x : Str} {ps : List Str} {st : Stmt} {F : List D → Option D} (d : Df K mg x st ps) (h : ∀ ds, F ds = none) : Kn P w K mg base 0 x ps F := by
  obtain ⟨f, fd, G, hm, hb⟩ := d.ex
  have no : ∀ vs H Q E, ¬ spF K F vs H Q E := fun vs H Q E h' => by
    obtain ⟨ds, d, _, e, _⟩ := h'
    rw [h ds] at e; cases e
  exact ⟨f, fd, ⟨fun vs H Q E h => absurd h (no vs H Q E), fun A outer s H args us vs Q E _ _ _ _ h => absurd h (no vs H Q E)⟩, hm, G.kp, hb⟩
theorem lv (d_is_whole : Df K mg "is_whole" st_is_whole ["thing"]) (d_is_number : Df K mg "is_number" st_is_number ["thing"]) (d_has_join_form : Df K mg "has_join_form" st_has_join_form ["thing"]) (d_count_numbers : Df K mg "count_numbers" st_count_numbers ["thing", "most"]) (d_is_tree : Df K mg "is_tree" st_is_tree ["thing"]) (d_joined_worth : Df K mg "joined_worth" st_joined_worth ["kind", "one", "other"]) (d_worth : Df K mg "worth" st_worth ["tree"]) (d_part_at : Df K mg "part_at" st_part_at ["tree", "address"]) (d_turned : Df K mg "turned" st_turned ["tree", "address"]) (d__law_cell_at : Df K mg "_law_cell_at" st__law_cell_at ["_law_script", "_law_k"]) (d__law_mixed : Df K mg "_law_mixed" st__law_mixed ["_law_script", "_law_k"]) (d__law_drawn : Df K mg "_law_drawn" st__law_drawn ["_law_number", "_law_k"]) (d__law_tree : Df K mg "_law_tree" st__law_tree ["_law_number", "_law_many", "_law_kind"]) (d__law_drawn_tree : Df K mg "_law_drawn_tree" st__law_drawn_tree ["_law_number"]) (d__law_part : Df K mg "_law_part" st__law_part ["_law_tree_here", "_law_address"]) (d__law_addresses : Df K mg "_law_addresses" st__law_addresses ["_law_tree_here", "_law_address"]) (d__law_worth : Df K mg "_law_worth" st__law_worth ["_law_tree_here"]) (d__law_count : Df K mg "_law_count" st__law_count ["_law_thing"]) (d__law_odd : Df K mg "_law_odd" st__law_odd ["_law_number"]) (d__law_spoilt : Df K mg "_law_spoilt" st__law_spoilt ["_law_thing", "_law_number", "_law_deep"]) (d_law : Df K mg "law" st_law ["_law_script"]) (z_isinstance : mg "isinstance" = none) (z_int : mg "int" = none) (z_bool : mg "bool" = none) (z_tuple : mg "tuple" = none) (z_len : mg "len" = none) (z_abs : mg "abs" = none) (z_str : mg "str" = none) (z_list : mg "list" = none) (g_GREATEST_NUMBER : Gc K mg "GREATEST_NUMBER" c_GREATEST_NUMBER) (g_JOIN_KINDS : Gc K mg "JOIN_KINDS" c_JOIN_KINDS) (g_MOST_NUMBERS : Gc K mg "MOST_NUMBERS" c_MOST_NUMBERS) : ∀ n, Lv P w K mg base n
  | 0 => ⟨kn0 d_is_whole fun _ => rfl, kn0 d_is_number fun _ => rfl, kn0 d_has_join_form fun _ => rfl, kn0 d_count_numbers fun _ => rfl, kn0 d_is_tree fun _ => rfl, kn0 d_joined_worth fun _ => rfl, kn0 d_worth fun _ => rfl, kn0 d_part_at fun _ => rfl, kn0 d_turned fun _ => rfl, kn0 d__law_cell_at fun _ => rfl, kn0 d__law_mixed fun _ => rfl, kn0 d__law_drawn fun _ => rfl, kn0 d__law_tree fun _ => rfl, kn0 d__law_drawn_tree fun _ => rfl, kn0 d__law_part fun _ => rfl, kn0 d__law_addresses fun _ => rfl, kn0 d__law_worth fun _ => rfl, kn0 d__law_count fun _ => rfl, kn0 d__law_odd fun _ => rfl, kn0 d__law_spoilt fun _ => rfl, kn0 d_law fun _ => rfl⟩
  | n + 1 => by
    have ih := lv d_is_whole d_is_number d_has_join_form d_count_numbers d_is_tree d_joined_worth d_worth d_part_at d_turned d__law_cell_at d__law_mixed d__law_drawn d__law_tree d__law_drawn_tree d__law_part d__law_addresses d__law_worth d__law_count d__law_odd d__law_spoilt d_law z_isinstance z_int z_bool z_tuple z_len z_abs z_str z_list g_GREATEST_NUMBER g_JOIN_KINDS g_MOST_NUMBERS n
    obtain ⟨a_is_whole, b_is_whole, u_is_whole, m_is_whole, w_is_whole⟩ := d_is_whole.ex
    obtain ⟨a_is_number, b_is_number, u_is_number, m_is_number, w_is_number⟩ := d_is_number.ex
    obtain ⟨a_has_join_form, b_has_join_form, u_has_join_form, m_has_join_form, w_has_join_form⟩ := d_has_join_form.ex
    obtain ⟨a_count_numbers, b_count_numbers, u_count_numbers, m_count_numbers, w_count_numbers⟩ := d_count_numbers.ex
    obtain ⟨a_is_tree, b_is_tree, u_is_tree, m_is_tree, w_is_tree⟩ := d_is_tree.ex
    obtain ⟨a_joined_worth, b_joined_worth, u_joined_worth, m_joined_worth, w_joined_worth⟩ := d_joined_worth.ex
    obtain ⟨a_worth, b_worth, u_worth, m_worth, w_worth⟩ := d_worth.ex
    obtain ⟨a_part_at, b_part_at, u_part_at, m_part_at, w_part_at⟩ := d_part_at.ex
    obtain ⟨a_turned, b_turned, u_turned, m_turned, w_turned⟩ := d_turned.ex
    obtain ⟨a__law_cell_at, b__law_cell_at, u__law_cell_at, m__law_cell_at, w__law_cell_at⟩ := d__law_cell_at.ex
    obtain ⟨a__law_mixed, b__law_mixed, u__law_mixed, m__law_mixed, w__law_mixed⟩ := d__law_mixed.ex
    obtain ⟨a__law_drawn, b__law_drawn, u__law_drawn, m__law_drawn, w__law_drawn⟩ := d__law_drawn.ex
    obtain ⟨a__law_tree, b__law_tree, u__law_tree, m__law_tree, w__law_tree⟩ := d__law_tree.ex
    obtain ⟨a__law_drawn_tree, b__law_drawn_tree, u__law_drawn_tree, m__law_drawn_tree, w__law_drawn_tree⟩ := d__law_drawn_tree.ex
    obtain ⟨a__law_part, b__law_part, u__law_part, m__law_part, w__law_part⟩ := d__law_part.ex
    obtain ⟨a__law_addresses, b__law_addresses, u__law_addresses, m__law_addresses, w__law_addresses⟩ := d__law_addresses.ex
    obtain ⟨a__law_worth, b__law_worth, u__law_worth, m__law_worth, w__law_worth⟩ := d__law_worth.ex
    obtain ⟨a__law_count, b__law_count, u__law_count, m__law_count, w__law_count⟩ := d__law_count.ex
    obtain ⟨a__law_odd, b__law_odd, u__law_odd, m__law_odd, w__law_odd⟩ := d__law_odd.ex
    obtain ⟨a__law_spoilt, b__law_spoilt, u__law_spoilt, m__law_spoilt, w__law_spoilt⟩ := d__law_spoilt.ex
    obtain ⟨a_law, b_law, u_law, m_law, w_law⟩ := d_law.ex
    exact ⟨⟨a_is_whole, b_is_whole, ok_is_whole u_is_whole z_isinstance z_int z_bool, m_is_whole, u_is_whole.kp, w_is_whole⟩, ⟨a_is_number, b_is_number, ok_is_number u_is_number ih.k_is_whole z_isinstance z_tuple z_len z_abs g_GREATEST_NUMBER, m_is_number, u_is_number.kp, w_is_number⟩, ⟨a_has_join_form, b_has_join_form, ok_has_join_form u_has_join_form z_isinstance z_tuple z_len g_JOIN_KINDS, m_has_join_form, u_has_join_form.kp, w_has_join_form⟩, ⟨a_count_numbers, b_count_numbers, ok_count_numbers u_count_numbers ih.k_is_number ih.k_has_join_form ih.k_count_numbers, m_count_numbers, u_count_numbers.kp, w_count_numbers⟩, ⟨a_is_tree, b_is_tree, ok_is_tree u_is_tree ih.k_count_numbers g_MOST_NUMBERS, m_is_tree, u_is_tree.kp, w_is_tree⟩, ⟨a_joined_worth, b_joined_worth, ok_joined_worth u_joined_worth , m_joined_worth, u_joined_worth.kp, w_joined_worth⟩, ⟨a_worth, b_worth, ok_worth u_worth ih.k_worth ih.k_joined_worth, m_worth, u_worth.kp, w_worth⟩, ⟨a_part_at, b_part_at, ok_part_at u_part_at , m_part_at, u_part_at.kp, w_part_at⟩, ⟨a_turned, b_turned, ok_turned u_turned ih.k_turned, m_turned, u_turned.kp, w_turned⟩, ⟨a__law_cell_at, b__law_cell_at, ok__law_cell_at u__law_cell_at z_len, m__law_cell_at, u__law_cell_at.kp, w__law_cell_at⟩, ⟨a__law_mixed, b__law_mixed, ok__law_mixed u__law_mixed ih.k__law_cell_at, m__law_mixed, u__law_mixed.kp, w__law_mixed⟩, ⟨a__law_drawn, b__law_drawn, ok__law_drawn u__law_drawn , m__law_drawn, u__law_drawn.kp, w__law_drawn⟩, ⟨a__law_tree, b__law_tree, ok__law_tree u__law_tree ih.k__law_drawn ih.k__law_tree, m__law_tree, u__law_tree.kp, w__law_tree⟩, ⟨a__law_drawn_tree, b__law_drawn_tree, ok__law_drawn_tree u__law_drawn_tree ih.k__law_tree, m__law_drawn_tree, u__law_drawn_tree.kp, w__law_drawn_tree⟩, ⟨a__law_part, b__law_part, ok__law_part u__law_part , m__law_part, u__law_part.kp, w__law_part⟩, ⟨a__law_addresses, b__law_addresses, ok__law_addresses u__law_addresses ih.k__law_addresses, m__law_addresses, u__law_addresses.kp, w__law_addresses⟩, ⟨a__law_worth, b__law_worth, ok__law_worth u__law_worth ih.k__law_worth z_int, m__law_worth, u__law_worth.kp, w__law_worth⟩, ⟨a__law_count, b__law_count, ok__law_count u__law_count ih.k__law_count z_isinstance z_tuple z_len z_str z_int z_bool z_abs, m__law_count, u__law_count.kp, w__law_count⟩, ⟨a__law_odd, b__law_odd, ok__law_odd u__law_odd , m__law_odd, u__law_odd.kp, w__law_odd⟩, ⟨a__law_spoilt, b__law_spoilt, ok__law_spoilt u__law_spoilt ih.k__law_spoilt ih.k__law_odd z_isinstance z_tuple z_len z_list z_int z_str, m__law_spoilt, u__law_spoilt.kp, w__law_spoilt⟩, ⟨a_law, b_law, ok_law u_law ih.k__law_mixed ih.k__law_drawn_tree ih.k__law_spoilt ih.k_is_tree ih.k__law_count ih.k_worth ih.k__law_worth ih.k__law_addresses ih.k_part_at ih.k__law_part ih.k_turned z_isinstance z_bool z_len, m_law, u_law.kp, w_law⟩⟩
end
theorem all_mk {l : PySem.W.OpenLaw} {w : World} {K : PySem.W.Frag} {h : Heap} {mg : Str → Option Value} {fa : Addr} (X : K.In h) (G : h.Ns mainGlobals mg) (hfa : mg "law" = some (.ref fa))
    {f0 : Addr} {od0 an0 : Option Addr} {sl0 : Array (Option Value)} {oc0 kV0 dc0 pm0 cd0 ct0 : Value} {f1 : Addr} {od1 an1 : Option Addr} {sl1 : Array (Option Value)} {oc1 kV1 dc1 pm1 cd1 ct1 : Value} {f2 : Addr} {od2 an2 : Option Addr} {sl2 : Array (Option Value)} {oc2 kV2 dc2 pm2 cd2 ct2 : Value} {f3 : Addr} {od3 an3 : Option Addr} {sl3 : Array (Option Value)} {oc3 kV3 dc3 pm3 cd3 ct3 : Value} {f4 : Addr} {od4 an4 : Option Addr} {sl4 : Array (Option Value)} {oc4 kV4 dc4 pm4 cd4 ct4 : Value} {f5 : Addr} {od5 an5 : Option Addr} {sl5 : Array (Option Value)} {oc5 kV5 dc5 pm5 cd5 ct5 : Value} {f6 : Addr} {od6 an6 : Option Addr} {sl6 : Array (Option Value)} {oc6 kV6 dc6 pm6 cd6 ct6 : Value} {f7 : Addr} {od7 an7 : Option Addr} {sl7 : Array (Option Value)} {oc7 kV7 dc7 pm7 cd7 ct7 : Value} {f8 : Addr} {od8 an8 : Option Addr} {sl8 : Array (Option Value)} {oc8 kV8 dc8 pm8 cd8 ct8 : Value} {f9 : Addr} {od9 an9 : Option Addr} {sl9 : Array (Option Value)} {oc9 kV9 dc9 pm9 cd9 ct9 : Value} {f10 : Addr} {od10 an10 : Option Addr} {sl10 : Array (Option Value)} {oc10 kV10 dc10 pm10 cd10 ct10 : Value} {f11 : Addr} {od11 an11 : Option Addr} {sl11 : Array (Option Value)} {oc11 kV11 dc11 pm11 cd11 ct11 : Value} {f12 : Addr} {od12 an12 : Option Addr} {sl12 : Array (Option Value)} {oc12 kV12 dc12 pm12 cd12 ct12 : Value} {f13 : Addr} {od13 an13 : Option Addr} {sl13 : Array (Option Value)} {oc13 kV13 dc13 pm13 cd13 ct13 : Value} {f14 : Addr} {od14 an14 : Option Addr} {sl14 : Array (Option Value)} {oc14 kV14 dc14 pm14 cd14 ct14 : Value} {f15 : Addr} {od15 an15 : Option Addr} {sl15 : Array (Option Value)} {oc15 kV15 dc15 pm15 cd15 ct15 : Value} {f16 : Addr} {od16 an16 : Option Addr} {sl16 : Array (Option Value)} {oc16 kV16 dc16 pm16 cd16 ct16 : Value} {f17 : Addr} {od17 an17 : Option Addr} {sl17 : Array (Option Value)} {oc17 kV17 dc17 pm17 cd17 ct17 : Value} {f18 : Addr} {od18 an18 : Option Addr} {sl18 : Array (Option Value)} {oc18 kV18 dc18 pm18 cd18 ct18 : Value} {f19 : Addr} {od19 an19 : Option Addr} {sl19 : Array (Option Value)} {oc19 kV19 dc19 pm19 cd19 ct19 : Value} {f20 : Addr} {od20 an20 : Option Addr} {sl20 : Array (Option Value)} {oc20 kV20 dc20 pm20 cd20 ct20 : Value} {gt0 : Tok} {gf1 : Addr} {gd1 : Option Addr} {gs1 : Array (Option Value)} {gn1 : Nat} {gt1_0 : Tok} {gt1_1 : Tok} {gt1_2 : Tok} {gt2 : Tok}
    (a0 : PySem.W.nsIn K mainGlobals "is_whole" = some (some (.ref f0))) (l0 : K.lookup f0 = some ⟨oc0, od0, .func (PySem.W.fnOf "is_whole" "is_whole" (defArgs st_is_whole) (defBody st_is_whole) (defScope st_is_whole) .none kV0 dc0 pm0 an0 cd0 ct0), sl0⟩) (c0 : PySem.W.codeIn K cd0 "is_whole" = true) (k0 : PySem.W.keepIn K (.ref f0) = true)
    (a1 : PySem.W.nsIn K mainGlobals "is_number" = some (some (.ref f1))) (l1 : K.lookup f1 = some ⟨oc1, od1, .func (PySem.W.fnOf "is_number" "is_number" (defArgs st_is_number) (defBody st_is_number) (defScope st_is_number) .none kV1 dc1 pm1 an1 cd1 ct1), sl1⟩) (c1 : PySem.W.codeIn K cd1 "is_number" = true) (k1 : PySem.W.keepIn K (.ref f1) = true)
    (a2 : PySem.W.nsIn K mainGlobals "has_join_form" = some (some (.ref f2))) (l2 : K.lookup f2 = some ⟨oc2, od2, .func (PySem.W.fnOf "has_join_form" "has_join_form" (defArgs st_has_join_form) (defBody st_has_join_form) (defScope st_has_join_form) .none kV2 dc2 pm2 an2 cd2 ct2), sl2⟩) (c2 : PySem.W.codeIn K cd2 "has_join_form" = true) (k2 : PySem.W.keepIn K (.ref f2) = true)
    (a3 : PySem.W.nsIn K mainGlobals "count_numbers" = some (some (.ref f3))) (l3 : K.lookup f3 = some ⟨oc3, od3, .func (PySem.W.fnOf "count_numbers" "count_numbers" (defArgs st_count_numbers) (defBody st_count_numbers) (defScope st_count_numbers) .none kV3 dc3 pm3 an3 cd3 ct3), sl3⟩) (c3 : PySem.W.codeIn K cd3 "count_numbers" = true) (k3 : PySem.W.keepIn K (.ref f3) = true)
    (a4 : PySem.W.nsIn K mainGlobals "is_tree" = some (some (.ref f4))) (l4 : K.lookup f4 = some ⟨oc4, od4, .func (PySem.W.fnOf "is_tree" "is_tree" (defArgs st_is_tree) (defBody st_is_tree) (defScope st_is_tree) .none kV4 dc4 pm4 an4 cd4 ct4), sl4⟩) (c4 : PySem.W.codeIn K cd4 "is_tree" = true) (k4 : PySem.W.keepIn K (.ref f4) = true)
    (a5 : PySem.W.nsIn K mainGlobals "joined_worth" = some (some (.ref f5))) (l5 : K.lookup f5 = some ⟨oc5, od5, .func (PySem.W.fnOf "joined_worth" "joined_worth" (defArgs st_joined_worth) (defBody st_joined_worth) (defScope st_joined_worth) .none kV5 dc5 pm5 an5 cd5 ct5), sl5⟩) (c5 : PySem.W.codeIn K cd5 "joined_worth" = true) (k5 : PySem.W.keepIn K (.ref f5) = true)
    (a6 : PySem.W.nsIn K mainGlobals "worth" = some (some (.ref f6))) (l6 : K.lookup f6 = some ⟨oc6, od6, .func (PySem.W.fnOf "worth" "worth" (defArgs st_worth) (defBody st_worth) (defScope st_worth) .none kV6 dc6 pm6 an6 cd6 ct6), sl6⟩) (c6 : PySem.W.codeIn K cd6 "worth" = true) (k6 : PySem.W.keepIn K (.ref f6) = true)
    (a7 : PySem.W.nsIn K mainGlobals "part_at" = some (some (.ref f7))) (l7 : K.lookup f7 = some ⟨oc7, od7, .func (PySem.W.fnOf "part_at" "part_at" (defArgs st_part_at) (defBody st_part_at) (defScope st_part_at) .none kV7 dc7 pm7 an7 cd7 ct7), sl7⟩) (c7 : PySem.W.codeIn K cd7 "part_at" = true) (k7 : PySem.W.keepIn K (.ref f7) = true)
    (a8 : PySem.W.nsIn K mainGlobals "turned" = some (some (.ref f8))) (l8 : K.lookup f8 = some ⟨oc8, od8, .func (PySem.W.fnOf "turned" "turned" (defArgs st_turned) (defBody st_turned) (defScope st_turned) .none kV8 dc8 pm8 an8 cd8 ct8), sl8⟩) (c8 : PySem.W.codeIn K cd8 "turned" = true) (k8 : PySem.W.keepIn K (.ref f8) = true)
    (a9 : PySem.W.nsIn K mainGlobals "_law_cell_at" = some (some (.ref f9))) (l9 : K.lookup f9 = some ⟨oc9, od9, .func (PySem.W.fnOf "_law_cell_at" "_law_cell_at" (defArgs st__law_cell_at) (defBody st__law_cell_at) (defScope st__law_cell_at) .none kV9 dc9 pm9 an9 cd9 ct9), sl9⟩) (c9 : PySem.W.codeIn K cd9 "_law_cell_at" = true) (k9 : PySem.W.keepIn K (.ref f9) = true)
    (a10 : PySem.W.nsIn K mainGlobals "_law_mixed" = some (some (.ref f10))) (l10 : K.lookup f10 = some ⟨oc10, od10, .func (PySem.W.fnOf "_law_mixed" "_law_mixed" (defArgs st__law_mixed) (defBody st__law_mixed) (defScope st__law_mixed) .none kV10 dc10 pm10 an10 cd10 ct10), sl10⟩) (c10 : PySem.W.codeIn K cd10 "_law_mixed" = true) (k10 : PySem.W.keepIn K (.ref f10) = true)
    (a11 : PySem.W.nsIn K mainGlobals "_law_drawn" = some (some (.ref f11))) (l11 : K.lookup f11 = some ⟨oc11, od11, .func (PySem.W.fnOf "_law_drawn" "_law_drawn" (defArgs st__law_drawn) (defBody st__law_drawn) (defScope st__law_drawn) .none kV11 dc11 pm11 an11 cd11 ct11), sl11⟩) (c11 : PySem.W.codeIn K cd11 "_law_drawn" = true) (k11 : PySem.W.keepIn K (.ref f11) = true)
    (a12 : PySem.W.nsIn K mainGlobals "_law_tree" = some (some (.ref f12))) (l12 : K.lookup f12 = some ⟨oc12, od12, .func (PySem.W.fnOf "_law_tree" "_law_tree" (defArgs st__law_tree) (defBody st__law_tree) (defScope st__law_tree) .none kV12 dc12 pm12 an12 cd12 ct12), sl12⟩) (c12 : PySem.W.codeIn K cd12 "_law_tree" = true) (k12 : PySem.W.keepIn K (.ref f12) = true)
    (a13 : PySem.W.nsIn K mainGlobals "_law_drawn_tree" = some (some (.ref f13))) (l13 : K.lookup f13 = some ⟨oc13, od13, .func (PySem.W.fnOf "_law_drawn_tree" "_law_drawn_tree" (defArgs st__law_drawn_tree) (defBody st__law_drawn_tree) (defScope st__law_drawn_tree) .none kV13 dc13 pm13 an13 cd13 ct13), sl13⟩) (c13 : PySem.W.codeIn K cd13 "_law_drawn_tree" = true) (k13 : PySem.W.keepIn K (.ref f13) = true)
    (a14 : PySem.W.nsIn K mainGlobals "_law_part" = some (some (.ref f14))) (l14 : K.lookup f14 = some ⟨oc14, od14, .func (PySem.W.fnOf "_law_part" "_law_part" (defArgs st__law_part) (defBody st__law_part) (defScope st__law_part) .none kV14 dc14 pm14 an14 cd14 ct14), sl14⟩) (c14 : PySem.W.codeIn K cd14 "_law_part" = true) (k14 : PySem.W.keepIn K (.ref f14) = true)
    (a15 : PySem.W.nsIn K mainGlobals "_law_addresses" = some (some (.ref f15))) (l15 : K.lookup f15 = some ⟨oc15, od15, .func (PySem.W.fnOf "_law_addresses" "_law_addresses" (defArgs st__law_addresses) (defBody st__law_addresses) (defScope st__law_addresses) .none kV15 dc15 pm15 an15 cd15 ct15), sl15⟩) (c15 : PySem.W.codeIn K cd15 "_law_addresses" = true) (k15 : PySem.W.keepIn K (.ref f15) = true)
    (a16 : PySem.W.nsIn K mainGlobals "_law_worth" = some (some (.ref f16))) (l16 : K.lookup f16 = some ⟨oc16, od16, .func (PySem.W.fnOf "_law_worth" "_law_worth" (defArgs st__law_worth) (defBody st__law_worth) (defScope st__law_worth) .none kV16 dc16 pm16 an16 cd16 ct16), sl16⟩) (c16 : PySem.W.codeIn K cd16 "_law_worth" = true) (k16 : PySem.W.keepIn K (.ref f16) = true)
    (a17 : PySem.W.nsIn K mainGlobals "_law_count" = some (some (.ref f17))) (l17 : K.lookup f17 = some ⟨oc17, od17, .func (PySem.W.fnOf "_law_count" "_law_count" (defArgs st__law_count) (defBody st__law_count) (defScope st__law_count) .none kV17 dc17 pm17 an17 cd17 ct17), sl17⟩) (c17 : PySem.W.codeIn K cd17 "_law_count" = true) (k17 : PySem.W.keepIn K (.ref f17) = true)
    (a18 : PySem.W.nsIn K mainGlobals "_law_odd" = some (some (.ref f18))) (l18 : K.lookup f18 = some ⟨oc18, od18, .func (PySem.W.fnOf "_law_odd" "_law_odd" (defArgs st__law_odd) (defBody st__law_odd) (defScope st__law_odd) .none kV18 dc18 pm18 an18 cd18 ct18), sl18⟩) (c18 : PySem.W.codeIn K cd18 "_law_odd" = true) (k18 : PySem.W.keepIn K (.ref f18) = true)
    (a19 : PySem.W.nsIn K mainGlobals "_law_spoilt" = some (some (.ref f19))) (l19 : K.lookup f19 = some ⟨oc19, od19, .func (PySem.W.fnOf "_law_spoilt" "_law_spoilt" (defArgs st__law_spoilt) (defBody st__law_spoilt) (defScope st__law_spoilt) .none kV19 dc19 pm19 an19 cd19 ct19), sl19⟩) (c19 : PySem.W.codeIn K cd19 "_law_spoilt" = true) (k19 : PySem.W.keepIn K (.ref f19) = true)
    (a20 : PySem.W.nsIn K mainGlobals "law" = some (some (.ref f20))) (l20 : K.lookup f20 = some ⟨oc20, od20, .func (PySem.W.fnOf "law" "law" (defArgs st_law) (defBody st_law) (defScope st_law) .none kV20 dc20 pm20 an20 cd20 ct20), sl20⟩) (c20 : PySem.W.codeIn K cd20 "law" = true) (k20 : PySem.W.keepIn K (.ref f20) = true)
    (z0 : PySem.W.nsIn K mainGlobals "isinstance" = some none)
    (z1 : PySem.W.nsIn K mainGlobals "int" = some none)
    (z2 : PySem.W.nsIn K mainGlobals "bool" = some none)
    (z3 : PySem.W.nsIn K mainGlobals "tuple" = some none)
    (z4 : PySem.W.nsIn K mainGlobals "len" = some none)
    (z5 : PySem.W.nsIn K mainGlobals "abs" = some none)
    (z6 : PySem.W.nsIn K mainGlobals "str" = some none)
    (z7 : PySem.W.nsIn K mainGlobals "list" = some none)
    (ga0 : PySem.W.nsIn K mainGlobals "GREATEST_NUMBER" = some (some (.int 1000 gt0)))
    (ga1 : PySem.W.nsIn K mainGlobals "JOIN_KINDS" = some (some (.ref gf1))) (gl1 : K.lookup gf1 = some ⟨.type "tuple", gd1, .seq #[.str "plus" gt1_0, .str "less" gt1_1, .str "times" gt1_2] gn1, gs1⟩)
    (ga2 : PySem.W.nsIn K mainGlobals "MOST_NUMBERS" = some (some (.int 16 gt2))) :
    ∃ fd : FuncData, (∀ (s : Shared) (v : Value), BindsTo s fd ⟨[v], []⟩ [("_law_script", v)]) ∧ ∀ base : Heap, K.In base → base.Ns mainGlobals mg → FnOk l.prog w K mg base CX0 FUEL fa fd ["_law_script"] (spLaw K) := by
  have e := hfa.symm.trans (PySem.W.mg_of X G a20)
  cases e
  have D0 : Df K mg "is_whole" st_is_whole ["thing"] := ⟨_, _, fun_mk (st := st_is_whole) l0 c0 k0, PySem.W.mg_of X G a0, (fun_mk (st := st_is_whole) l0 c0 k0).binds (ps := ["thing"]) fun _ _ _ _ _ _ us hl => match us, hl with | [_], _ => rfl⟩
  have D1 : Df K mg "is_number" st_is_number ["thing"] := ⟨_, _, fun_mk (st := st_is_number) l1 c1 k1, PySem.W.mg_of X G a1, (fun_mk (st := st_is_number) l1 c1 k1).binds (ps := ["thing"]) fun _ _ _ _ _ _ us hl => match us, hl with | [_], _ => rfl⟩
  have D2 : Df K mg "has_join_form" st_has_join_form ["thing"] := ⟨_, _, fun_mk (st := st_has_join_form) l2 c2 k2, PySem.W.mg_of X G a2, (fun_mk (st := st_has_join_form) l2 c2 k2).binds (ps := ["thing"]) fun _ _ _ _ _ _ us hl => match us, hl with | [_], _ => rfl⟩
  have D3 : Df K mg "count_numbers" st_count_numbers ["thing", "most"] := ⟨_, _, fun_mk (st := st_count_numbers) l3 c3 k3, PySem.W.mg_of X G a3, (fun_mk (st := st_count_numbers) l3 c3 k3).binds (ps := ["thing", "most"]) fun _ _ _ _ _ _ us hl => match us, hl with | [_, _], _ => rfl⟩
  have D4 : Df K mg "is_tree" st_is_tree ["thing"] := ⟨_, _, fun_mk (st := st_is_tree) l4 c4 k4, PySem.W.mg_of X G a4, (fun_mk (st := st_is_tree) l4 c4 k4).binds (ps := ["thing"]) fun _ _ _ _ _ _ us hl => match us, hl with | [_], _ => rfl⟩
  have D5 : Df K mg "joined_worth" st_joined_worth ["kind", "one", "other"] := ⟨_, _, fun_mk (st := st_joined_worth) l5 c5 k5, PySem.W.mg_of X G a5, (fun_mk (st := st_joined_worth) l5 c5 k5).binds (ps := ["kind", "one", "other"]) fun _ _ _ _ _ _ us hl => match us, hl with | [_, _, _], _ => rfl⟩
  have D6 : Df K mg "worth" st_worth ["tree"] := ⟨_, _, fun_mk (st := st_worth) l6 c6 k6, PySem.W.mg_of X G a6, (fun_mk (st := st_worth) l6 c6 k6).binds (ps := ["tree"]) fun _ _ _ _ _ _ us hl => match us, hl with | [_], _ => rfl⟩
  have D7 : Df K mg "part_at" st_part_at ["tree", "address"] := ⟨_, _, fun_mk (st := st_part_at) l7 c7 k7, PySem.W.mg_of X G a7, (fun_mk (st := st_part_at) l7 c7 k7).binds (ps := ["tree", "address"]) fun _ _ _ _ _ _ us hl => match us, hl with | [_, _], _ => rfl⟩
  have D8 : Df K mg "turned" st_turned ["tree", "address"] := ⟨_, _, fun_mk (st := st_turned) l8 c8 k8, PySem.W.mg_of X G a8, (fun_mk (st := st_turned) l8 c8 k8).binds (ps := ["tree", "address"]) fun _ _ _ _ _ _ us hl => match us, hl with | [_, _], _ => rfl⟩
  have D9 : Df K mg "_law_cell_at" st__law_cell_at ["_law_script", "_law_k"] := ⟨_, _, fun_mk (st := st__law_cell_at) l9 c9 k9, PySem.W.mg_of X G a9, (fun_mk (st := st__law_cell_at) l9 c9 k9).binds (ps := ["_law_script", "_law_k"]) fun _ _ _ _ _ _ us hl => match us, hl with | [_, _], _ => rfl⟩
  have D10 : Df K mg "_law_mixed" st__law_mixed ["_law_script", "_law_k"] := ⟨_, _, fun_mk (st := st__law_mixed) l10 c10 k10, PySem.W.mg_of X G a10, (fun_mk (st := st__law_mixed) l10 c10 k10).binds (ps := ["_law_script", "_law_k"]) fun _ _ _ _ _ _ us hl => match us, hl with | [_, _], _ => rfl⟩
  have D11 : Df K mg "_law_drawn" st__law_drawn ["_law_number", "_law_k"] := ⟨_, _, fun_mk (st := st__law_drawn) l11 c11 k11, PySem.W.mg_of X G a11, (fun_mk (st := st__law_drawn) l11 c11 k11).binds (ps := ["_law_number", "_law_k"]) fun _ _ _ _ _ _ us hl => match us, hl with | [_, _], _ => rfl⟩
  have D12 : Df K mg "_law_tree" st__law_tree ["_law_number", "_law_many", "_law_kind"] := ⟨_, _, fun_mk (st := st__law_tree) l12 c12 k12, PySem.W.mg_of X G a12, (fun_mk (st := st__law_tree) l12 c12 k12).binds (ps := ["_law_number", "_law_many", "_law_kind"]) fun _ _ _ _ _ _ us hl => match us, hl with | [_, _, _], _ => rfl⟩
  have D13 : Df K mg "_law_drawn_tree" st__law_drawn_tree ["_law_number"] := ⟨_, _, fun_mk (st := st__law_drawn_tree) l13 c13 k13, PySem.W.mg_of X G a13, (fun_mk (st := st__law_drawn_tree) l13 c13 k13).binds (ps := ["_law_number"]) fun _ _ _ _ _ _ us hl => match us, hl with | [_], _ => rfl⟩
  have D14 : Df K mg "_law_part" st__law_part ["_law_tree_here", "_law_address"] := ⟨_, _, fun_mk (st := st__law_part) l14 c14 k14, PySem.W.mg_of X G a14, (fun_mk (st := st__law_part) l14 c14 k14).binds (ps := ["_law_tree_here", "_law_address"]) fun _ _ _ _ _ _ us hl => match us, hl with | [_, _], _ => rfl⟩
  have D15 : Df K mg "_law_addresses" st__law_addresses ["_law_tree_here", "_law_address"] := ⟨_, _, fun_mk (st := st__law_addresses) l15 c15 k15, PySem.W.mg_of X G a15, (fun_mk (st := st__law_addresses) l15 c15 k15).binds (ps := ["_law_tree_here", "_law_address"]) fun _ _ _ _ _ _ us hl => match us, hl with | [_, _], _ => rfl⟩
  have D16 : Df K mg "_law_worth" st__law_worth ["_law_tree_here"] := ⟨_, _, fun_mk (st := st__law_worth) l16 c16 k16, PySem.W.mg_of X G a16, (fun_mk (st := st__law_worth) l16 c16 k16).binds (ps := ["_law_tree_here"]) fun _ _ _ _ _ _ us hl => match us, hl with | [_], _ => rfl⟩
  have D17 : Df K mg "_law_count" st__law_count ["_law_thing"] := ⟨_, _, fun_mk (st := st__law_count) l17 c17 k17, PySem.W.mg_of X G a17, (fun_mk (st := st__law_count) l17 c17 k17).binds (ps := ["_law_thing"]) fun _ _ _ _ _ _ us hl => match us, hl with | [_], _ => rfl⟩
  have D18 : Df K mg "_law_odd" st__law_odd ["_law_number"] := ⟨_, _, fun_mk (st := st__law_odd) l18 c18 k18, PySem.W.mg_of X G a18, (fun_mk (st := st__law_odd) l18 c18 k18).binds (ps := ["_law_number"]) fun _ _ _ _ _ _ us hl => match us, hl with | [_], _ => rfl⟩
  have D19 : Df K mg "_law_spoilt" st__law_spoilt ["_law_thing", "_law_number", "_law_deep"] := ⟨_, _, fun_mk (st := st__law_spoilt) l19 c19 k19, PySem.W.mg_of X G a19, (fun_mk (st := st__law_spoilt) l19 c19 k19).binds (ps := ["_law_thing", "_law_number", "_law_deep"]) fun _ _ _ _ _ _ us hl => match us, hl with | [_, _, _], _ => rfl⟩
  have D20 : Df K mg "law" st_law ["_law_script"] := ⟨_, _, fun_mk (st := st_law) l20 c20 k20, PySem.W.mg_of X G a20, (fun_mk (st := st_law) l20 c20 k20).binds (ps := ["_law_script"]) fun _ _ _ _ _ _ us hl => match us, hl with | [_], _ => rfl⟩
  have G0 : Gc K mg "GREATEST_NUMBER" c_GREATEST_NUMBER := ⟨_, .int 1000, PySem.W.mg_of X G ga0, ⟨_, rfl⟩, fun _ => .int _⟩
  have G1 : Gc K mg "JOIN_KINDS" c_JOIN_KINDS := ⟨_, .ref gf1, PySem.W.mg_of X G ga1, rfl, fun _ => .tup (xs := [.str "plus", .str "less", .str "times"]) (.inr ⟨_, _, _, gl1, rfl, rfl, by show 3 ≤ sizeLine; decide, (.cons ⟨_, rfl⟩ (.cons ⟨_, rfl⟩ (.cons ⟨_, rfl⟩ .nil)))⟩) (.cons (.str _) (.cons (.str _) (.cons (.str _) .nil)))⟩
  have G2 : Gc K mg "MOST_NUMBERS" c_MOST_NUMBERS := ⟨_, .int 16, PySem.W.mg_of X G ga2, ⟨_, rfl⟩, fun _ => .int _⟩
  refine ⟨PySem.W.fnOf "law" "law" (defArgs st_law) (defBody st_law) (defScope st_law) .none kV20 dc20 pm20 an20 cd20 ct20, fun s v => .of_eq rfl, fun base _ _ => ?_⟩
  have L := lv (P := l.prog) (w := w) (base := base) D0 D1 D2 D3 D4 D5 D6 D7 D8 D9 D10 D11 D12 D13 D14 D15 D16 D17 D18 D19 D20 (PySem.W.mg_none_of X G z0) (PySem.W.mg_none_of X G z1) (PySem.W.mg_none_of X G z2) (PySem.W.mg_none_of X G z3) (PySem.W.mg_none_of X G z4) (PySem.W.mg_none_of X G z5) (PySem.W.mg_none_of X G z6) (PySem.W.mg_none_of X G z7) G0 G1 G2 FUEL1
  exact (ok_law (n := FUEL1) (fun_mk (st := st_law) l20 c20 k20) L.k__law_mixed L.k__law_drawn_tree L.k__law_spoilt L.k_is_tree L.k__law_count L.k_worth L.k__law_worth L.k__law_addresses L.k_part_at L.k__law_part L.k_turned (PySem.W.mg_none_of X G z0) (PySem.W.mg_none_of X G z2) (PySem.W.mg_none_of X G z4)).imp law_sp
theorem walk {l : PySem.W.OpenLaw} {q : Program} {loose : List Str} {XP : (Str → Option Value) → Heap → Prop} {YP : World → Heap → Prop} {d : DefRec} {K : Params → PySem.W.Frag} (hn : l.most = some 63) (hdf : d.params.defaults = [])
    (hY : ∀ (w : World) (h : Heap), YP w h → (K w.params).In h)
    (F : ∀ (w : World) (mg : Str → Option Value) (fa : Addr) (h : Heap), (K w.params).In h → h.Ns mainGlobals mg → mg d.name = some (.ref fa) →
      ∃ fd : FuncData, (∀ (s : Shared) (u : Value), BindsTo s fd ⟨[u], []⟩ [("_law_script", u)]) ∧ ∀ base : Heap, (K w.params).In base → base.Ns mainGlobals mg → FnOk l.prog w (K w.params) mg base CX0 FUEL fa fd ["_law_script"] (spLaw (K w.params))) :
    PySem.W.WalkO q loose XP YP l.row.toRowW d [] (fun f vs => PySem.call f vs) :=
  L2.walk_of (n := 63) (k := FUEL) (x := "_law_script") (CX := fun _ => CX0) (sp := fun w => spLaw (K w.params)) hn (by decide) hdf ⟨rfl, by decide, by decide⟩ hY F (fun _ _ a ns hl _ hS => ⟨a, ns, rfl, hS, hl, fun _ => rfl⟩) fun _ _ _ _ _ z => z
end FD
open PySem PySem.W PyProof.Rows
set_option maxRecDepth 100000 in
set_option maxHeartbeats 0 in
theorem PySem.Challenge.cw_fewpans_k01_trees_holds : PySem.Challenge.rw_fewpans_k01_trees.Holds := by
  w_on; o_law; k_head; (case hw => w_witness2)
  k_fill
  refine FD.walk (l := PySem.Challenge.rw_fewpans_k01_trees) rfl rfl (fun w h Y => PySem.W.kIn_of Y) ?F
  case F =>
    intro w mg fa h KX G hmg
    refine' FD.all_mk KX G hmg ?a0 ?l0 ?c0 ?k0 ?a1 ?l1 ?c1 ?k1 ?a2 ?l2 ?c2 ?k2 ?a3 ?l3 ?c3 ?k3 ?a4 ?l4 ?c4 ?k4 ?a5 ?l5 ?c5 ?k5 ?a6 ?l6 ?c6 ?k6 ?a7 ?l7 ?c7 ?k7 ?a8 ?l8 ?c8 ?k8 ?a9 ?l9 ?c9 ?k9 ?a10 ?l10 ?c10 ?k10 ?a11 ?l11 ?c11 ?k11 ?a12 ?l12 ?c12 ?k12 ?a13 ?l13 ?c13 ?k13 ?a14 ?l14 ?c14 ?k14 ?a15 ?l15 ?c15 ?k15 ?a16 ?l16 ?c16 ?k16 ?a17 ?l17 ?c17 ?k17 ?a18 ?l18 ?c18 ?k18 ?a19 ?l19 ?c19 ?k19 ?a20 ?l20 ?c20 ?k20 ?z0 ?z1 ?z2 ?z3 ?z4 ?z5 ?z6 ?z7 ?ga0 ?ga1 ?gl1 ?ga2
    (case a0 => k_is)
    (case l0 => k_is)
    (case c0 => k_is)
    (case k0 => k_is)
    (case a1 => k_is)
    (case l1 => k_is)
    (case c1 => k_is)
    (case k1 => k_is)
    (case a2 => k_is)
    (case l2 => k_is)
    (case c2 => k_is)
    (case k2 => k_is)
    (case a3 => k_is)
    (case l3 => k_is)
    (case c3 => k_is)
    (case k3 => k_is)
    (case a4 => k_is)
    (case l4 => k_is)
    (case c4 => k_is)
    (case k4 => k_is)
    (case a5 => k_is)
    (case l5 => k_is)
    (case c5 => k_is)
    (case k5 => k_is)
    (case a6 => k_is)
    (case l6 => k_is)
    (case c6 => k_is)
    (case k6 => k_is)
    (case a7 => k_is)
    (case l7 => k_is)
    (case c7 => k_is)
    (case k7 => k_is)
    (case a8 => k_is)
    (case l8 => k_is)
    (case c8 => k_is)
    (case k8 => k_is)
    (case a9 => k_is)
    (case l9 => k_is)
    (case c9 => k_is)
    (case k9 => k_is)
    (case a10 => k_is)
    (case l10 => k_is)
    (case c10 => k_is)
    (case k10 => k_is)
    (case a11 => k_is)
    (case l11 => k_is)
    (case c11 => k_is)
    (case k11 => k_is)
    (case a12 => k_is)
    (case l12 => k_is)
    (case c12 => k_is)
    (case k12 => k_is)
    (case a13 => k_is)
    (case l13 => k_is)
    (case c13 => k_is)
    (case k13 => k_is)
    (case a14 => k_is)
    (case l14 => k_is)
    (case c14 => k_is)
    (case k14 => k_is)
    (case a15 => k_is)
    (case l15 => k_is)
    (case c15 => k_is)
    (case k15 => k_is)
    (case a16 => k_is)
    (case l16 => k_is)
    (case c16 => k_is)
    (case k16 => k_is)
    (case a17 => k_is)
    (case l17 => k_is)
    (case c17 => k_is)
    (case k17 => k_is)
    (case a18 => k_is)
    (case l18 => k_is)
    (case c18 => k_is)
    (case k18 => k_is)
    (case a19 => k_is)
    (case l19 => k_is)
    (case c19 => k_is)
    (case k19 => k_is)
    (case a20 => k_is)
    (case l20 => k_is)
    (case c20 => k_is)
    (case k20 => k_is)
    (case z0 => k_is)
    (case z1 => k_is)
    (case z2 => k_is)
    (case z3 => k_is)
    (case z4 => k_is)
    (case z5 => k_is)
    (case z6 => k_is)
    (case z7 => k_is)
    (case ga0 => k_is)
    (case ga1 => k_is)
    (case gl1 => k_is)
    (case ga2 => k_is)
