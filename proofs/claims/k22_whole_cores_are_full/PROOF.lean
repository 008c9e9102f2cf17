import PyProof.Rows.All
import Wide.All
import OpenK.AllK
import Wide.FinOn
import Lean
import PyProof.EqAt
import PyProof.EqKinds
import PyProof.TupleCall
import PyProof.P3Statements
import PyProof.P3In
import PyProof.NeData
import PyProof.P3Eq
import PyProof.FitsBits
import PyProof.Rows.SeqMore
import PyProof.Rows.StrInSeq3
import PyProof.Rows.SortStr
import PyProof.Rows.SetFrom
import PyProof.WalksMore
import PyProof.CollectWalk
import PyProof.SetRoads
import PyProof.ZipIter
import PySem.Challenge.RW_fewpans_k22_whole_cores_are_full
set_option Elab.async false
section
-- CHANGE: your row's module here, as the last of these rows
set_option Elab.async false
set_option linter.all false
set_option maxRecDepth 100000
namespace L2
open PySem PySem.Spec PyProof.Rows

/-- a key: an int or a str -/
abbrev Key := Sum Int Str
def keyIs : Key → Value → Bool
  | .inl k, v => Value.isInt k v
  | .inr x, v => Value.isStrOf x v
def keyH (w : World) : Key → Int
  | .inl k => hashInt k
  | .inr x => hashStr w x
theorem keyIs_shape : ∀ {k : Key} {v : Value}, keyIs k v = true → (∃ i t, k = Sum.inl i ∧ v = Value.int i t) ∨ (∃ x t, k = Sum.inr x ∧ v = Value.str x t)
  | .inl i, v, h => by
    obtain ⟨t, e⟩ := Value.isInt_shape (k := i) (v := v) h
    exact .inl ⟨i, t, rfl, e⟩
  | .inr x, v, h => by
    obtain ⟨t, e⟩ := Value.isStrOf_shape (x := x) (v := v) h
    exact .inr ⟨x, t, rfl, e⟩
theorem key_ll (a b : Int) : decide ((Sum.inl a : Key) = Sum.inl b) = (a == b) := by
  by_cases e : a = b
  · subst e; simp
  · have h : ¬ (Sum.inl a : Key) = Sum.inl b := fun q => e (Sum.inl.inj q)
    rw [decide_eq_false h]
    exact (beq_eq_false_iff_ne.mpr e).symm
theorem key_rr (a b : Str) : decide ((Sum.inr a : Key) = Sum.inr b) = decide (a = b) := by
  by_cases e : a = b
  · subst e; simp
  · have h : ¬ (Sum.inr a : Key) = Sum.inr b := fun q => e (Sum.inr.inj q)
    rw [decide_eq_false h, decide_eq_false e]
theorem key_lr (a : Int) (b : Str) : decide ((Sum.inl a : Key) = Sum.inr b) = false := decide_eq_false (fun q => nomatch q)
theorem key_rl (a : Str) (b : Int) : decide ((Sum.inr a : Key) = Sum.inl b) = false := decide_eq_false (fun q => nomatch q)

def mixKind (prog : Program) (w : World) : PySem.KeyKind prog w Key where
  is := keyIs
  hash := keyH w
  inj := fun v a b ha hb => by
    rcases keyIs_shape ha with ⟨i, t, rfl, rfl⟩ | ⟨x, t, rfl, rfl⟩
    · rcases keyIs_shape hb with ⟨j, u, rfl, e⟩ | ⟨y, u, rfl, e⟩
      · injection e with e1 _; rw [e1]
      · exact nomatch e
    · rcases keyIs_shape hb with ⟨j, u, rfl, e⟩ | ⟨y, u, rfl, e⟩
      · exact nomatch e
      · injection e with e1 _; rw [e1]
  byValue := fun k v h => by
    rcases keyIs_shape h with ⟨i, t, rfl, rfl⟩ | ⟨x, t, rfl, rfl⟩ <;> rfl
  pyHash := fun hv h => by
    rcases keyIs_shape hv with ⟨i, t, rfl, rfl⟩ | ⟨x, t, rfl, rfl⟩
    · exact wpAny_pyHash_int h
    · exact wpAny_pyHash_str h
  eqBool := fun hu hv h => by
    rcases keyIs_shape hu with ⟨i, t, rfl, rfl⟩ | ⟨x, t, rfl, rfl⟩
    · rcases keyIs_shape hv with ⟨j, u, rfl, rfl⟩ | ⟨y, u, rfl, rfl⟩
      · rw [key_ll] at h; exact wpAny_eqBool_int h
      · rw [key_lr] at h; exact SeqAt.EqAt.int_str i t y u _ _ _ _ h
    · rcases keyIs_shape hv with ⟨j, u, rfl, rfl⟩ | ⟨y, u, rfl, rfl⟩
      · rw [key_rl] at h; exact SeqAt.EqAt.str_int x t j u _ _ _ _ h
      · rw [key_rr] at h; exact wpAny_eqBool_str h
  «strs» := fun k x t v h => by
    rcases keyIs_shape h with ⟨i, u, rfl, e⟩ | ⟨y, u, rfl, e⟩
    · exact nomatch e
    · injection e with e1 _
      subst e1
      cases v <;> rfl

end L2

namespace L2
open PySem PySem.Spec PyProof.Rows

/-- a value, without the heap -/
inductive V where
  | non | bl (b : Bool) | int (i : Int) | str (x : Str) | byt (b : Array UInt8) | flt (b : UInt64) | ref (a : Addr) | ty (n : String)
  deriving DecidableEq

def RelV : V → Value → Prop
  | .non, u => u = Value.none
  | .bl b, u => u = Value.bool b
  | .int i, u => ∃ t, u = Value.int i t
  | .str x, u => ∃ t, u = Value.str x t
  | .byt b, u => ∃ t, u = Value.bytes b t
  | .flt b, u => ∃ t, u = Value.float b t
  | .ref a, u => u = Value.ref a
  | .ty n, u => u = Value.type n

abbrev Vals : List V → List Value → Prop := Paired RelV
theorem Vals.length {xs : List V} {us : List Value} (r : Vals xs us) : xs.length = us.length := Paired.length r
theorem Vals.get : ∀ {xs : List V} {us : List Value} {i : Nat} {x : V}, Vals xs us → xs[i]? = some x → ∃ u, us[i]? = some u ∧ RelV x u
  | _, _, _, _, .nil, e => by simp at e
  | _, _, 0, _, .cons r _, e => by simp at e; subst e; exact ⟨_, rfl, r⟩
  | _, _, i + 1, x, .cons _ t, e => by
    obtain ⟨u, h1, h2⟩ := Vals.get (i := i) (x := x) t (by simpa using e)
    exact ⟨u, by simpa using h1, h2⟩
theorem Vals.set {x : V} {u : Value} (r : RelV x u) : ∀ {xs : List V} {us : List Value} (i : Nat), Vals xs us → Vals (xs.set i x) (us.set i u)
  | _, _, _, .nil => .nil
  | _, _, 0, .cons _ t => .cons r t
  | _, _, i + 1, .cons q t => .cons q (Vals.set r i t)
theorem Vals.append : ∀ {xs ys : List V} {us ws : List Value}, Vals xs us → Vals ys ws → Vals (xs ++ ys) (us ++ ws)
  | _, _, _, _, .nil, s => s
  | _, _, _, _, .cons r t, s => .cons r (Vals.append t s)
theorem Vals.take : ∀ {xs : List V} {us : List Value} (n : Nat), Vals xs us → Vals (xs.take n) (us.take n)
  | _, _, 0, _ => .nil
  | _, _, _ + 1, .nil => .nil
  | _, _, n + 1, .cons r t => .cons r (Vals.take n t)
theorem Vals.drop : ∀ {xs : List V} {us : List Value} (n : Nat), Vals xs us → Vals (xs.drop n) (us.drop n)
  | _, _, 0, r => r
  | _, _, _ + 1, .nil => .nil
  | _, _, n + 1, .cons _ t => Vals.drop n t
def RelO : Option V → Option Value → Prop
  | some v, some u => RelV v u
  | none, none => True
  | _, _ => False
def KV {κ : Type} : List (κ × V) → List (κ × Value) → Prop := Paired fun (p : κ × V) (q : κ × Value) => p.1 = q.1 ∧ RelV p.2 q.2

/-- a key of a dict (00_mix): an int or a text -/
def kV : Key → V
  | .inl i => .int i
  | .inr x => .str x

/-- what stands at a tracked address -/
inductive HO where
  /-- a list -/
  | lst (xs : List V)
  /-- a tuple (never changes) -/
  | tup (xs : List V)
  /-- a dict whose keys are ints and texts; one whose keys are tuples of ints and texts (the empty one is both) -/
  | dK (kvs : List (Key × V)) | dT (kvs : List (List Key × V))
  /-- a set of ints: its members, its size -/
  | set (S : Int → Bool) (n : Nat)
  /-- an instance of the class at C, its dict at dx, its attributes -/
  | ins (C dx : Addr) (fs : List (Str × V))
  /-- the dict of the instance at x -/
  | own (x : Addr)
  /-- the dict of an exception -/
  | xd (fs : List (Str × V))
  /-- a bound method, f of x -/
  | met (f x : Addr)
  /-- a range object lo, lo + 1, .. below hi -/
  | rng (lo hi : Int)
  /-- a thing that is known to the object (the script; a dict while a loop walks it): read, never written while it is so -/
  | frz (o : Obj) (u : HO)
  /-- a code object's table -/
  | tbl (ps : Array Value)
  /-- any other thing, by what is true of its one object (a def of one's own: SetO a S n := HO.ext fun h => ..) -/
  | ext (φ : Heap → Prop)

abbrev Hp := Addr → Option HO
def upd (H : Hp) (a : Addr) (o : HO) : Hp := fun b => if b = a then some o else H b
theorem upd_same {H : Hp} {a : Addr} {o : HO} : upd H a o a = some o := by unfold upd; rw [if_pos rfl]
theorem upd_ne {H : Hp} {a b : Addr} {o : HO} (h : b ≠ a) : upd H a o b = H b := by unfold upd; rw [if_neg h]
theorem ne_of_none {H : Hp} {a b : Addr} {o : HO} (h : H a = some o) (h' : H b = none) : a ≠ b := by
  intro e; subst e; rw [h] at h'; cases h'

section
variable (P : Program) (w : World)
def ObjOk (H : Hp) (h : Heap) (a : Addr) : HO → Prop
  | .lst xs => xs.length ≤ sizeLine ∧ ∃ (its : List Value) (n : Nat), Vals xs its ∧ h.get? a = some { cls := .type "list", data := .seq its.toArray n }
  | .tup xs => xs.length ≤ sizeLine ∧ ∃ its : List Value, Vals xs its ∧ IsTup h a its.toArray
  | .dK kvs => kvs.length ≤ sizeLine ∧ (a == sysModules) = false ∧ ∃ vs, KV kvs vs ∧ h.DictOf (mixKind P w) a vs
  | .dT kvs => kvs.length ≤ sizeLine ∧ (a == sysModules) = false ∧ ∃ xs : List (List Key × Addr × Value),
      Paired (fun (p : List Key × V) (q : List Key × Addr × Value) => p.1 = q.1 ∧ H q.2.1 = some (.tup (p.1.map kV)) ∧ RelV p.2 q.2.2) kvs xs ∧
      ∃ o es ep, h.get? a = some o ∧ o.ExactDict ∧ o.data = .dict es ep ∧ es.toList = xs.map (entryOfKey (tupleKind (mixKind P w))) ∧ (xs.map (·.1)).Nodup
  | .set S n => h.SetOf (intKind P w) a S n
  | .ins C dx fs => H dx = some (.own a) ∧ fs.length ≤ 1000 ∧ dx ≠ a ∧ h.get? a = some (PySem.W.instObj C dx) ∧
      ∃ mA, h.Ns1 dx mA ∧ (∀ f, RelO (fs.lookup f) (mA f)) ∧ PySem.Within mA (fs.map (·.1))
  | .own _ => ∃ o, h.get? a = some o
  | .xd fs => ∃ mA, h.Ns1 a mA ∧ ∀ f, RelO (fs.lookup f) (mA f)
  | .rng lo hi => ∃ t u v, h.get? a = some { cls := .type "range", data := .fields #[.int lo t, .int hi u, .int 1 v] }
  | .frz o u => h.get? a = some o ∧ ObjOk H h a u
  | .tbl ps => h.get? a = some { cls := .none, data := .fields ps }
  | .met f x => h.get? a = some (PySem.W.methodObj (.ref f) (.ref x))
  | .ext φ => φ h ∧ (∃ o, h.get? a = some o) ∧ ∀ h1 h2 : Heap, φ h1 → (∀ o, h1.get? a = some o → h2.get? a = some o) → φ h2
/-- the abstract heap is held -/
def HOk (H : Hp) (h : Heap) : Prop := ∀ a o, H a = some o → ObjOk P w H h a o
end

section
variable {P : Program} {w : World} {H H' : Hp} {h h' : Heap} {a : Addr} {o : HO}
theorem ObjOk.lt (x : ObjOk P w H h a o) : a < h.objs.size := by
  cases o with
  | lst xs => obtain ⟨_, _, _, _, e⟩ := x; exact Heap.lt_size e
  | tup xs => obtain ⟨_, _, _, p⟩ := x; exact p.lt
  | dK kvs => obtain ⟨_, _, _, _, o, _, _, e, _⟩ := x; exact Heap.lt_size e
  | dT kvs => obtain ⟨_, _, _, _, o, _, _, e, _⟩ := x; exact Heap.lt_size e
  | set S n => obtain ⟨o, _, _, _, e, _⟩ := x; exact Heap.lt_size e
  | ins C dx fs => obtain ⟨_, _, _, e, _⟩ := x; exact Heap.lt_size e
  | own y => obtain ⟨_, e⟩ := x; exact Heap.lt_size e
  | xd fs => obtain ⟨_, ⟨_, _, _, e, _⟩, _⟩ := x; exact Heap.lt_size e
  | rng lo hi => obtain ⟨_, _, _, e⟩ := x; exact Heap.lt_size e
  | frz ob u => obtain ⟨e, _⟩ := x; exact Heap.lt_size e
  | tbl ps => exact Heap.lt_size (show h.get? a = some _ from x)
  | met f y => exact Heap.lt_size (show h.get? a = some _ from x)
  | ext φ => obtain ⟨_, ⟨_, e⟩, _⟩ := x; exact Heap.lt_size e
theorem Paired.mapP {α β : Type} {F G : α → β → Prop} : ∀ {l₁ : List α} {l₂ : List β}, Paired F l₁ l₂ → (∀ a b, F a b → G a b) → Paired G l₁ l₂
  | _, _, .nil, _ => .nil
  | _, _, .cons r t, f => .cons (f _ _ r) (Paired.mapP t f)
/-- what an object's description leans on: its own object, its own dict, the tuples -/
theorem ObjOk.stay (x : ObjOk P w H h a o) (k : ∀ b u, (b = a ∨ H b = some (.own a)) → h.get? b = some u → h'.get? b = some u)
    (ho : ∀ b, H b = some (.own a) → H' b = some (.own a)) (ht : ∀ b xs, H b = some (.tup xs) → H' b = some (.tup xs)) : ObjOk P w H' h' a o := by
  induction o with
  | lst xs => obtain ⟨z, its, n, r, e⟩ := x; exact ⟨z, its, n, r, k _ _ (.inl rfl) e⟩
  | tup xs => obtain ⟨z, its, r, ob, e, c⟩ := x; exact ⟨z, its, r, ob, k _ _ (.inl rfl) e, c⟩
  | dK kvs => obtain ⟨z, y, vs, r, ob, es, ep, e, c⟩ := x; exact ⟨z, y, vs, r, ob, es, ep, k _ _ (.inl rfl) e, c⟩
  | dT kvs =>
    obtain ⟨z, y, xs, r, ob, es, ep, e, c⟩ := x
    exact ⟨z, y, xs, Paired.mapP r fun p q z => ⟨z.1, ht _ _ z.2.1, z.2.2⟩, ob, es, ep, k _ _ (.inl rfl) e, c⟩
  | set S n => obtain ⟨ob, es, ep, t, e, c⟩ := x; exact ⟨ob, es, ep, t, k _ _ (.inl rfl) e, c⟩
  | ins C dx fs =>
    obtain ⟨d, z, ne, e, mA, ⟨od, es, ep, e2, c⟩, r⟩ := x
    exact ⟨ho _ d, z, ne, k _ _ (.inl rfl) e, mA, ⟨od, es, ep, k _ _ (.inr d) e2, c⟩, r⟩
  | own y => obtain ⟨ob, e⟩ := x; exact ⟨ob, k _ _ (.inl rfl) e⟩
  | xd fs => obtain ⟨mA, ⟨od, es, ep, e, c⟩, r⟩ := x; exact ⟨mA, ⟨od, es, ep, k _ _ (.inl rfl) e, c⟩, r⟩
  | rng lo hi => obtain ⟨t, u, v, e⟩ := x; exact ⟨t, u, v, k _ _ (.inl rfl) e⟩
  | frz ob u ih => obtain ⟨e, q⟩ := x; exact ⟨k _ _ (.inl rfl) e, ih q⟩
  | tbl ps =>
    have e : h.get? a = some { cls := .none, data := .fields ps } := x
    show h'.get? a = some { cls := .none, data := .fields ps }
    exact k a _ (.inl rfl) e
  | met f y =>
    have e : h.get? a = some (PySem.W.methodObj (.ref f) (.ref y)) := x
    show h'.get? a = some (PySem.W.methodObj (.ref f) (.ref y))
    exact k a _ (.inl rfl) e
  | ext φ => obtain ⟨p, ⟨o, e⟩, st⟩ := x; exact ⟨st _ _ p fun o q => k _ _ (.inl rfl) q, ⟨o, k _ _ (.inl rfl) e⟩, st⟩
theorem HOk.lt (x : HOk P w H h) (e : H a = some o) : a < h.objs.size := (x a o e).lt
theorem HOk.fresh (x : HOk P w H h) (e : h.objs.size ≤ a) : H a = none := by
  cases q : H a with
  | none => rfl
  | some u => exact absurd (Nat.lt_of_lt_of_le (x.lt q) e) (Nat.lt_irrefl _)
/-- every object of the heap is kept -/
theorem HOk.kept (x : HOk P w H h) (k : ∀ b u, h.get? b = some u → h'.get? b = some u) : HOk P w H h' := fun a o e =>
  (x a o e).stay (fun b u _ q => k b u q) (fun _ q => q) fun _ _ q => q
/-- a new object is laid and tracked -/
theorem HOk.laid (x : HOk P w H h) (k : ∀ b u, h.get? b = some u → h'.get? b = some u) (hp : h.objs.size ≤ a) (new : ObjOk P w (upd H a o) h' a o) : HOk P w (upd H a o) h' := fun b u e => by
  have hn := x.fresh hp
  by_cases hb : b = a
  · subst hb; rw [upd_same] at e; cases e; exact new
  · rw [upd_ne hb] at e
    exact (x b u e).stay (fun c v _ q => k c v q) (fun c q => by rw [upd_ne (ne_of_none q hn)]; exact q) fun c xs q => by rw [upd_ne (ne_of_none q hn)]; exact q
end

/-- what may be read as u: it is u, or a known u -/
def Rd (H : Hp) (a : Addr) (u : HO) : Prop := H a = some u ∨ ∃ o, H a = some (.frz o u)
theorem Rd.of {H : Hp} {a : Addr} {u : HO} (h : H a = some u) : Rd H a u := .inl h
theorem Rd.ok {P : Program} {w : World} {H : Hp} {h : Heap} {a : Addr} {u : HO} (r : Rd H a u) (x : HOk P w H h) : ObjOk P w H h a u := by
  rcases r with r | ⟨o, r⟩
  · exact x a u r
  · obtain ⟨_, q⟩ := x a _ r
    exact q
section
variable {P : Program} {w : World} {H : Hp} {h h' : Heap} {x e : Addr} {o' : HO}
end

structure Un (fs ex : List Addr) (H H' : Hp) (h h' : Heap) : Prop where
  keep : ∀ b o, h.get? b = some o → H b = none → b ∉ fs → b ∉ ex → h'.get? b = some o
  slot : ∀ b o, h.get? b = some o → H b = none → b ∈ fs → b ∉ ex → ∃ sl, h'.get? b = some { o with slots := sl }
  free : ∀ b o, h.get? b = some o → H b = none → b ∉ ex → H' b = none
  there : ∀ b o, h.get? b = some o → b ∉ ex → ∃ o', h'.get? b = some o'
  tups : ∀ b xs, H b = some (.tup xs) → H' b = some (.tup xs)
  frzs : ∀ b o u, H b = some (.frz o u) → H' b = some (.frz o u)
  tbls : ∀ b ps, H b = some (.tbl ps) → ∃ more, H' b = some (.tbl (ps ++ more))
section
variable {fs fs' ex ex' : List Addr} {H H1 H2 : Hp} {h h1 h2 h' : Heap} {a x e : Addr} {o : HO}
theorem Un.any (u : Un fs ex H H1 h h1) {b : Addr} {ob : Obj} (q : h.get? b = some ob) (n : H b = none) (hx : b ∉ ex) : ∃ sl, h1.get? b = some { ob with slots := sl } := by
  by_cases hb : b ∈ fs
  · exact u.slot b ob q n hb hx
  · exact ⟨ob.slots, u.keep b ob q n hb hx⟩
theorem Un.trans (a : Un fs ex H H1 h h1) (b : Un fs ex H1 H2 h1 h2) : Un fs ex H H2 h h2 where
  keep := fun c ob q n hc hx => b.keep c ob (a.keep c ob q n hc hx) (a.free c ob q n hx) hc hx
  slot := fun c ob q n hc hx => by
    obtain ⟨sl, e1⟩ := a.slot c ob q n hc hx
    obtain ⟨sl', e2⟩ := b.slot c _ e1 (a.free c ob q n hx) hc hx
    exact ⟨sl', e2⟩
  free := fun c ob q n hx => by
    obtain ⟨o', e1⟩ := a.there c ob q hx
    exact b.free c o' e1 (a.free c ob q n hx) hx
  there := fun c ob q hx => by
    obtain ⟨o', e1⟩ := a.there c ob q hx
    exact b.there c o' e1 hx
  tups := fun c xs q => b.tups c xs (a.tups c xs q)
  frzs := fun c ob xs q => b.frzs c ob xs (a.frzs c ob xs q)
  tbls := fun c ps q => by
    obtain ⟨m1, e1⟩ := a.tbls c ps q
    obtain ⟨m2, e2⟩ := b.tbls c _ e1
    exact ⟨m1 ++ m2, by rw [e2, Array.append_assoc]⟩
theorem Un.kept (k : ∀ b u, h.get? b = some u → h'.get? b = some u) : Un fs ex H H h h' :=
  ⟨fun b ob q _ _ _ => k b ob q, fun b ob q _ _ _ => ⟨ob.slots, k b ob q⟩, fun _ _ _ n _ => n, fun b ob q _ => ⟨ob, k b ob q⟩, fun _ _ q => q, fun _ _ _ q => q, fun _ ps q => ⟨#[], by rw [q]; simp⟩⟩
theorem Un.refl : Un fs ex H H h h := Un.kept fun _ _ q => q
theorem Un.laid (k : ∀ b u, h.get? b = some u → h'.get? b = some u) (hp : h.objs.size ≤ a) (hn : H a = none) : Un fs ex H (upd H a o) h h' where
  keep := fun b u q _ _ _ => k b u q
  slot := fun b u q _ _ _ => ⟨u.slots, k b u q⟩
  free := fun b u q n _ => by rw [upd_ne (Nat.ne_of_lt (Nat.lt_of_lt_of_le (Heap.lt_size q) hp))]; exact n
  there := fun b u q _ => ⟨u, k b u q⟩
  tups := fun b xs q => by rw [upd_ne (ne_of_none q hn)]; exact q
  frzs := fun b u xs q => by rw [upd_ne (ne_of_none q hn)]; exact q
  tbls := fun b ps q => ⟨#[], by rw [upd_ne (ne_of_none q hn), q]; simp⟩
theorem Un.mono (u : Un fs ex H H1 h h1) (hs : ∀ b ∈ fs, b ∈ fs') (hx : ∀ b ∈ ex, b ∈ ex') : Un fs' ex' H H1 h h1 :=
  ⟨fun b ob q n hb he => u.keep b ob q n (fun z => hb (hs b z)) fun z => he (hx b z), fun _ _ q n _ he => u.any q n fun z => he (hx _ z), fun b ob q n he => u.free b ob q n fun z => he (hx b z), fun b ob q he => u.there b ob q fun z => he (hx b z), u.tups, u.frzs, u.tbls⟩
end

def trk (h : Heap) (H : Hp) : List Addr := (List.range h.objs.size).filter fun a => (H a).isSome
def hidT (h : Heap) (H : Hp) : Heap := PySem.W.hideAll h (trk h H)
theorem hidT_size (h : Heap) (H : Hp) : (hidT h H).objs.size = h.objs.size := PySem.W.hideAll_size _ _
theorem hidT_get {h : Heap} {H : Hp} {b : Addr} {o : Obj} (e : h.get? b = some o) (n : H b = none) : (hidT h H).get? b = some o :=
  PySem.W.hideAll_get _ e fun hm => by
    have q : (H b).isSome = true := (List.mem_filter.mp hm).2
    rw [n] at q; simp at q
theorem of_hidT {h : Heap} {H : Hp} {b : Addr} {o : Obj} (e : (hidT h H).get? b = some o) : h.get? b = some o ∧ H b = none := by
  have e' : h.get? b = some o := PySem.W.of_hideAll (trk h H) e
  refine ⟨e', ?_⟩
  cases q : H b with
  | none => rfl
  | some x =>
    have hm : b ∈ trk h H := List.mem_filter.mpr ⟨List.mem_range.mpr (Heap.lt_size e'), by simp [q]⟩
    have z : (hidT h H).get? b = none := PySem.W.hideAll_none (trk h H) hm
    rw [z] at e; cases e

def allNews (g h : Heap) (L : Addr) : List (Addr × Obj) := (List.range h.objs.size).filterMap fun a => if a = L ∨ (g.get? a).isSome = true then none else (h.get? a).map fun o => (a, o)
def rest (g h : Heap) (L d : Addr) : List (Addr × Obj) := (allNews g h L).filter fun p => decide (p.1 ≠ d)
end L2

namespace L2
open PySem PySem.Spec PyProof.Rows

/-- the module's facts, over the base: the heap at the law's entry without what is tracked there -/
structure Mod (K : PySem.W.Frag) (mg : Str → Option Value) (base : Heap) : Prop where
  kin : K.In base
  glob : base.Ns mainGlobals mg
  blt : ∃ mb, base.Ns builtinsNs mb ∧ ∀ x : Str, x ≠ "__name__" → mb x = bootBuiltins x
  nolimit : base.NoLimit

/-- the context: a def's body (or a comprehension's block) running. base: fixed through the whole law; s₀, H₀: the entry; outer: the frames whose slots others may change (a def's callers); stack: all frames that run;
   ex: iterators that were made ahead of the entry and are walked here (a comprehension's); fn: the names whose cells were made at the entry (a def: all; a comprehension's block: its own); calm: not within an except suite; pn: pins that every state bears; xe: what is wanted of an exception that leaves the code -/
structure Cx where
  prog : Program
  w : World
  K : PySem.W.Frag
  mg : Str → Option Value
  base : Heap
  A : Around
  N : List Str
  s₀ : Shared
  H₀ : Hp
  env : Env
  outer : List Env
  stack : List Env
  ex : List Addr
  fn : Str → Bool
  calm : Bool
  pn : List (Addr × Obj)
  xe : Value → Shared → Prop
/-- the callers' frames -/
def frs (l : List Env) : List Addr := l.filterMap (·.frame)
abbrev Cx.fs (X : Cx) : List Addr := frs X.outer

def Vis (sc : Scope) (x : Str) : Prop := sc.names.lookup x = some .local ∨ sc.names.lookup x = some .cell ∨ sc.names.lookup x = some .free
def Loc (sc : Scope) (x : Str) : Prop := sc.names.lookup x = some .local ∨ sc.names.lookup x = some .cell
def Look (env : Env) (h : Heap) (m : Str → Option Value) (x : Str) (u : Value) : Prop :=
  (env.kindOf x = some .local ∧ m x = some u) ∨ ((env.kindOf x = some .cell ∨ env.kindOf x = some .free) ∧ ∃ c, env.cells.lookup x = some c ∧ h.IsCell c (some u))

structure Cx.Ok (X : Cx) : Prop where
  mod : Mod X.K X.mg X.base
  kind : X.env.scope.kind = .function
  glob : X.env.globals = mainGlobals
  blt : X.env.builtins = builtinsNs
  above : X.s₀.heap.objs.size ≤ X.env.locals
  inj : ∀ x y c, X.env.cells.lookup x = some c → X.env.cells.lookup y = some c → x = y
  has : ∀ x, (X.env.kindOf x = some .cell ∨ X.env.kindOf x = some .free) → ∃ c, X.env.cells.lookup x = some c
  cab : ∀ x c, X.fn x = true → X.env.cells.lookup x = some c → X.s₀.heap.objs.size ≤ c
  hd : X.calm = true → X.A.handled = none
  frames : X.A.frames = some X.stack
  stk : X.stack = X.outer ∨ (X.stack = X.env :: X.outer ∧ X.env.frame = some X.env.locals)
  exf : ∀ b ∈ X.ex, b ≠ X.env.locals ∧ ∀ x c, X.env.cells.lookup x = some c → c ≠ b
  bs : ∀ b o, X.base.get? b = some o → X.s₀.heap.get? b = some o ∧ X.H₀ b = none
  bsz : X.base.objs.size ≤ X.s₀.heap.objs.size
  noex : ∀ b o, X.base.get? b = some o → b ∉ X.ex
  exfs : ∀ b ∈ X.ex, b ∉ X.fs
  funs : X.s₀.heap.FunFrames X.base X.outer
  frf : ∀ b ∈ X.fs, X.H₀ b = none

structure Inv (X : Cx) (pins : List (Addr × Obj)) (σ : List (Option V)) (H : Hp) (s : Shared) : Prop where
  ok : X.Ok
  os : s.os = X.s₀.os
  bare : AllBare s.gens
  base : Un X.fs X.ex X.H₀ H X.s₀.heap s.heap
  loc : ∃ m, s.heap.Ns X.env.locals m ∧ ∀ (i : Nat) (x : Str) (v : V), X.N[i]? = some x → σ[i]? = some (some v) → Vis X.env.scope x → ∃ u, RelV v u ∧ Look X.env s.heap m x u
  cell : ∀ x c, X.env.cells.lookup x = some c → ∃ v, s.heap.IsCell c v
  free : H X.env.locals = none
  freeC : ∀ x c, X.env.cells.lookup x = some c → H c = none
  pin : ∀ p ∈ X.pn ++ pins, s.heap.get? p.1 = some p.2 ∧ H p.1 = none ∧ p.1 ≠ X.env.locals ∧ p.1 ∉ X.fs ∧ ∀ v, p.2.data ≠ .cell v
  hok : HOk X.prog X.w H s.heap
  len : σ.length = X.N.length

section
variable {X : Cx} {pins : List (Addr × Obj)} {σ : List (Option V)} {H H' : Hp} {s : Shared} {h' : Heap}

theorem Cx.Ok.nofr (ok : X.Ok) {b : Addr} {o : Obj} (e : X.base.get? b = some o) : b ∉ X.fs := fun hb => by
  have := (ok.funs.mem hb).1
  rw [e] at this; cases this
theorem Inv.bs (I : Inv X pins σ H s) : ∀ b o, X.base.get? b = some o → s.heap.get? b = some o ∧ H b = none := fun b o e =>
  ⟨I.base.keep b o (I.ok.bs b o e).1 (I.ok.bs b o e).2 (I.ok.nofr e) (I.ok.noex b o e), I.base.free b o (I.ok.bs b o e).1 (I.ok.bs b o e).2 (I.ok.noex b o e)⟩
theorem Inv.bk (I : Inv X pins σ H s) : ∀ b o, X.base.get? b = some o → s.heap.get? b = some o := fun b o e => (I.bs b o e).1
theorem Inv.mod (I : Inv X pins σ H s) : Mod X.K X.mg X.base := I.ok.mod
theorem Inv.kIn (I : Inv X pins σ H s) : X.K.In s.heap := I.ok.mod.kin.keeps I.bk
theorem Inv.nolimit (I : Inv X pins σ H s) : s.heap.NoLimit := I.ok.mod.nolimit.keeps I.bk
/-- the frame over the base: for OpenK's rules (K.In X.base is I.mod.kin) -/
theorem Inv.fr (I : Inv X pins σ H s) : ∃ m, Fr X.base X.env.locals s.heap m :=
  let ⟨m, hn, _⟩ := I.loc
  ⟨m, hn, I.bk, Nat.le_trans I.ok.bsz I.ok.above⟩
theorem Inv.lt (I : Inv X pins σ H s) : X.env.locals < s.heap.objs.size := let ⟨_, hn, _⟩ := I.loc; hn.lt
theorem Inv.sz (I : Inv X pins σ H s) : X.s₀.heap.objs.size ≤ s.heap.objs.size := Nat.le_trans I.ok.above (Nat.le_of_lt I.lt)
theorem Inv.nofs (I : Inv X pins σ H s) {a : Addr} (h : s.heap.objs.size ≤ a) : a ∉ X.fs := fun hb => by
  obtain ⟨_, o, ho, _⟩ := I.ok.funs.mem hb
  exact absurd (Nat.lt_of_lt_of_le (Heap.lt_size ho) (Nat.le_trans I.sz h)) (Nat.lt_irrefl _)
theorem Inv.cne (I : Inv X pins σ H s) : ∀ x c, X.env.cells.lookup x = some c → c ≠ X.env.locals := fun x c e z => by
  obtain ⟨v, o, ho, hd⟩ := I.cell x c e
  obtain ⟨m, ⟨o', es, ep, ho', hd', _⟩, _⟩ := I.loc
  rw [z, ho'] at ho; cases ho; rw [hd'] at hd; cases hd
theorem Inv.funs (I : Inv X pins σ H s) : s.heap.FunFrames X.base X.outer := by
  have all : ∀ (l : List Env), (∀ b ∈ frs l, b ∈ X.fs) → X.s₀.heap.FunFrames X.base l → s.heap.FunFrames X.base l := by
    intro l
    induction l with
    | nil => intro _ _; trivial
    | cons env r ih =>
      intro hs hl
      obtain ⟨hk, ⟨L, o, hf, hn, ho, hd⟩, hr⟩ := hl
      have hL : L ∈ X.fs := hs L (by unfold frs; rw [List.filterMap_cons, hf]; exact List.mem_cons_self)
      obtain ⟨sl, e⟩ := I.base.slot L o ho (I.ok.frf L hL) hL fun z => I.ok.exfs L z hL
      exact ⟨hk, ⟨L, _, hf, hn, e, hd⟩, ih (fun b hb => hs b (by unfold frs; rw [List.filterMap_cons, hf]; exact List.mem_cons_of_mem _ hb)) hr⟩
  exact all X.outer (fun _ hb => hb) I.ok.funs

/-- the frames that run, for a call -/
theorem Inv.stack (I : Inv X pins σ H s) : s.heap.FunFrames X.base X.stack := by
  rcases I.ok.stk with e | ⟨e, hf⟩
  · rw [e]; exact I.funs
  · rw [e]
    obtain ⟨m, hn, _⟩ := I.loc
    refine .cons (by rw [I.ok.kind]; decide) hf hn ?_ I.funs
    exact Heap.get?_none_of_le (Nat.le_trans I.ok.bsz I.ok.above)
theorem Inv.stkSub (I : Inv X pins σ H s) : ∀ b ∈ frs X.stack, b ∈ X.env.locals :: X.fs := fun b hb => by
  rcases I.ok.stk with e | ⟨e, hf⟩
  · rw [e] at hb; exact List.mem_cons_of_mem _ hb
  · rw [e] at hb
    unfold frs at hb
    rw [List.filterMap_cons, hf] at hb
    exact hb
theorem Inv.stkFree (I : Inv X pins σ H s) : ∀ b ∈ frs X.stack, H b = none := fun b hb => by
  rcases List.mem_cons.mp (I.stkSub b hb) with e | hb
  · rw [e]; exact I.free
  · obtain ⟨_, o, ho, _⟩ := I.ok.funs.mem hb
    exact I.base.free b o ho (I.ok.frf b hb) fun z => I.ok.exfs b z hb

/-- THE STEP: the untracked objects but the frame and the records at ch are kept (the callers' frames up to slots), the frame's map is kept, the new abstract heap is held -/
theorem Inv.step {g' : Array GenState} {t' : Nat} {d' : Drawn} {ch : List Addr} (I : Inv X pins σ H s)
    (hch : ∀ b ∈ ch, (b ∈ X.ex ∨ X.s₀.heap.objs.size ≤ b) ∧ b ≠ X.env.locals ∧ (∀ x c, X.env.cells.lookup x = some c → c ≠ b) ∧ ∀ p ∈ X.pn ++ pins, p.1 ≠ b)
    (keep : ∀ b o, b ≠ X.env.locals → b ∉ X.fs → b ∉ ch → s.heap.get? b = some o → H b = none → h'.get? b = some o)
    (slot : ∀ b o, b ≠ X.env.locals → b ∈ X.fs → b ∉ ch → s.heap.get? b = some o → H b = none → ∃ sl, h'.get? b = some { o with slots := sl }) (free : ∀ b o, b ∉ ch → s.heap.get? b = some o → H b = none → H' b = none)
    (there : ∀ b o, b ∉ ch → s.heap.get? b = some o → ∃ o', h'.get? b = some o')
    (tups : ∀ b xs, H b = some (.tup xs) → H' b = some (.tup xs)) (frzs : ∀ b o u, H b = some (.frz o u) → H' b = some (.frz o u)) (tbls : ∀ b ps, H b = some (.tbl ps) → ∃ more, H' b = some (.tbl (ps ++ more)))
    (ns : ∀ m, s.heap.Ns X.env.locals m → h'.Ns X.env.locals m) (hok : HOk X.prog X.w H' h') (hg : AllBare g') :
    Inv X pins σ H' { s with heap := h', gens := g', drawn := d', toks := t' } := by
  have neL : ∀ b o, X.s₀.heap.get? b = some o → b ≠ X.env.locals := fun b o e => Nat.ne_of_lt (Nat.lt_of_lt_of_le (Heap.lt_size e) I.ok.above)
  have neC : ∀ b o, X.s₀.heap.get? b = some o → b ∉ X.ex → b ∉ ch := fun b o e hx hb => by
    rcases (hch b hb).1 with z | z
    · exact hx z
    · exact absurd (Nat.lt_of_lt_of_le (Heap.lt_size e) z) (Nat.lt_irrefl _)
  have cellK : ∀ x c, X.env.cells.lookup x = some c → ∀ v, s.heap.IsCell c v → h'.IsCell c v := fun x c e v ⟨o, ho, hd⟩ => by
    have nch : c ∉ ch := fun z => (hch c z).2.2.1 x c e rfl
    by_cases hc : c ∈ X.fs
    · obtain ⟨sl, q⟩ := slot c o (I.cne x c e) hc nch ho (I.freeC x c e)
      exact ⟨_, q, hd⟩
    · exact ⟨o, keep c o (I.cne x c e) hc nch ho (I.freeC x c e), hd⟩
  refine ⟨I.ok, I.os, hg, ⟨fun b o e n hb hx => ?_, fun b o e n hb hx => ?_, fun b o e n hx => ?_, fun b o e hx => ?_, fun b xs e => tups b xs (I.base.tups b xs e), fun b o xs e => frzs b o xs (I.base.frzs b o xs e), fun b ps e => ?_⟩, ?_, fun x c e => ?_, ?_, fun x c e => ?_, fun p hp => ?_, hok, I.len⟩
  · exact keep b o (neL b o e) hb (neC b o e hx) (I.base.keep b o e n hb hx) (I.base.free b o e n hx)
  · obtain ⟨sl, e1⟩ := I.base.slot b o e n hb hx
    obtain ⟨sl', e2⟩ := slot b _ (neL b o e) hb (neC b o e hx) e1 (I.base.free b o e n hx)
    exact ⟨sl', e2⟩
  · obtain ⟨o', e1⟩ := I.base.there b o e hx
    exact free b o' (neC b o e hx) e1 (I.base.free b o e n hx)
  · obtain ⟨o', e1⟩ := I.base.there b o e hx
    exact there b o' (neC b o e hx) e1
  · obtain ⟨m1, e1⟩ := I.base.tbls b ps e
    obtain ⟨m2, e2⟩ := tbls b _ e1
    exact ⟨m1 ++ m2, by rw [e2, Array.append_assoc]⟩
  · obtain ⟨m, hn, hl⟩ := I.loc
    refine ⟨m, ns m hn, fun i x v e1 e2 e3 => ?_⟩
    obtain ⟨u, r, l⟩ := hl i x v e1 e2 e3
    refine ⟨u, r, ?_⟩
    rcases l with l | ⟨k, c, e, z⟩
    · exact .inl l
    · exact .inr ⟨k, c, e, cellK x c e _ z⟩
  · obtain ⟨v, z⟩ := I.cell x c e
    exact ⟨v, cellK x c e v z⟩
  · obtain ⟨m, ⟨o, _, _, ho, _⟩, _⟩ := I.loc
    exact free _ o (fun z => (hch _ z).2.1 rfl) ho I.free
  · obtain ⟨v, o, ho, hd⟩ := I.cell x c e
    exact free c o (fun z => (hch c z).2.2.1 x c e rfl) ho (I.freeC x c e)
  · obtain ⟨e, n, ne, nf, d⟩ := I.pin p hp
    have nch : p.1 ∉ ch := fun z => (hch p.1 z).2.2.2 p hp rfl
    exact ⟨keep p.1 p.2 ne nf nch e n, free p.1 p.2 nch e n, ne, nf, d⟩
/-- .. where the frame's own object is kept too -/
theorem Inv.un {t' : Nat} (I : Inv X pins σ H s) (u : Un X.fs [] H H' s.heap h') (hok : HOk X.prog X.w H' h') : Inv X pins σ H' { s with heap := h', toks := t' } := by
  obtain ⟨m, ⟨o, es, ep, ho, r⟩, _⟩ := id I.loc
  obtain ⟨sl, hL⟩ := u.any ho I.free (by simp)
  exact I.step (g' := s.gens) (d' := s.drawn) (ch := []) (fun _ z => nomatch z) (fun b o _ hb _ e n => u.keep b o e n hb (by simp)) (fun b o _ hb _ e n => u.slot b o e n hb (by simp)) (fun b o _ e n => u.free b o e n (by simp)) (fun b o _ e => u.there b o e (by simp)) u.tups u.frzs u.tbls (fun m' hm => by
    obtain ⟨o', es', ep', ho', r'⟩ := hm
    rw [ho] at ho'; cases ho'
    exact ⟨_, es', ep', hL, r'⟩) hok I.bare
/-- behind a call (or a comprehension's block): the slots of this frame may have changed too, the records at ch may have turned -/
theorem Inv.call {g' : Array GenState} {t' : Nat} {d' : Drawn} {ch : List Addr} (I : Inv X pins σ H s) (u : Un (frs X.stack) ch H H' s.heap h') (hok : HOk X.prog X.w H' h') (hg : AllBare g')
    (hch : ∀ b ∈ ch, (b ∈ X.ex ∨ X.s₀.heap.objs.size ≤ b) ∧ b ≠ X.env.locals ∧ (∀ x c, X.env.cells.lookup x = some c → c ≠ b) ∧ ∀ p ∈ X.pn ++ pins, p.1 ≠ b) :
    Inv X pins σ H' { s with heap := h', gens := g', drawn := d', toks := t' } := by
  obtain ⟨m, ⟨o, es, ep, ho, r⟩, _⟩ := id I.loc
  obtain ⟨sl, hL⟩ := u.any ho I.free fun z => (hch _ z).2.1 rfl
  exact I.step (ch := ch) hch (fun b o hL hb hc e n => u.keep b o e n (fun z => (List.mem_cons.mp (I.stkSub b z)).elim hL hb) hc) (fun b o _ _ hc e n => u.any e n hc) (fun b o hc e n => u.free b o e n hc) (fun b o hc e => u.there b o e hc) u.tups u.frzs u.tbls (fun m' hm => by
    obtain ⟨o', es', ep', ho', r'⟩ := hm
    rw [ho] at ho'; cases ho'
    exact ⟨_, es', ep', hL, r'⟩) hok hg
/-- an untracked record of ours (an iterator) has turned -/
theorem Inv.turned {t' : Nat} {it : Addr} (I : Inv X pins σ H s) (k : ∀ b o, b ≠ it → s.heap.get? b = some o → h'.get? b = some o) (hn : H it = none) (hL : it ≠ X.env.locals)
    (h1 : it ∈ X.ex ∨ X.s₀.heap.objs.size ≤ it) (h2 : ∀ x c, X.env.cells.lookup x = some c → c ≠ it) (h3 : ∀ p ∈ X.pn ++ pins, p.1 ≠ it) : Inv X pins σ H { s with heap := h', toks := t' } := by
  have nit : ∀ b u, H b = some u → b ≠ it := fun b u e z => by rw [z, hn] at e; cases e
  refine I.step (g' := s.gens) (d' := s.drawn) (ch := [it]) (fun b hb => ?_) (fun b o _ _ hc e _ => k b o (fun z => hc (by simp [z])) e) (fun b o _ _ hc e _ => ⟨o.slots, k b o (fun z => hc (by simp [z])) e⟩) (fun _ _ _ _ n => n)
    (fun b o hc e => ⟨o, k b o (fun z => hc (by simp [z])) e⟩) (fun _ _ e => e) (fun _ _ _ e => e) (fun b ps e => ⟨#[], by rw [e]; simp⟩) (fun m hm => ?_) (fun b u e => ?_) I.bare
  · have e : b = it := by simpa using hb
    subst e
    exact ⟨h1, hL, h2, h3⟩
  · obtain ⟨o, es, ep, ho, r⟩ := hm
    exact ⟨o, es, ep, k _ o (Ne.symm hL) ho, r⟩
  · refine (I.hok b u e).stay (fun c v hc q => k c v ?_ q) (fun _ q => q) fun _ _ q => q
    rcases hc with z | z
    · rw [z]; exact nit b u e
    · exact nit c _ z
theorem Inv.tok (I : Inv X pins σ H s) (t : Nat) : Inv X pins σ H { s with toks := t } := I.un (h' := s.heap) (t' := t) Un.refl I.hok
/-- all objects kept -/
theorem Inv.kept {t' : Nat} (I : Inv X pins σ H s) (k : ∀ b u, s.heap.get? b = some u → h'.get? b = some u) : Inv X pins σ H { s with heap := h', toks := t' } := I.un (Un.kept k) (I.hok.kept k)
/-- a new object laid and tracked -/
theorem Inv.laid {a : Addr} {o : HO} {t' : Nat} (I : Inv X pins σ H s) (k : ∀ b u, s.heap.get? b = some u → h'.get? b = some u) (hp : s.heap.objs.size ≤ a) (new : ObjOk X.prog X.w (upd H a o) h' a o) :
    Inv X pins σ (upd H a o) { s with heap := h', toks := t' } := I.un (Un.laid k hp (I.hok.fresh hp)) (I.hok.laid k hp new)
theorem Inv.pins_of {pins' : List (Addr × Obj)} (I : Inv X pins σ H s) (h : ∀ p ∈ pins', s.heap.get? p.1 = some p.2 ∧ H p.1 = none ∧ p.1 ≠ X.env.locals ∧ p.1 ∉ X.fs ∧ ∀ v, p.2.data ≠ .cell v) : Inv X pins' σ H s :=
  ⟨I.ok, I.os, I.bare, I.base, I.loc, I.cell, I.free, I.freeC, fun p hp => (List.mem_append.mp hp).elim (fun z => I.pin p (List.mem_append_left _ z)) (h p), I.hok, I.len⟩

theorem nodup_ix {N : List Str} (hN : N.Nodup) {i j : Nat} {x : Str} (a : N[i]? = some x) (b : N[j]? = some x) : i = j := by
  obtain ⟨h1, e1⟩ := List.getElem?_eq_some_iff.mp a
  obtain ⟨h2, e2⟩ := List.getElem?_eq_some_iff.mp b
  exact (List.getElem_inj hN).mp (e1.trans e2.symm)

/-- a name is stored; what changed -/
theorem store_ok2 {M : Model} {A : Around} {E : Value → Shared → Prop} {i : Nat} {x : Str} {v : V} {u : Value} {Q : Unit → Shared → Prop} (I : Inv X pins σ H s) (hN : X.N.Nodup) (hi : X.N[i]? = some x) (hx : Loc X.env.scope x) (r : RelV v u)
    (h : ∀ s', Inv X pins (σ.set i (some v)) H s' → (∃ a, Heap.SameBut a s.heap s'.heap ∧ (a = X.env.locals ∨ X.env.cells.lookup x = some a)) → Q () s') (hf : X.fn x = true ∨ X.env.scope.names.lookup x = some .local := by first | exact .inl rfl | exact .inr rfl | assumption) : wpAny M A (storeName X.env x u) Q E s := by
  obtain ⟨m, hn, hl⟩ := id I.loc
  have hcls : (X.env.scope.kind == .class || (X.env.scope.kind == .module && X.env.locals != X.env.globals)) = false := by rw [I.ok.kind]; rfl
  have hiσ : i < σ.length := by rw [I.len]; exact (List.getElem?_eq_some_iff.mp hi).1
  have cne := I.cne
  have tracked : ∀ {a : Addr} {h' : Heap}, (∃ o, s.heap.get? a = some o ∧ H a = none) → Heap.SameBut a s.heap h' → HOk X.prog X.w H h' := fun {a h'} ha hs b ob e => by
    obtain ⟨_, _, hfree⟩ := ha
    refine (I.hok b ob e).stay (fun c w' hc q => (hs.2 c ?_).trans q) (fun _ q => q) fun _ _ q => q
    rintro rfl
    rcases hc with rfl | hc
    · rw [hfree] at e; cases e
    · rw [hfree] at hc; cases hc
  rcases hx with hk | hk
  · refine wpAny_storeName_local hk hn (fun h' hn' hs => ?_) hcls
    obtain ⟨oL, _, _, hoL, _⟩ := id hn
    refine h _ ⟨I.ok, I.os, I.bare, ⟨fun b o e n hb hx => ?_, fun b o e n hb hx => ?_, I.base.free, fun b o e hx => ?_, I.base.tups, I.base.frzs, I.base.tbls⟩, ⟨_, hn', fun j y v' e1 e2 e3 => ?_⟩, fun y c e => ?_, I.free, I.freeC, fun p hp => ?_, tracked ⟨oL, hoL, I.free⟩ hs, by simpa using I.len⟩ ⟨_, hs, .inl rfl⟩
    · exact (hs.2 b (Nat.ne_of_lt (Nat.lt_of_lt_of_le (Heap.lt_size e) I.ok.above))).trans (I.base.keep b o e n hb hx)
    · obtain ⟨sl, e1⟩ := I.base.slot b o e n hb hx
      exact ⟨sl, (hs.2 b (Nat.ne_of_lt (Nat.lt_of_lt_of_le (Heap.lt_size e) I.ok.above))).trans e1⟩
    · obtain ⟨o', e1⟩ := I.base.there b o e hx
      exact ⟨o', (hs.2 b (Nat.ne_of_lt (Nat.lt_of_lt_of_le (Heap.lt_size e) I.ok.above))).trans e1⟩
    · by_cases hj : j = i
      · subst hj
        rw [hi] at e1; cases e1
        rw [List.getElem?_set_self hiσ] at e2
        cases e2
        exact ⟨u, r, .inl ⟨hk, by simp⟩⟩
      · rw [List.getElem?_set_ne (Ne.symm hj)] at e2
        obtain ⟨u', r', q⟩ := hl j y v' e1 e2 e3
        refine ⟨u', r', ?_⟩
        rcases q with ⟨k, e⟩ | ⟨k, c, e, z⟩
        · refine .inl ⟨k, ?_⟩
          have : y ≠ x := fun e => hj (nodup_ix hN e1 (e ▸ hi))
          simp [this, e]
        · exact .inr ⟨k, c, e, z.sameBut hs (cne y c e)⟩
    · obtain ⟨w', z⟩ := I.cell y c e
      exact ⟨w', z.sameBut hs (cne y c e)⟩
    · obtain ⟨e, n, ne, nf, d⟩ := I.pin p hp
      exact ⟨(hs.2 p.1 ne).trans e, n, ne, nf, d⟩
  · have hfn : X.fn x = true := by
      rcases hf with z | z
      · exact z
      · rw [z] at hk; cases hk
    obtain ⟨c, hc⟩ := I.ok.has x (.inl hk)
    obtain ⟨w', z⟩ := I.cell x c hc
    refine wpAny_storeName_cell I.ok.kind hk hc z (fun h' hc' hs => ?_)
    obtain ⟨oc, hoc, hocd⟩ := id z
    refine h { s with heap := h' } ⟨I.ok, I.os, I.bare, ⟨fun b o e n hb hx => ?_, fun b o e n hb hx => ?_, I.base.free, fun b o e hx => ?_, I.base.tups, I.base.frzs, I.base.tbls⟩, ⟨m, hn.sameBut hs (Ne.symm (cne x c hc)), fun j y v' e1 e2 e3 => ?_⟩, fun y c' e => ?_, I.free, I.freeC, fun p hp => ?_, tracked ⟨oc, hoc, I.freeC x c hc⟩ hs, by simpa using I.len⟩ ⟨c, hs, .inr hc⟩
    · exact (hs.2 b (Nat.ne_of_lt (Nat.lt_of_lt_of_le (Heap.lt_size e) (I.ok.cab x c hfn hc)))).trans (I.base.keep b o e n hb hx)
    · obtain ⟨sl, e1⟩ := I.base.slot b o e n hb hx
      exact ⟨sl, (hs.2 b (Nat.ne_of_lt (Nat.lt_of_lt_of_le (Heap.lt_size e) (I.ok.cab x c hfn hc)))).trans e1⟩
    · obtain ⟨o', e1⟩ := I.base.there b o e hx
      exact ⟨o', (hs.2 b (Nat.ne_of_lt (Nat.lt_of_lt_of_le (Heap.lt_size e) (I.ok.cab x c hfn hc)))).trans e1⟩
    · by_cases hj : j = i
      · subst hj
        rw [hi] at e1; cases e1
        rw [List.getElem?_set_self hiσ] at e2
        cases e2
        exact ⟨u, r, .inr ⟨.inl hk, c, hc, hc'⟩⟩
      · rw [List.getElem?_set_ne (Ne.symm hj)] at e2
        obtain ⟨u', r', q⟩ := hl j y v' e1 e2 e3
        refine ⟨u', r', ?_⟩
        rcases q with q | ⟨k, c', e, z'⟩
        · exact .inl q
        · refine .inr ⟨k, c', e, z'.sameBut hs ?_⟩
          rintro rfl
          exact hj (nodup_ix hN e1 (I.ok.inj _ _ _ e hc ▸ hi))
    · by_cases hcc : c' = c
      · subst hcc; exact ⟨_, hc'⟩
      · obtain ⟨w2, z2⟩ := I.cell y c' e
        exact ⟨w2, z2.sameBut hs hcc⟩
    · obtain ⟨e, n, ne, nf, d⟩ := I.pin p hp
      refine ⟨(hs.2 p.1 ?_).trans e, n, ne, nf, d⟩
      intro q
      rw [q, hoc] at e
      have q' : oc = p.2 := Option.some.inj e
      exact d w' (by rw [← q']; exact hocd)
theorem store_ok {M : Model} {A : Around} {E : Value → Shared → Prop} {i : Nat} {x : Str} {v : V} {u : Value} {Q : Unit → Shared → Prop} (I : Inv X pins σ H s) (hN : X.N.Nodup) (hi : X.N[i]? = some x) (hx : Loc X.env.scope x) (r : RelV v u)
    (h : ∀ s', Inv X pins (σ.set i (some v)) H s' → Q () s') (hf : X.fn x = true ∨ X.env.scope.names.lookup x = some .local := by first | exact .inl rfl | exact .inr rfl | assumption) : wpAny M A (storeName X.env x u) Q E s :=
  store_ok2 I hN hi hx r (fun s' I' _ => h s' I') hf
/-- behind a call or a block, the state as it is -/
theorem Inv.call' {s' : Shared} {ch : List Addr} (I : Inv X pins σ H s) (ho : s'.os = s.os) (u : Un (frs X.stack) ch H H' s.heap s'.heap) (hok : HOk X.prog X.w H' s'.heap) (hg : AllBare s'.gens)
    (hch : ∀ b ∈ ch, (b ∈ X.ex ∨ X.s₀.heap.objs.size ≤ b) ∧ b ≠ X.env.locals ∧ (∀ x c, X.env.cells.lookup x = some c → c ≠ b) ∧ ∀ p ∈ X.pn ++ pins, p.1 ≠ b) : Inv X pins σ H' s' := by
  obtain ⟨h', g', d', t', o'⟩ := s'
  have e : o' = s.os := ho
  subst e
  exact I.call (g' := g') (t' := t') (d' := d') u hok hg hch
end

/-- an exception: its class, its own dict's address (where it has one), the abstract heap behind it -/
abbrev XK := Value → Option Addr → Hp → Prop
abbrev St := List (Option V)
abbrev VK := V → Hp → Prop
/-- an expression's reading; a test's; an argument list's -/
abbrev TE := St → Hp → VK → Prop
abbrev TT := St → Hp → (Bool → Hp → Prop) → Prop
abbrev TA := St → Hp → (List V → Hp → Prop) → Prop
/-- what is wanted behind a statement -/
structure Ends where
  nx : St → Hp → Prop
  rt : VK
  bk : St → Hp → Prop := fun _ _ => False
  ct : St → Hp → Prop := fun _ _ => False
abbrev TS := Ends → St → Hp → Prop

def EP (X : Cx) (pins : List (Addr × Obj)) (σ : St) (Q : VK) (u : Value) (s' : Shared) : Prop := ∃ v H', Inv X pins σ H' s' ∧ RelV v u ∧ Q v H'
def TP (X : Cx) (pins : List (Addr × Obj)) (σ : St) (Q : Bool → Hp → Prop) (b : Bool) (s' : Shared) : Prop := ∃ H', Inv X pins σ H' s' ∧ Q b H'
def AP (X : Cx) (pins : List (Addr × Obj)) (σ : St) (Q : List V → Hp → Prop) (us : List Value) (s' : Shared) : Prop := ∃ vs H', Inv X pins σ H' s' ∧ Vals vs us ∧ Q vs H'
def SP (X : Cx) (pins : List (Addr × Obj)) (D : Ends) (f : Flow) (s' : Shared) : Prop :=
  match f with
  | .next => ∃ σ' H', Inv X pins σ' H' s' ∧ D.nx σ' H'
  | .brk => ∃ σ' H', Inv X pins σ' H' s' ∧ D.bk σ' H'
  | .cont => ∃ σ' H', Inv X pins σ' H' s' ∧ D.ct σ' H'
  | .ret u => ∃ v σ' H', Inv X pins σ' H' s' ∧ RelV v u ∧ D.rt v H'

def PE (X : Cx) (e : Expr) (t : TE) : Prop :=
  ∀ (pins : List (Addr × Obj)) (s : Shared) (σ : St) (H : Hp) (Q : VK), Inv X pins σ H s → t σ H Q → wpAny (model X.prog X.w) X.A (eval e X.env) (EP X pins σ Q) X.xe s
def PT (X : Cx) (e : Expr) (t : TT) : Prop :=
  ∀ (pins : List (Addr × Obj)) (s : Shared) (σ : St) (H : Hp) (Q : Bool → Hp → Prop), Inv X pins σ H s → t σ H Q → wpAny (model X.prog X.w) X.A (isTrue e X.env (eval e X.env)) (TP X pins σ Q) X.xe s
/-- a test whatever its 'whole' is (and, or) -/
def PW (X : Cx) (e : Expr) (t : TT) : Prop :=
  ∀ (whole : Sem Value) (pins : List (Addr × Obj)) (s : Shared) (σ : St) (H : Hp) (Q : Bool → Hp → Prop), Inv X pins σ H s → t σ H Q → wpAny (model X.prog X.w) X.A (isTrue e X.env whole) (TP X pins σ Q) X.xe s
theorem PW.pt {X : Cx} {e : Expr} {t : TT} (h : PW X e t) : PT X e t := h _
/-- an argument list (no star), from the left -/
def PA (X : Cx) (es : List Expr) (t : TA) : Prop :=
  ∀ (pos : Pos) (pins : List (Addr × Obj)) (s : Shared) (σ : St) (H : Hp) (Q : List V → Hp → Prop), Inv X pins σ H s → t σ H Q → wpAny (model X.prog X.w) X.A (spliced (backTo pos (starEach es X.env))) (AP X pins σ Q) X.xe s
def PS (X : Cx) (st : Stmt) (t : TS) : Prop :=
  ∀ (pins : List (Addr × Obj)) (s : Shared) (σ : St) (H : Hp) (D : Ends), Inv X pins σ H s → t D σ H → wpAny (model X.prog X.w) X.A (exec st X.env) (SP X pins D) X.xe s
def PSs (X : Cx) (st : List Stmt) (t : TS) : Prop :=
  ∀ (pins : List (Addr × Obj)) (s : Shared) (σ : St) (H : Hp) (D : Ends), Inv X pins σ H s → t D σ H → wpAny (model X.prog X.w) X.A (execs st X.env) (SP X pins D) X.xe s
/-- weaken the end -/
theorem thn {α : Type} {t : Sem α} {Q Q' : α → Shared → Prop} {M : Model} {A : Around} {E : Value → Shared → Prop} {s : Shared} (h : wpAny M A t Q E s) (hQ : ∀ a s, Q a s → Q' a s) : wpAny M A t Q' E s := wpAny_mono h hQ fun _ _ x => x
end L2

namespace L2
open PySem PySem.Spec PyProof.Rows
section
variable {X : Cx}

def tVar (i : Nat) : TE := fun σ H Q => ∃ v, σ[i]? = some (some v) ∧ Q v H
def tC (v : V) : TE := fun _ H Q => Q v H
theorem pe_var {i : Nat} {x : Str} {pos : Pos} (hN : X.N[i]? = some x) (hv : Vis X.env.scope x) (hd : (x == ("__debug__" : Str)) = false := by decide) (hcd : (x == ("__classdict__" : Str)) = false := by decide) : PE X (.Name x pos) (tVar i) := by
  intro pins s σ H Q I h
  obtain ⟨v, e, h⟩ := h
  obtain ⟨m, hn, hl⟩ := I.loc
  obtain ⟨u, r, l⟩ := hl i x v hN e hv
  have fin : EP X pins σ Q u s := ⟨v, H, I, r, h⟩
  rcases l with ⟨hk, hm⟩ | ⟨hk, c, hc, hcell⟩
  · exact wpAny_Name (wpAny_loadName_local I.ok.kind hk hn hm fin) hd
  · rcases hk with hk | hk
    · exact wpAny_Name (wpAny_loadName_cell I.ok.kind hk hc hcell fin) hd
    · exact wpAny_Name (wpAny_loadName_free I.ok.kind hk hc hcell fin hcd) hd
theorem pe_int {i j pos} : PE X (.Constant (.int i) j pos) (tC (.int i)) := fun _ _ _ H _ I h => wpAny_Constant_int ⟨.int i, H, I.tok _, ⟨_, rfl⟩, h⟩
theorem pe_bl {b j pos} : PE X (.Constant (.bool b) j pos) (tC (.bl b)) := fun _ _ _ H _ I h => Constant_bool ⟨.bl b, H, I, rfl, h⟩
theorem pe_non {j pos} : PE X (.Constant .none j pos) (tC .non) := fun _ _ _ H _ I h => Constant_none ⟨.non, H, I, rfl, h⟩
theorem pe_str {x j pos} : PE X (.Constant (.str x) j pos) (tC (.str x)) := fun _ _ _ H _ I h => Calls.Constant_str ⟨.str x, H, I.tok _, ⟨_, rfl⟩, h⟩

/-- a global name of the def -/
def Gl (X : Cx) (x : Str) : Prop := X.env.kindOf x = some .globalImplicit
theorem ld_glob {E : Value → Shared → Prop} {pins : List (Addr × Obj)} {s : Shared} {σ : St} {H : Hp} {x : Str} {u : Value} {pos : Pos} {Q : Value → Shared → Prop} (I : Inv X pins σ H s) (hg : Gl X x) (hm : X.mg x = some u) (h : Q u s)
    (hd : (x == ("__debug__" : Str)) = false := by decide) : wpAny (model X.prog X.w) X.A (eval (.Name x pos) X.env) Q E s :=
  Calls.Name_function_global I.ok.kind hg (Calls.loadGlobal_global (by rw [I.ok.glob]; exact I.mod.glob.keeps I.bk) hm h) hd
theorem ld_blt {E : Value → Shared → Prop} {pins : List (Addr × Obj)} {s : Shared} {σ : St} {H : Hp} {x : Str} {u : Value} {pos : Pos} {Q : Value → Shared → Prop} (I : Inv X pins σ H s) (hg : Gl X x) (hm : X.mg x = none) (hv : bootBuiltins x = some u) (h : Q u s)
    (hn : x ≠ "__name__" := by decide) (hd : (x == ("__debug__" : Str)) = false := by decide) : wpAny (model X.prog X.w) X.A (eval (.Name x pos) X.env) Q E s := by
  obtain ⟨mb, h1, h2⟩ := I.mod.blt
  exact Calls.Name_function_global I.ok.kind hg (Calls.loadGlobal_builtin (by rw [I.ok.glob]; exact I.mod.glob.keeps I.bk) hm (by rw [I.ok.blt]; exact h1.keeps I.bk) ((h2 x hn).trans hv) h) hd
theorem pe_bltn {x : Str} {v : V} {u : Value} {pos : Pos} (hg : Gl X x) (hm : X.mg x = none) (hv : bootBuiltins x = some u) (r : RelV v u) (hn : x ≠ "__name__" := by decide) (hd : (x == ("__debug__" : Str)) = false := by decide) : PE X (.Name x pos) (tC v) :=
  fun _ _ _ H _ I h => ld_blt I hg hm hv ⟨v, H, I, r, h⟩ hn hd

variable {a b : Expr} {ta tb : TE} {pos : Pos}
def PC (X : Cx) (op : CmpOp) (a b : Expr) (t : TE) : Prop :=
  ∀ (pins : List (Addr × Obj)) (s : Shared) (σ : St) (H : Hp) (Q : VK), Inv X pins σ H s → t σ H Q →
    wpAny (model X.prog X.w) X.A (eval a X.env) (fun v s₁ => wpAny (model X.prog X.w) X.A (eval b X.env) (fun u s₂ => wpAny (model X.prog X.w) X.A (compareOp op v u) (EP X pins σ Q) X.xe s₂) X.xe s₁) X.xe s
theorem nobehind (b : Expr) {op : CmpOp} (h : op ≠ .In) (h2 : op ≠ .NotIn) : behindInMarks op b = false := by
  have e1 : (op == CmpOp.In) = false := by cases op <;> first | rfl | exact absurd rfl h
  have e2 : (op == CmpOp.NotIn) = false := by cases op <;> first | rfl | exact absurd rfl h2
  cases b <;> simp [behindInMarks, e1, e2]
/-- is None -/
def tIsN (ta : TE) : TE := fun σ H Q => ta σ H fun x H1 => Q (.bl (decide (x = .non))) H1
theorem RelV.none_iff {x : V} {v : Value} (r : RelV x v) : (v == Value.none) = decide (x = .non) := by
  cases x with
  | non => cases r; rfl
  | bl _ => cases r; rfl
  | int _ => obtain ⟨t, rfl⟩ := r; rfl
  | str _ => obtain ⟨t, rfl⟩ := r; rfl
  | byt _ => obtain ⟨t, rfl⟩ := r; rfl
  | flt _ => obtain ⟨t, rfl⟩ := r; rfl
  | ref _ => cases r; rfl
  | ty _ => cases r; rfl
theorem pc_isN {j pos'} (ha : PE X a ta) : PC X .Is a (.Constant .none j pos') (tIsN ta) := by
  intro pins s σ H Q I h
  refine thn (ha pins s σ H _ I h) fun v s1 ⟨x, H1, I1, r1, q1⟩ => ?_
  exact Constant_none (is_none_gen ⟨.bl _, H1, I1, by rw [r1.none_iff]; rfl, q1⟩)
/-- a comparison as a value, as a test -/
def tB (t : TE) : TT := fun σ H Q => t σ H fun x H1 => ∃ c, x = .bl c ∧ Q c H1
theorem pt_cmp {op : CmpOp} {t : TE} (h : PC X op a b t) (h1 : behindInMarks op b = false := by first | exact nobehind _ (by decide) (by decide) | rfl) : PT X (.Compare a [op] [b] pos) (tB t) := by
  intro pins s σ H Q I hw
  refine wpAny_isTrue_Compare1 (thn (h pins s σ H _ I hw) fun v s1 h1 => thn h1 fun u s2 h2 => thn h2 fun c s3 ⟨x, H1, I1, r1, q1⟩ => ?_) h1
  obtain ⟨d, rfl, q⟩ := q1
  cases r1
  exact wpAny_truthy_bool ⟨H1, I1, q⟩
variable {tA tB' : TT} {rest : List Expr}
def tAnd (t u : TT) : TT := fun σ H Q => t σ H fun c H1 => if c = true then u σ H1 Q else Q false H1
def tOr (t u : TT) : TT := fun σ H Q => t σ H fun c H1 => if c = true then Q true H1 else u σ H1 Q
def tNot (t : TT) : TT := fun σ H Q => t σ H fun c H1 => Q (!c) H1
end
end L2

namespace L2
open PySem PySem.Spec PyProof.Rows

def SqL (K : PySem.W.Frag) (H : Hp) (a : Addr) (xs : List V) : Prop :=
  Rd H a (.lst xs) ∨
    ∃ (o : Obj) (its : Array Value) (n : Nat), K.lookup a = some o ∧ o.cls = .type "list" ∧ o.dict = none ∧ o.data = .seq its n ∧ its.size ≤ sizeLine ∧ Vals xs its.toList
def SqT (K : PySem.W.Frag) (H : Hp) (a : Addr) (xs : List V) : Prop :=
  Rd H a (.tup xs) ∨
    ∃ (o : Obj) (its : Array Value) (n : Nat), K.lookup a = some o ∧ o.cls = .type "tuple" ∧ o.data = .seq its n ∧ its.size ≤ sizeLine ∧ Vals xs its.toList
def absV : Value → Option V
  | .none => some .non
  | .bool b => some (.bl b)
  | .int i _ => some (.int i)
  | .str x _ => some (.str x)
  | .bytes b _ => some (.byt b)
  | .float b _ => some (.flt b)
  | .ref a => some (.ref a)
  | .type n => some (.ty n)
  | _ => none
theorem RelV.abs {x : V} {u : Value} (r : RelV x u) : absV u = some x := by
  cases x with
  | non => cases r; rfl
  | bl _ => cases r; rfl
  | int _ => obtain ⟨t, rfl⟩ := r; rfl
  | str _ => obtain ⟨t, rfl⟩ := r; rfl
  | byt _ => obtain ⟨t, rfl⟩ := r; rfl
  | flt _ => obtain ⟨t, rfl⟩ := r; rfl
  | ref _ => cases r; rfl
  | ty _ => cases r; rfl
theorem RelV.inj {x y : V} {u : Value} (r : RelV x u) (q : RelV y u) : x = y := Option.some.inj (r.abs.symm.trans q.abs)
theorem Vals.inj : ∀ {xs ys : List V} {us : List Value}, Vals xs us → Vals ys us → xs = ys
  | _, _, _, .nil, .nil => rfl
  | _, _, _, .cons r t, .cons r' t' => by rw [r.inj r', Vals.inj t t']
section
variable {X : Cx} {pins : List (Addr × Obj)} {σ : St} {H : Hp} {s : Shared} {a : Addr} {xs ys : List V}
theorem SqL.of {K : PySem.W.Frag} (h : H a = some (.lst xs)) : SqL K H a xs := .inl (.inl h)
theorem SqT.of {K : PySem.W.Frag} (h : H a = some (.tup xs)) : SqT K H a xs := .inl (.inl h)
theorem Inv.list (I : Inv X pins σ H s) (h : SqL X.K H a xs) : ∃ its : List Value, Vals xs its ∧ PlainL s.heap a its.toArray ∧ xs.length ≤ sizeLine := by
  rcases h with h | ⟨o, its, n, hk, hc, hd, hs, hz, r⟩
  · obtain ⟨z, its, n, r, e⟩ := h.ok I.hok
    exact ⟨its, r, ⟨_, n, e, rfl, rfl, rfl⟩, z⟩
  · refine ⟨its.toList, r, ⟨o, n, I.kIn a o hk, hc, hd, by simpa using hs⟩, ?_⟩
    have e := r.length
    simp only [Array.length_toList] at e
    omega
theorem Inv.tuple (I : Inv X pins σ H s) (h : SqT X.K H a xs) : ∃ its : List Value, Vals xs its ∧ IsTup s.heap a its.toArray ∧ xs.length ≤ sizeLine := by
  rcases h with h | ⟨o, its, n, hk, hc, hs, hz, r⟩
  · obtain ⟨z, its, r, p⟩ := h.ok I.hok
    exact ⟨its, r, p, z⟩
  · refine ⟨its.toList, r, ⟨o, I.kIn a o hk, hc, n, by simpa using hs⟩, ?_⟩
    have e := r.length
    simp only [Array.length_toList] at e
    omega
theorem Inv.list_inj (I : Inv X pins σ H s) (h : SqL X.K H a xs) (h' : SqL X.K H a ys) : xs = ys := by
  obtain ⟨its, r, ⟨o, n, e, _, _, d⟩, _⟩ := I.list h
  obtain ⟨its', r', ⟨o', n', e', _, _, d'⟩, _⟩ := I.list h'
  rw [e] at e'; cases e'
  rw [d] at d'
  injection d' with d1 _
  have : its = its' := by simpa using congrArg Array.toList d1
  subst this
  exact r.inj r'
theorem Inv.tuple_inj (I : Inv X pins σ H s) (h : SqT X.K H a xs) (h' : SqT X.K H a ys) : xs = ys := by
  obtain ⟨its, r, ⟨o, e, _, n, d⟩, _⟩ := I.tuple h
  obtain ⟨its', r', ⟨o', e', _, n', d'⟩, _⟩ := I.tuple h'
  rw [e] at e'; cases e'
  rw [d] at d'
  injection d' with d1 _
  have : its = its' := by simpa using congrArg Array.toList d1
  subst this
  exact r.inj r'
end

abbrev Cx.wish (X : Cx) (E : Value → Shared → Prop) : Cx := { X with xe := E }
/-- no exception leaves -/
abbrev Cx.nox (X : Cx) : Cx := X.wish fun _ _ => False
theorem Cx.Ok.wish {X : Cx} (ok : X.Ok) (E : Value → Shared → Prop) : (X.wish E).Ok :=
  ⟨ok.mod, ok.kind, ok.glob, ok.blt, ok.above, ok.inj, ok.has, ok.cab, ok.hd, ok.frames, ok.stk, ok.exf, ok.bs, ok.bsz, ok.noex, ok.exfs, ok.funs, ok.frf⟩
theorem Cx.Ok.unwish {X : Cx} {E : Value → Shared → Prop} (ok : (X.wish E).Ok) : X.Ok :=
  ⟨ok.mod, ok.kind, ok.glob, ok.blt, ok.above, ok.inj, ok.has, ok.cab, ok.hd, ok.frames, ok.stk, ok.exf, ok.bs, ok.bsz, ok.noex, ok.exfs, ok.funs, ok.frf⟩
section
variable {X : Cx} {pins : List (Addr × Obj)} {σ : St} {H : Hp} {s : Shared} {E : Value → Shared → Prop}
theorem Inv.wish (I : Inv X pins σ H s) (E : Value → Shared → Prop) : Inv (X.wish E) pins σ H s := ⟨I.ok.wish E, I.os, I.bare, I.base, I.loc, I.cell, I.free, I.freeC, I.pin, I.hok, I.len⟩
theorem Inv.unwish (I : Inv (X.wish E) pins σ H s) : Inv X pins σ H s := ⟨I.ok.unwish, I.os, I.bare, I.base, I.loc, I.cell, I.free, I.freeC, I.pin, I.hok, I.len⟩
theorem SP.unwish {D : Ends} {f : Flow} {s' : Shared} (h : SP (X.wish E) pins D f s') : SP X pins D f s' := by
  cases f with
  | next => obtain ⟨σ', H', I, q⟩ := h; exact ⟨σ', H', I.unwish, q⟩
  | brk => obtain ⟨σ', H', I, q⟩ := h; exact ⟨σ', H', I.unwish, q⟩
  | cont => obtain ⟨σ', H', I, q⟩ := h; exact ⟨σ', H', I.unwish, q⟩
  | ret u => obtain ⟨v, σ', H', I, r, q⟩ := h; exact ⟨v, σ', H', I.unwish, r, q⟩
theorem PE.nox {e : Expr} {t : TE} (h : PE X.nox e t) : PE X e t := fun pins s σ H Q I hw =>
  wpAny_mono (h pins s σ H Q (I.wish _) hw) (fun _ _ ⟨v, H', I', r, q⟩ => ⟨v, H', I'.unwish, r, q⟩) fun _ _ z => False.elim z
theorem PT.nox {e : Expr} {t : TT} (h : PT X.nox e t) : PT X e t := fun pins s σ H Q I hw =>
  wpAny_mono (h pins s σ H Q (I.wish _) hw) (fun _ _ ⟨H', I', q⟩ => ⟨H', I'.unwish, q⟩) fun _ _ z => False.elim z
theorem PSs.nox {st : List Stmt} {t : TS} (h : PSs X.nox st t) : PSs X st t := fun pins s σ H D I hw =>
  wpAny_mono (h pins s σ H D (I.wish _) hw) (fun _ _ q => q.unwish) fun _ _ z => False.elim z
end

section
variable {X : Cx} {st : Stmt} {rest : List Stmt} {t u : TS} {e : Expr} {te : TE} {pos : Pos}
end

abbrev TG := V → St → Hp → (St → Hp → Prop) → Prop
def PG (X : Cx) (target : Expr) (t : TG) : Prop :=
  ∀ (pins : List (Addr × Obj)) (s : Shared) (σ : St) (H : Hp) (v : V) (u : Value) (Q : St → Hp → Prop), Inv X pins σ H s → RelV v u → t v σ H Q →
    wpAny (model X.prog X.w) X.A (assign target X.env u) (fun _ s' => ∃ σ' H', Inv X pins σ' H' s' ∧ Q σ' H') X.xe s
section
variable {X : Cx} {pos : Pos}
def gName (i : Nat) : TG := fun v σ H Q => Q (σ.set i (some v)) H
theorem pg_name {i : Nat} {x : Str} (hN : X.N.Nodup) (hi : X.N[i]? = some x) (hx : Loc X.env.scope x) (hf : X.fn x = true ∨ X.env.scope.names.lookup x = some .local := by first | exact .inl rfl | exact .inr rfl | assumption) : PG X (.Name x pos) (gName i) := by
  intro pins s σ H v u Q I r h
  exact wpAny_assign_Name (store_ok I hN hi hx r (fun s' I' => ⟨_, H, I', h⟩) hf)
/-- target = value -/
def tAsg (te : TE) (g : TG) : TS := fun D σ H => te σ H fun x H1 => g x σ H1 D.nx
/-- name = value -/
theorem ps_set {i : Nat} {x : Str} {e : Expr} {te : TE} {pos' : Pos} (hN : X.N.Nodup) (hi : X.N[i]? = some x) (hx : Loc X.env.scope x) (he : PE X e te) (hs : swapsWith e (some (.Name x pos')) pos.line X.env = pure false := by rfl) (hf : X.fn x = true ∨ X.env.scope.names.lookup x = some .local := by first | exact .inl rfl | exact .inr rfl | assumption) :
    PS X (.Assign [.Name x pos'] e pos) (tAsg te (gName i)) := by
  intro pins s σ H D I h
  refine wpAny_Assign_Name (thn (he pins s σ H _ I h) fun v s1 ⟨y, H1, I1, r1, q1⟩ => ?_) hs
  exact store_ok I1 hN hi hx r1 (fun s2 I2 => ⟨_, H1, I2, q1⟩) hf
end

section
variable {X : Cx} {pos : Pos}
end

/-- at turn i: it yields x (the heap may grow), or it stops -/
structure It where
  go : Nat → Hp → Prop
  yld : Nat → Hp → V → Hp → Prop
  stop : Nat → Hp → Prop
/-- the iterator's own objects may turn: they are not the frame's, not pinned, younger than the entry (or a comprehension's own) -/
def FpOk (X : Cx) (pins : List (Addr × Obj)) (H : Hp) (b : Addr) : Prop :=
  H b = none ∧ b ≠ X.env.locals ∧ b ∉ X.fs ∧ (b ∈ X.ex ∨ X.s₀.heap.objs.size ≤ b) ∧ (∀ x c, X.env.cells.lookup x = some c → c ≠ b) ∧ ∀ p ∈ X.pn ++ pins, p.1 ≠ b
theorem Inv.fpOk {X : Cx} {pins : List (Addr × Obj)} {σ : St} {H H' : Hp} {s : Shared} {b : Addr} (I : Inv X pins σ H s) (hb : s.heap.objs.size ≤ b) (hn : H' b = none) : FpOk X pins H' b := by
  refine ⟨hn, Nat.ne_of_gt (Nat.lt_of_lt_of_le I.lt hb), I.nofs hb, .inr (Nat.le_trans I.sz hb), fun x c e z => ?_, fun p hp z => ?_⟩
  · obtain ⟨v, q⟩ := I.cell x c e
    exact absurd (Nat.lt_of_lt_of_le q.lt (by rw [z]; exact hb)) (Nat.lt_irrefl _)
  · exact absurd (Nat.lt_of_lt_of_le (Heap.lt_size (I.pin p hp).1) (by rw [z]; exact hb)) (Nat.lt_irrefl _)
structure Turn (P : Program) (w : World) (K : PySem.W.Frag) (tg : Expr) (J : It) (fp : List Addr) (it : Addr) (tn : Nat → Heap → Prop) : Prop where
  mem : it ∈ fp
  obj : ∀ i h, tn i h → ∀ b ∈ fp, ∃ o, h.get? b = some o ∧ ∀ v, o.data ≠ .cell v
  keep : ∀ i h h', tn i h → (∀ b ∈ fp, ∀ o, h.get? b = some o → h'.get? b = some o) → tn i h'
  item : ∀ (X : Cx), X.prog = P → X.w = w → X.K = K → X.calm = true → ∀ (i : Nat) (pins : List (Addr × Obj)) (s : Shared) (σ : St) (H : Hp) (E : Value → Shared → Prop), Inv X pins σ H s → (∀ b ∈ fp, FpOk X pins H b) → tn i s.heap → J.go i H →
    wpAny (model P w) X.A (pyNext (.ref it)) (fun r s1 => ∃ u, r = some u ∧
      wpAny (model P w) X.A (letOwnedTupleGo tg (.ref it) u) (fun _ s2 => ∃ x H', Inv X pins σ H' s2 ∧ RelV x u ∧ J.yld i H x H' ∧ tn (i + 1) s2.heap ∧ ∀ b ∈ fp, H' b = none) E s1) E s
  done : ∀ (X : Cx), X.prog = P → X.w = w → X.K = K → X.calm = true → ∀ (i : Nat) (pins : List (Addr × Obj)) (s : Shared) (σ : St) (H : Hp) (E : Value → Shared → Prop), Inv X pins σ H s → (∀ b ∈ fp, FpOk X pins H b) → tn i s.heap → J.stop i H →
    wpAny (model P w) X.A (pyNext (.ref it)) (fun r s1 => r = none ∧ Inv X pins σ H s1) E s
  self : ∀ (A : Around) (i : Nat) (s : Shared) (Q : Value → Shared → Prop) (E : Value → Shared → Prop), tn i s.heap → Q (.ref it) s → wpAny (model P w) A (pyIter (.ref it)) Q E s
abbrev TI := St → Hp → (It → Hp → Prop) → Prop
/-- an iterator has come -/
def PIE (X : Cx) (pins : List (Addr × Obj)) (σ : St) (tg : Expr) (R : It → Hp → Prop) (itv : Value) (s2 : Shared) : Prop :=
  ∃ (it : Addr) (fp : List Addr) (tn : Nat → Heap → Prop) (J : It) (H' : Hp), itv = .ref it ∧ Inv X pins σ H' s2 ∧ Turn X.prog X.w X.K tg J fp it tn ∧ tn 0 s2.heap ∧ (∀ b ∈ fp, FpOk X pins H' b) ∧ R J H'
def PI (X : Cx) (tg iter : Expr) (wi : TI) : Prop :=
  ∀ (pins : List (Addr × Obj)) (s : Shared) (σ : St) (H : Hp) (R : It → Hp → Prop), Inv X pins σ H s → wi σ H R →
    wpAny (model X.prog X.w) X.A (eval iter X.env) (fun v s1 => wpAny (model X.prog X.w) X.A (pyIter v) (PIE X pins σ tg R) X.xe s1) X.xe s

/-- the step ahead of the store is nothing for an iterator that keeps no tuple -/
theorem go_of {M : Model} {A : Around} {E : Value → Shared → Prop} {s : Shared} {tg : Expr} {it : Addr} {u : Value} {o : Obj} {n : String} {vs : Array Value} {Q : Unit → Shared → Prop} (ho : s.heap.get? it = some o) (hc : o.cls = .type n) (hd : o.data = .fields vs)
    (hn : ["enumerate", "zip", "dict_itemiterator", "dict_reverseitemiterator", "odict_iterator", "itertools.zip_longest", "itertools.pairwise"].contains n = false) (hQ : Q () s) : wpAny M A (letOwnedTupleGo tg (.ref it) u) Q E s := by
  unfold letOwnedTupleGo
  cases tg <;> first
    | exact wpAny_pure hQ
    | (cases u <;> first
        | exact wpAny_pure hQ
        | (refine wpAny_bind (wpAny_load ho ?_)
           rw [hc, hd]
           show wpAny M A (if (["enumerate", "zip", "dict_itemiterator", "dict_reverseitemiterator", "odict_iterator", "itertools.zip_longest", "itertools.pairwise"].contains n && vs[0]? == some (rawInt _)) = true then _ else _) Q E s
           rw [if_neg (by intro h; rw [hn, Bool.false_and] at h; cases h)]
           exact wpAny_pure hQ))

/-- the list at a, as it stands at each turn (a loop may append to it) -/
def Itl (K : PySem.W.Frag) (a : Addr) : It :=
  ⟨fun i H => ∃ xs x, SqL K H a xs ∧ xs[i]? = some x, fun i H x H' => H' = H ∧ ∀ xs, SqL K H a xs → xs[i]? = some x, fun i H => ∃ xs, SqL K H a xs ∧ xs.length ≤ i⟩
def Itt (K : PySem.W.Frag) (a : Addr) : It :=
  ⟨fun i H => ∃ xs x, SqT K H a xs ∧ xs[i]? = some x, fun i H x H' => H' = H ∧ ∀ xs, SqT K H a xs → xs[i]? = some x, fun i H => ∃ xs, SqT K H a xs ∧ xs.length ≤ i⟩
theorem turn_list {P : Program} {w : World} {K : PySem.W.Frag} {tg : Expr} (a it : Addr) : Turn P w K tg (Itl K a) [it] it (fun i h => h.IsListIter it a i) where
  mem := by simp
  obj := fun i h st b hb => by
    have e : b = it := by simpa using hb
    subst e
    obtain ⟨o, e, c, d⟩ := st
    exact ⟨o, e, fun v z => by rw [d] at z; cases z⟩
  keep := fun i h h' st k => st.at fun o e => k it (by simp) o e
  item := by
    intro X hP hw hK hc i pins s σ H E I hf st hg
    subst hP hw hK
    obtain ⟨xs, x, hq, hx⟩ := hg
    obtain ⟨its, rv, p, hz⟩ := I.list hq
    obtain ⟨u, hu, ru⟩ := rv.get hx
    obtain ⟨f0, f1, f2, f3, f4, f5⟩ := hf it (by simp)
    refine wpAny_pyNext_list_item st p.isList (x := u) (by simpa using hu) fun h' st' sb => ?_
    have I1 : Inv X pins σ H { s with heap := h' } := I.turned (t' := s.toks) (fun b o hb e => (sb.2 b hb).trans e) f0 f1 f3 f4 f5
    obtain ⟨o, e, c, d⟩ := id st'
    exact ⟨u, rfl, go_of (s := { s with heap := h' }) e c d (by decide) ⟨x, H, I1, ru, ⟨rfl, fun ys hy => by rw [I.list_inj hy hq]; exact hx⟩, st', fun b hb => (hf b hb).1⟩⟩
  done := by
    intro X hP hw hK hc i pins s σ H E I hf st hg
    subst hP hw hK
    obtain ⟨xs, hq, hx⟩ := hg
    obtain ⟨its, rv, p, hz⟩ := I.list hq
    obtain ⟨f0, f1, f2, f3, f4, f5⟩ := hf it (by simp)
    have hl := rv.length
    exact wpAny_pyNext_list_end (I.ok.hd hc) st p.isList (by simp; omega) fun h' eb => ⟨rfl, I.turned (t' := s.toks) (fun b o hb e => eb b o hb e) f0 f1 f3 f4 f5⟩
  self := fun _ _ _ _ _ st h => wpAny_pyIter_listiter st h
theorem turn_tuple {P : Program} {w : World} {K : PySem.W.Frag} {tg : Expr} (a it : Addr) : Turn P w K tg (Itt K a) [it] it (fun i h => h.IsTupleIter it a i) where
  mem := by simp
  obj := fun i h st b hb => by
    have e : b = it := by simpa using hb
    subst e
    obtain ⟨o, e, c, d⟩ := st
    exact ⟨o, e, fun v z => by rw [d] at z; cases z⟩
  keep := fun i h h' st k => st.at fun o e => k it (by simp) o e
  item := by
    intro X hP hw hK hc i pins s σ H E I hf st hg
    subst hP hw hK
    obtain ⟨xs, x, hq, hx⟩ := hg
    obtain ⟨its, rv, p, hz⟩ := I.tuple hq
    obtain ⟨u, hu, ru⟩ := rv.get hx
    obtain ⟨f0, f1, f2, f3, f4, f5⟩ := hf it (by simp)
    refine wpAny_pyNext_tuple_item st (show s.heap.IsTuple a its.toArray from p) (x := u) (by simpa using hu) fun h' st' sb => ?_
    have I1 : Inv X pins σ H { s with heap := h' } := I.turned (t' := s.toks) (fun b o hb e => (sb.2 b hb).trans e) f0 f1 f3 f4 f5
    obtain ⟨o, e, c, d⟩ := id st'
    exact ⟨u, rfl, go_of (s := { s with heap := h' }) e c d (by decide) ⟨x, H, I1, ru, ⟨rfl, fun ys hy => by rw [I.tuple_inj hy hq]; exact hx⟩, st', fun b hb => (hf b hb).1⟩⟩
  done := by
    intro X hP hw hK hc i pins s σ H E I hf st hg
    subst hP hw hK
    obtain ⟨xs, hq, hx⟩ := hg
    obtain ⟨its, rv, p, hz⟩ := I.tuple hq
    obtain ⟨f0, f1, f2, f3, f4, f5⟩ := hf it (by simp)
    have hl := rv.length
    exact wpAny_pyNext_tuple_end (I.ok.hd hc) st (show s.heap.IsTuple a its.toArray from p) (by simp; omega) fun h' eb => ⟨rfl, I.turned (t' := s.toks) (fun b o hb e => eb b o hb e) f0 f1 f3 f4 f5⟩
  self := fun _ _ _ _ _ st h => wpAny_pyIter_tupleiter st h
end L2

namespace L2
open PySem PySem.Spec PyProof.Rows
section
variable {X : Cx} {tg : Expr}
def iList (K : PySem.W.Frag) (tl : TE) : TI := fun σ H R => tl σ H fun x H1 => ∃ a, x = .ref a ∧ (∃ xs, SqL K H1 a xs) ∧ R (Itl K a) H1
def iTup (K : PySem.W.Frag) (tl : TE) : TI := fun σ H R => tl σ H fun x H1 => ∃ a, x = .ref a ∧ (∃ xs, SqT K H1 a xs) ∧ R (Itt K a) H1
theorem pi_list {l : Expr} {tl : TE} (hl : PE X l tl) : PI X tg l (iList X.K tl) := by
  intro pins s σ H R I h
  refine thn (hl pins s σ H _ I h) fun v s1 ⟨x, H1, I1, r1, q1⟩ => ?_
  obtain ⟨a, e, ⟨xs, hq⟩, q⟩ := q1
  subst e
  cases r1
  obtain ⟨its, rv, p, hz⟩ := I1.list hq
  refine wpAny_pyIter_list p.isList ?_
  refine ⟨s1.heap.objs.size, [s1.heap.objs.size], _, _, H1, rfl, I1.kept (t' := s1.toks) fun b o e => Heap.get?_push_of_some _ e, turn_list a _, ⟨_, Heap.get?_push_size _ rfl, rfl, rfl⟩, fun b hb => ?_, q⟩
  have e : b = s1.heap.objs.size := by simpa using hb
  subst e
  exact I1.fpOk (Nat.le_refl _) (I1.hok.fresh (Nat.le_refl _))
theorem pi_tup {l : Expr} {tl : TE} (hl : PE X l tl) : PI X tg l (iTup X.K tl) := by
  intro pins s σ H R I h
  refine thn (hl pins s σ H _ I h) fun v s1 ⟨x, H1, I1, r1, q1⟩ => ?_
  obtain ⟨a, e, ⟨xs, hq⟩, q⟩ := q1
  subst e
  cases r1
  obtain ⟨its, rv, p, hz⟩ := I1.tuple hq
  refine wpAny_pyIter_tuple (show s1.heap.IsTuple a its.toArray from p) ?_
  refine ⟨s1.heap.objs.size, [s1.heap.objs.size], _, _, H1, rfl, I1.kept (t' := s1.toks) fun b o e => Heap.get?_push_of_some _ e, turn_tuple a _, ⟨_, Heap.get?_push_size _ rfl, rfl, rfl⟩, fun b hb => ?_, q⟩
  have e : b = s1.heap.objs.size := by simpa using hb
  subst e
  exact I1.fpOk (Nat.le_refl _) (I1.hok.fresh (Nat.le_refl _))
/-- W: the invariant by the turn and a measure; N: what the body is to reach -/
def tFor (wi : TI) (g : TG) (tb : TS) : TS := fun D σ H => wi σ H fun J H1 => ∃ W : Nat → Nat → St → Hp → Prop, (∃ m, W 0 m σ H1) ∧ ∀ i m σ H, W i m σ H →
  (J.stop i H ∧ D.nx σ H) ∨ (J.go i H ∧ ∃ N : St → Hp → Prop, (∀ σ' H', N σ' H' → ∃ m', m' < m ∧ W (i + 1) m' σ' H') ∧ ∀ x H', J.yld i H x H' → g x σ H' fun σ2 H2 => tb { D with nx := N, ct := N, bk := D.nx } σ2 H2)
/-- the records at fp as they stand -/
def pinsAt (fp : List Addr) (h : Heap) : List (Addr × Obj) := fp.filterMap fun b => (h.get? b).map fun o => (b, o)
theorem mem_pinsAt {fp : List Addr} {h : Heap} {b : Addr} {o : Obj} (hb : b ∈ fp) (e : h.get? b = some o) : (b, o) ∈ pinsAt fp h := List.mem_filterMap.mpr ⟨b, hb, by rw [e]; rfl⟩
theorem of_pinsAt {fp : List Addr} {h : Heap} {p : Addr × Obj} (hp : p ∈ pinsAt fp h) : p.1 ∈ fp ∧ h.get? p.1 = some p.2 := by
  obtain ⟨b, hb, e⟩ := List.mem_filterMap.mp hp
  cases q : h.get? b with
  | none => rw [q] at e; cases e
  | some o =>
    rw [q] at e
    have e' : (b, o) = p := Option.some.inj e
    subst e'
    exact ⟨hb, q⟩
theorem Inv.pinned {pins : List (Addr × Obj)} {σ : St} {H : Hp} {s : Shared} {fp : List Addr} (I : Inv X pins σ H s) (hf : ∀ b ∈ fp, FpOk X pins H b) (ho : ∀ b ∈ fp, ∃ o, s.heap.get? b = some o ∧ ∀ v, o.data ≠ .cell v) : Inv X (pins ++ pinsAt fp s.heap) σ H s :=
  I.pins_of fun p hp => (List.mem_append.mp hp).elim (fun z => I.pin p (List.mem_append_right _ z)) fun z => by
    obtain ⟨hb, e⟩ := of_pinsAt z
    obtain ⟨f0, f1, f2, _⟩ := hf p.1 hb
    obtain ⟨o, e', d⟩ := ho p.1 hb
    rw [e] at e'; cases e'
    exact ⟨e, f0, f1, f2, d⟩
theorem Inv.unpinned {pins pl : List (Addr × Obj)} {σ : St} {H : Hp} {s : Shared} (I : Inv X (pins ++ pl) σ H s) : Inv X pins σ H s := I.pins_of fun p hp => I.pin p (List.mem_append_right _ (List.mem_append_left _ hp))
theorem ps_for {iter : Expr} {body : List Stmt} {wi : TI} {g : TG} {tb : TS} {pos : Pos} (hp : PassesOwn (model X.prog X.w) X.A X.env X.xe) (hc : X.calm = true) (hi : PI X tg iter wi) (hg : PG X tg g) (hb : PSs X body tb)
    (hs : ∀ x, foldedSetIterable iter X.env x = pure x := by intro _; rfl) : PS X (.For tg iter body [] pos) (tFor wi g tb) := by
  intro pins s σ H D I h
  refine wpAny_For (thn (hi pins s σ H _ I h) fun v s1 h1 => thn h1 fun itv s2 h2 => ?_) hs
  obtain ⟨it, fp, tn, J, H2, e, I2, T, st2, f2, W, ⟨m0, w0⟩, turn⟩ := h2
  subst e
  -- what stays true of the iterator's objects through the loop
  have stat : ∀ {H' : Hp}, (∀ b ∈ fp, H' b = none) → ∀ b ∈ fp, FpOk X pins H' b := fun hn b hb => ⟨hn b hb, (f2 b hb).2⟩
  refine codeAny_forLoop_any (fun n s' => ∃ i σ' H', Inv X pins σ' H' s' ∧ tn i s'.heap ∧ (∀ b ∈ fp, H' b = none) ∧ W i n σ' H') ?_ m0 ⟨0, σ, H2, I2, st2, fun b hb => (f2 b hb).1, w0⟩
  rintro n s3 ⟨i, σ3, H3, I3, st3, fr3, w3⟩
  rcases turn i n σ3 H3 w3 with ⟨stop, qn⟩ | ⟨go, N, hN, step⟩
  · refine wpAny_passesOwn hp (thn (T.done X rfl rfl rfl hc i pins s3 σ3 H3 X.xe I3 (stat fr3) st3 stop) fun r s4 ⟨hr, I4⟩ => ?_)
    subst hr
    exact wpAny_execs_nil ⟨σ3, H3, I4, qn⟩
  · refine wpAny_passesOwn hp (thn (T.item X rfl rfl rfl hc i pins s3 σ3 H3 X.xe I3 (stat fr3) st3 go) fun r s4 ⟨u, hr, h4⟩ => ?_)
    subst hr
    refine wpAny_passesOwn hp (thn h4 fun _ s5 ⟨x, H5, I5, r5, y5, st5, fr5⟩ => ?_)
    have I5' := I5.pinned (stat fr5) (T.obj _ _ st5)
    refine wpAny_passesOwn hp (thn (hg _ s5 σ3 H5 x u _ I5' r5 (step x H5 y5)) fun _ s6 ⟨σ6, H6, I6, q6⟩ => ?_)
    refine wpAny_passesOwn hp (thn (hb _ s6 σ6 H6 _ I6 q6) fun f s7 q7 => ?_)
    have again : ∀ {σ7 : St} {H7 : Hp}, Inv X (pins ++ pinsAt fp s5.heap) σ7 H7 s7 → N σ7 H7 → ∃ m, m < n ∧ ∃ i σ' H', Inv X pins σ' H' s7 ∧ tn i s7.heap ∧ (∀ b ∈ fp, H' b = none) ∧ W i m σ' H' := fun {σ7 H7} I7 n7 => by
      obtain ⟨m', hm, w7⟩ := hN σ7 H7 n7
      refine ⟨m', hm, i + 1, σ7, H7, I7.unpinned, T.keep _ _ _ st5 fun b hb o e => (I7.pin (b, o) (List.mem_append_right _ (List.mem_append_right _ (mem_pinsAt hb e)))).1, fun b hb => ?_, w7⟩
      obtain ⟨o, e, d⟩ := T.obj _ _ st5 b hb
      exact (I7.pin (b, o) (List.mem_append_right _ (List.mem_append_right _ (mem_pinsAt hb e)))).2.1
    cases f with
    | next => obtain ⟨σ7, H7, I7, n7⟩ := q7; exact again I7 n7
    | cont => obtain ⟨σ7, H7, I7, n7⟩ := q7; exact again I7 n7
    | brk => obtain ⟨σ7, H7, I7, q7⟩ := q7; exact ⟨σ7, H7, I7.unpinned, q7⟩
    | ret v => obtain ⟨x7, σ7, H7, I7, r7, q7⟩ := q7; exact ⟨x7, σ7, H7, I7.unpinned, r7, q7⟩
end

/-- over a list that the body leaves as it is -/
theorem for_list {K : PySem.W.Frag} {a : Addr} {xs : List V} {g : TG} {tb : TS} {D : Ends} {σ : St} {H : Hp} (Pv : Nat → St → Hp → Prop) (h0 : Pv 0 σ H) (hl : ∀ i σ H, i ≤ xs.length → Pv i σ H → SqL K H a xs)
    (hs : ∀ i x σ H, xs[i]? = some x → Pv i σ H → g x σ H fun σ2 H2 => tb { D with nx := Pv (i + 1), ct := Pv (i + 1), bk := D.nx } σ2 H2) (hd : ∀ σ H, Pv xs.length σ H → D.nx σ H) :
    ∃ W : Nat → Nat → St → Hp → Prop, (∃ m, W 0 m σ H) ∧ ∀ i m σ H, W i m σ H →
      ((Itl K a).stop i H ∧ D.nx σ H) ∨ ((Itl K a).go i H ∧ ∃ N : St → Hp → Prop, (∀ σ' H', N σ' H' → ∃ m', m' < m ∧ W (i + 1) m' σ' H') ∧ ∀ x H', (Itl K a).yld i H x H' → g x σ H' fun σ2 H2 => tb { D with nx := N, ct := N, bk := D.nx } σ2 H2) := by
  refine ⟨fun i m σ H => m = xs.length - i ∧ i ≤ xs.length ∧ Pv i σ H, ⟨xs.length, by simp, Nat.zero_le _, h0⟩, ?_⟩
  rintro i m σ H ⟨rfl, hi, p⟩
  have q := hl i σ H hi p
  by_cases hlt : i < xs.length
  · refine .inr ⟨⟨xs, xs[i], q, by simp [hlt]⟩, Pv (i + 1), fun σ' H' p' => ⟨xs.length - (i + 1), by omega, rfl, hlt, p'⟩, fun x H' y => ?_⟩
    obtain ⟨e, y⟩ := y
    subst e
    exact hs i x σ _ (y xs q) p
  · have e : i = xs.length := by omega
    subst e
    exact .inl ⟨⟨xs, q, Nat.le_refl _⟩, hd σ H p⟩
theorem for_tup {K : PySem.W.Frag} {a : Addr} {xs : List V} {g : TG} {tb : TS} {D : Ends} {σ : St} {H : Hp} (Pv : Nat → St → Hp → Prop) (h0 : Pv 0 σ H) (hl : ∀ i σ H, i ≤ xs.length → Pv i σ H → SqT K H a xs)
    (hs : ∀ i x σ H, xs[i]? = some x → Pv i σ H → g x σ H fun σ2 H2 => tb { D with nx := Pv (i + 1), ct := Pv (i + 1), bk := D.nx } σ2 H2) (hd : ∀ σ H, Pv xs.length σ H → D.nx σ H) :
    ∃ W : Nat → Nat → St → Hp → Prop, (∃ m, W 0 m σ H) ∧ ∀ i m σ H, W i m σ H →
      ((Itt K a).stop i H ∧ D.nx σ H) ∨ ((Itt K a).go i H ∧ ∃ N : St → Hp → Prop, (∀ σ' H', N σ' H' → ∃ m', m' < m ∧ W (i + 1) m' σ' H') ∧ ∀ x H', (Itt K a).yld i H x H' → g x σ H' fun σ2 H2 => tb { D with nx := N, ct := N, bk := D.nx } σ2 H2) := by
  refine ⟨fun i m σ H => m = xs.length - i ∧ i ≤ xs.length ∧ Pv i σ H, ⟨xs.length, by simp, Nat.zero_le _, h0⟩, ?_⟩
  rintro i m σ H ⟨rfl, hi, p⟩
  have q := hl i σ H hi p
  by_cases hlt : i < xs.length
  · refine .inr ⟨⟨xs, xs[i], q, by simp [hlt]⟩, Pv (i + 1), fun σ' H' p' => ⟨xs.length - (i + 1), by omega, rfl, hlt, p'⟩, fun x H' y => ?_⟩
    obtain ⟨e, y⟩ := y
    subst e
    exact hs i x σ _ (y xs q) p
  · have e : i = xs.length := by omega
    subst e
    exact .inl ⟨⟨xs, q, Nat.le_refl _⟩, hd σ H p⟩
end L2

namespace L2
open PySem PySem.Spec PyProof.Rows

abbrev R2 := V → V → Hp → VK → Prop
/-- a two-place operation on values: f is binaryOp op, inplaceOp op or compareOp op -/
def OpR (X : Cx) (f : Value → Value → Sem Value) (r : R2) : Prop :=
  ∀ (pins : List (Addr × Obj)) (s : Shared) (σ : St) (H : Hp) (x y : V) (v u : Value) (Q : VK), Inv X pins σ H s → RelV x v → RelV y u → r x y H Q →
    wpAny (model X.prog X.w) X.A (f v u) (EP X pins σ Q) X.xe s
/-- a call of a value that is known (a builtin, a type) with values -/
def CallR (X : Cx) (f : Value) (r : List V → Hp → VK → Prop) : Prop :=
  ∀ (pins : List (Addr × Obj)) (s : Shared) (σ : St) (H : Hp) (xs : List V) (us : List Value) (Q : VK), Inv X pins σ H s → Vals xs us → r xs H Q →
    wpAny (model X.prog X.w) X.A (call f us) (EP X pins σ Q) X.xe s
/-- ints in, under C, and a value out -/
def rI (C : Int → Int → Prop) (g : Int → Int → V) : R2 := fun x y H Q => ∃ i j, x = .int i ∧ y = .int j ∧ C i j ∧ Q (g i j) H
def rI0 (g : Int → Int → V) : R2 := fun x y H Q => ∃ i j, x = .int i ∧ y = .int j ∧ Q (g i j) H
section
variable {X : Cx} {a b c : Expr} {ta tb tc : TE} {pos : Pos}

theorem opI {f : Value → Value → Sem Value} {C : Int → Int → Prop} {g : Int → Int → Int}
    (rule : ∀ (i j : Int) (t u : Tok) (s : Shared) (Q : Value → Shared → Prop) (E : Value → Shared → Prop), C i j → Q (.int (g i j) s.toks) { s with toks := s.toks + 1 } → wpAny (model X.prog X.w) X.A (f (.int i t) (.int j u)) Q E s) :
    OpR X f (rI C fun i j => .int (g i j)) := by
  intro pins s σ H x y v u Q I rx ry h
  obtain ⟨i, j, rfl, rfl, hc, q⟩ := h
  obtain ⟨t, rfl⟩ := rx
  obtain ⟨t', rfl⟩ := ry
  exact rule i j t t' s _ _ hc ⟨.int (g i j), H, I.tok _, ⟨_, rfl⟩, q⟩
theorem opI0 {f : Value → Value → Sem Value} {g : Int → Int → Int}
    (rule : ∀ (i j : Int) (t u : Tok) (s : Shared) (Q : Value → Shared → Prop) (E : Value → Shared → Prop), Q (.int (g i j) s.toks) { s with toks := s.toks + 1 } → wpAny (model X.prog X.w) X.A (f (.int i t) (.int j u)) Q E s) :
    OpR X f (rI0 fun i j => .int (g i j)) := by
  intro pins s σ H x y v u Q I rx ry h
  obtain ⟨i, j, rfl, rfl, q⟩ := h
  obtain ⟨t, rfl⟩ := rx
  obtain ⟨t', rfl⟩ := ry
  exact rule i j t t' s _ _ ⟨.int (g i j), H, I.tok _, ⟨_, rfl⟩, q⟩
theorem opB0 {f : Value → Value → Sem Value} {g : Int → Int → Bool}
    (rule : ∀ (i j : Int) (t u : Tok) (s : Shared) (Q : Value → Shared → Prop) (E : Value → Shared → Prop), Q (.bool (g i j)) s → wpAny (model X.prog X.w) X.A (f (.int i t) (.int j u)) Q E s) :
    OpR X f (rI0 fun i j => .bl (g i j)) := by
  intro pins s σ H x y v u Q I rx ry h
  obtain ⟨i, j, rfl, rfl, q⟩ := h
  obtain ⟨t, rfl⟩ := rx
  obtain ⟨t', rfl⟩ := ry
  exact rule i j t t' s _ _ ⟨.bl (g i j), H, I, rfl, q⟩

def CDiv (i j : Int) : Prop := 0 < j ∧ j < 1073741824
def CMul (i j : Int) : Prop := (-(2 ^ 64) < i ∧ i < 2 ^ 64) ∨ (-(2 ^ 64) < j ∧ j < 2 ^ 64)
theorem CMul.ok {i j : Int} (h : CMul i j) : IntMulOk i j := by
  rcases h with ⟨h1, h2⟩ | ⟨h1, h2⟩
  · exact .of_left (intBits_le_64 h1 h2)
  · exact .of_right (intBits_le_64 h1 h2)
theorem op_add : OpR X (binaryOp .Add) (rI0 fun i j => .int (i + j)) := opI0 fun _ _ _ _ _ _ _ q => add_int q
theorem op_sub : OpR X (binaryOp .Sub) (rI0 fun i j => .int (i - j)) := opI0 fun _ _ _ _ _ _ _ q => sub_int q
/-- // by a positive divisor -/
theorem op_fdiv : OpR X (binaryOp .FloorDiv) (rI CDiv fun i j => .int (i / j)) := opI fun i j _ _ _ _ _ hc q => by
  have h1 : (0 : Int) < j := hc.1
  have h2 : j < 1073741824 := hc.2
  exact floordiv_int (by omega) (by rw [Int.fdiv_eq_ediv_of_nonneg i (by omega)]; exact q) (.inl (PyProof.noPylong_small (by omega)))
/-- % by a positive divisor of any size -/
theorem op_mod : OpR X (binaryOp .Mod) (rI (fun _ j => 0 < j) fun i j => .int (i % j)) := opI fun i j _ _ _ _ _ hc q => by
  have h1 : (0 : Int) < j := hc
  exact mod_int' (by omega) (by rw [Int.fmod_eq_emod_of_nonneg i (by omega)]; exact q)
end

section
variable {X : Cx} {a b c : Expr} {ta tb tc : TE} {pos : Pos}
theorem op_lt : OpR X (compareOp .Lt) (rI0 fun i j => .bl (decide (i < j))) := opB0 fun _ _ _ _ _ _ _ q => lt_int q
theorem op_le : OpR X (compareOp .LtE) (rI0 fun i j => .bl (decide (i ≤ j))) := opB0 fun _ _ _ _ _ _ _ q => le_int q
theorem op_gt : OpR X (compareOp .Gt) (rI0 fun i j => .bl (decide (j < i))) := opB0 fun _ _ _ _ _ _ _ q => gt_int q
theorem op_ge : OpR X (compareOp .GtE) (rI0 fun i j => .bl (decide (j ≤ i))) := opB0 fun _ _ _ _ _ _ _ q => ge_int q
/-- two rules for one operation: by cases -/
theorem OpR.or {f : Value → Value → Sem Value} {r r' : R2} (h : OpR X f r) (h' : OpR X f r') : OpR X f (fun x y H Q => r x y H Q ∨ r' x y H Q) := by
  intro pins s σ H x y v u Q I rx ry q
  rcases q with q | q
  · exact h pins s σ H x y v u Q I rx ry q
  · exact h' pins s σ H x y v u Q I rx ry q

theorem nomark (b : Expr) {op : CmpOp} (h : op ≠ .In := by decide) (h2 : op ≠ .NotIn := by decide) : behindInMarks op b = false := by
  have e1 : (op == CmpOp.In) = false := by cases op <;> first | rfl | exact absurd rfl h
  have e2 : (op == CmpOp.NotIn) = false := by cases op <;> first | rfl | exact absurd rfl h2
  cases b <;> simp [behindInMarks, e1, e2]
theorem line63 : (sizeLine : Nat) < 2 ^ 63 := by rw [sizeLine_eq]; decide
theorem op_add_str : OpR X (binaryOp .Add) (fun x y H Q => ∃ i j, x = .str i ∧ y = .str j ∧ i.length + j.length ≤ sizeLine ∧ Q (.str (i ++ j)) H) := by
  intro pins s σ H x y v u Q I rx ry h
  obtain ⟨i, j, rfl, rfl, hz, q⟩ := h
  obtain ⟨t, rfl⟩ := rx
  obtain ⟨t', rfl⟩ := ry
  exact add_str (fun t' tk => ⟨.str (i ++ j), H, I.tok _, ⟨_, rfl⟩, q⟩) hz
theorem vals1 {x : V} {us : List Value} (r : Vals [x] us) : ∃ u, us = [u] ∧ RelV x u := by
  cases r with
  | cons r1 r2 => cases r2; exact ⟨_, rfl, r1⟩
theorem vals2 {x y : V} {us : List Value} (r : Vals [x, y] us) : ∃ u w', us = [u, w'] ∧ RelV x u ∧ RelV y w' := by
  cases r with
  | cons r1 r2 =>
    cases r2 with
    | cons r3 r4 => cases r4; exact ⟨_, _, rfl, r1, r3⟩
theorem call_max2 (hc : X.calm = true) : CallR X (.builtin "max") (fun xs H Q => ∃ i j, xs = [.int i, .int j] ∧ Q (.int (if j > i then j else i)) H) := by
  intro pins s σ H xs us Q I r h
  obtain ⟨i, j, rfl, q⟩ := h
  obtain ⟨u, w', rfl, ⟨t, rfl⟩, ⟨t', rfl⟩⟩ := vals2 r
  refine max_two_ints (I.ok.hd hc) fun h' tk k => ⟨_, H, I.kept k, ?_, q⟩
  by_cases hj : j > i
  · rw [if_pos hj, if_pos hj]; exact ⟨_, rfl⟩
  · rw [if_neg hj, if_neg hj]; exact ⟨_, rfl⟩
theorem call_int1 : CallR X (.type "int") (fun xs H Q => (∃ i, xs = [.int i] ∧ Q (.int i) H) ∨ ∃ k, xs = [.bl k] ∧ Q (.int (if k then 1 else 0)) H) := by
  intro pins s σ H xs us Q I r h
  rcases h with ⟨i, rfl, q⟩ | ⟨k, rfl, q⟩
  · obtain ⟨u, rfl, t, rfl⟩ := vals1 r
    exact call_int_int ⟨.int i, H, I, ⟨_, rfl⟩, q⟩
  · obtain ⟨u, rfl, r1⟩ := vals1 r
    cases r1
    exact call_int_bool ⟨.int (if k then 1 else 0), H, I.tok _, ⟨_, rfl⟩, q⟩
end
end L2

namespace L2
open PySem PySem.Spec PyProof.Rows

structure ObjM (h : Heap) (x dx C : Addr) (mA : Str → Option Value) : Prop where
  obj : h.get? x = some (PySem.W.instObj C dx)
  ns : h.Ns1 dx mA
  ne : dx ≠ x

theorem lookIn_ns {h : Heap} {dx : Addr} {mA : Str → Option Value} (n : h.Ns1 dx mA) : ∃ od, h.get? dx = some od ∧ ∀ name, PySem.W.lookIn name od = some (mA name) := by
  obtain ⟨o, es, ep, ho, hd, hk, _, hm⟩ := n
  refine ⟨o, ho, fun name => ?_⟩
  have e := hm name
  unfold nsFind findBy at e
  rw [← Array.find?_toList] at e
  unfold PySem.W.lookIn
  rw [hd]
  dsimp only
  split
  · rename_i y q
    rw [q] at e
    exact congrArg some e
  · rename_i q
    rw [q] at e
    have a : es.toList.any (·.refKey) = false := by
      rw [List.any_eq_false]
      intro y hy
      obtain ⟨z, t, hkey⟩ := hk y (Array.mem_toList_iff.mp hy)
      simp [DictEntry.refKey, hkey]
    have a' : ¬ es.toList.any (·.refKey) = true := by rw [a]; exact Bool.false_ne_true
    rw [if_neg a']
    exact congrArg some e

theorem ObjM.look {h : Heap} {x dx C : Addr} {mA : Str → Option Value} (I : ObjM h x dx C mA) : ∃ od, PySem.W.InstAt h x (PySem.W.instObj C dx) C (some od) ∧ ∀ name, PySem.W.lookIn name od = some (mA name) :=
  let ⟨od, ho, hl⟩ := lookIn_ns I.ns
  ⟨od, ⟨I.obj, rfl, rfl, ho⟩, hl⟩

section
variable {prog : Program} {w : World} {A : Around} {E : Value → Shared → Prop} {s : Shared} {K : PySem.W.Frag} {x dx C f : Addr} {mA : Str → Option Value} {name : Str} {v : Value}

end

section
variable {P : Program} {w : World} {H H' : Hp} {h h' : Heap} {a C dx : Addr} {fs fs' : List (Str × V)}
theorem ins_get (hok : HOk P w H h) (e : H a = some (.ins C dx fs)) : ∃ mA, ObjM h a dx C mA ∧ (∀ f, RelO (fs.lookup f) (mA f)) ∧ PySem.Within mA (fs.map (·.1)) ∧ fs.length ≤ 1000 ∧ H dx = some (.own a) := by
  obtain ⟨d, z, ne, ob, mA, n, r, q⟩ := (show ObjOk P w H h a (.ins C dx fs) from hok a _ e)
  exact ⟨mA, ⟨ob, n, ne⟩, r, q, z, d⟩
end

structure Cls (K : PySem.W.Frag) (C : Addr) : Prop where
  pg : PySem.W.plainGet K C Str.empty = true
  hd : PySem.W.hasDictIn K C = true
  po : PySem.W.plainOver K C = true
  sa : PySem.W.findIn K (.ref C) "__setattr__" = some (some (.builtin "object.__setattr__"))
theorem Cls.get {K : PySem.W.Frag} {C : Addr} (c : Cls K C) (f : Str) : PySem.W.plainGet K C f = true := c.pg
section
variable {X : Cx} {pins : List (Addr × Obj)} {σ : St} {H : Hp} {s : Shared} {a C dx : Addr} {fs : List (Str × V)} {f : Str} {v : V} {A : Around} {E : Value → Shared → Prop}

/-- a new instance, tracked, without attributes -/
theorem Inv.made (I : Inv X pins σ H s) : Inv X pins σ (upd (upd H s.heap.objs.size (.own (s.heap.objs.size + 1))) (s.heap.objs.size + 1) (.ins C s.heap.objs.size []))
    { s with heap := (s.heap.push PySem.W.emptyDict).push (PySem.W.instObj C s.heap.objs.size) } := by
  have e1 : (s.heap.push PySem.W.emptyDict).get? s.heap.objs.size = some PySem.W.emptyDict := Heap.get?_push_size s.heap rfl
  have e2 : ((s.heap.push PySem.W.emptyDict).push (PySem.W.instObj C s.heap.objs.size)).get? (s.heap.objs.size + 1) = some (PySem.W.instObj C s.heap.objs.size) := by
    have := Heap.get?_push_size (s.heap.push PySem.W.emptyDict) (o := PySem.W.instObj C s.heap.objs.size) rfl
    rwa [Heap.size_push] at this
  have e3 : (s.heap.push PySem.W.emptyDict).Ns s.heap.objs.size (fun _ => none) := ⟨PySem.W.emptyDict, #[], _, e1, rfl, (fun e he => absurd he (by simp)), fun _ => rfl⟩
  have I1 := I.laid (a := s.heap.objs.size) (o := .own (s.heap.objs.size + 1)) (h' := s.heap.push PySem.W.emptyDict) (t' := s.toks) (fun b u q => Heap.get?_push_of_some _ q) (Nat.le_refl _) ⟨_, e1⟩
  refine I1.laid (a := s.heap.objs.size + 1) (o := .ins C s.heap.objs.size []) (t' := s.toks) (fun b u q => Heap.get?_push_of_some _ q) (Nat.le_of_eq (Heap.size_push _ _)) ?_
  have ne : s.heap.objs.size ≠ s.heap.objs.size + 1 := Nat.ne_of_lt (Nat.lt_succ_self _)
  refine ⟨by rw [upd_ne ne, upd_same], Nat.zero_le _, ne, e2, fun _ => none, (Heap.Ns1.of_empty e3).at fun o q => Heap.get?_push_of_some _ q, fun _ => True.intro, fun y hy => absurd rfl hy⟩

end

section
variable {X : Cx} {o e value : Expr} {f : Str} {pos pos' tpos : Pos} {ta tv : TE}
end

section
variable {X : Cx} {pins : List (Addr × Obj)} {σ : St} {H : Hp} {s : Shared} {A : Around} {E : Value → Shared → Prop} {Q : Value → Shared → Prop} {c : Value} {b : Bool}
/-- the type of a value, as the fragment's deciders take it; for an instance its class -/
inductive TyOf (K : PySem.W.Frag) (H : Hp) : V → Value → Prop where
  | non : TyOf K H .non (.type "NoneType")
  | bl (x : Bool) : TyOf K H (.bl x) (.type "bool")
  | int (i : Int) : TyOf K H (.int i) (.type "int")
  | str (x : Str) : TyOf K H (.str x) (.type "str")
  | flt (x : UInt64) : TyOf K H (.flt x) (.type "float")
  | lst {a : Addr} {xs : List V} (e : H a = some (.lst xs)) : TyOf K H (.ref a) (.type "list")
  | frz {a : Addr} {o : Obj} {xs : List V} (e : H a = some (.frz o (.lst xs))) : TyOf K H (.ref a) (.type "list")
  | tup {a : Addr} {xs : List V} (e : H a = some (.tup xs)) : TyOf K H (.ref a) (.type "tuple")
  | dK {a : Addr} {kvs : List (Key × V)} (e : H a = some (.dK kvs)) : TyOf K H (.ref a) (.type "dict")
  | dT {a : Addr} {kvs : List (List Key × V)} (e : H a = some (.dT kvs)) : TyOf K H (.ref a) (.type "dict")
  | ins {a C dx : Addr} {fs : List (Str × V)} (e : H a = some (.ins C dx fs)) (cl : Cls K C) (ha : PySem.W.findIn K (.ref C) "__class__" = some (some (.builtin "object.__class__")))
      (hn : PySem.W.specialIn K (.builtin "object.__class__") "__get__" = some (some (.builtin "getset_descriptor.__get__"))) (htk : PySem.W.takesIn K (.builtin "object.__class__") = some true)
      (hm : PySem.W.mroIn K C (.type "object") = some true) : TyOf K H (.ref a) (.ref C)
/-- isinstance(x, c) for one class c, a built-in or an own one: kitOne's answer -/
theorem isinst_ok {x : V} {u t : Value} (I : Inv X pins σ H s) (rx : RelV x u) (ty : TyOf X.K H x t) (e : PySem.W.kitOne X.K t c = some b) (h : ∀ tk, Q (.bool b) { s with toks := tk }) :
    wpAny (model X.prog X.w) A (call (.builtin "isinstance") [u, c]) Q E s := by
  cases ty with
  | non => cases (show u = Value.none from rx); exact PySem.W.kia_one PySem.W.kitx_none I.kIn True.intro e (fun z => nomatch z) h
  | bl y => cases (show u = Value.bool y from rx); exact PySem.W.kia_one PySem.W.kitx_bool I.kIn True.intro e (fun z => nomatch z) h
  | int i => obtain ⟨t, q⟩ := (show ∃ t, u = Value.int i t from rx); cases q; exact PySem.W.kia_one PySem.W.kitx_int I.kIn True.intro e (fun z => nomatch z) h
  | str y => obtain ⟨t, q⟩ := (show ∃ t, u = Value.str y t from rx); cases q; exact PySem.W.kia_one PySem.W.kitx_str I.kIn True.intro e (fun z => nomatch z) h
  | flt y => obtain ⟨t, q⟩ := (show ∃ t, u = Value.float y t from rx); cases q; exact PySem.W.kia_one PySem.W.kitx_float I.kIn True.intro e (fun z => nomatch z) h
  | @lst a xs ea =>
    cases (show u = Value.ref a from rx)
    obtain ⟨_, _, n, _, h1⟩ := (show ObjOk X.prog X.w H s.heap a (.lst xs) from I.hok a _ ea)
    exact PySem.W.kia_one PySem.W.kitx_list I.kIn ⟨_, h1, rfl⟩ e (fun z => nomatch z) h
  | @frz a ob xs ea =>
    cases (show u = Value.ref a from rx)
    obtain ⟨_, _, _, n, _, h1⟩ := (show ObjOk X.prog X.w H s.heap a (.frz ob (.lst xs)) from I.hok a _ ea)
    exact PySem.W.kia_one PySem.W.kitx_list I.kIn ⟨_, h1, rfl⟩ e (fun z => nomatch z) h
  | @tup a xs ea =>
    cases (show u = Value.ref a from rx)
    obtain ⟨_, _, _, p⟩ := (show ObjOk X.prog X.w H s.heap a (.tup xs) from I.hok a _ ea)
    obtain ⟨o, h1, h2, _⟩ := p
    exact PySem.W.kia_one PySem.W.kitx_tuple I.kIn ⟨o, h1, h2⟩ e (fun z => nomatch z) h
  | @dK a kvs ea =>
    cases (show u = Value.ref a from rx)
    obtain ⟨_, _, vs, _, p⟩ := (show ObjOk X.prog X.w H s.heap a (.dK kvs) from I.hok a _ ea)
    obtain ⟨o, es, ep, h1, h2, _⟩ := p
    exact PySem.W.kia_one PySem.W.kitx_dict I.kIn ⟨o, h1, h2.1⟩ e (fun z => nomatch z) h
  | @dT a kvs ea =>
    cases (show u = Value.ref a from rx)
    obtain ⟨_, _, xs, _, o, es, ep, h1, h2, _⟩ := (show ObjOk X.prog X.w H s.heap a (.dT kvs) from I.hok a _ ea)
    exact PySem.W.kia_one PySem.W.kitx_dict I.kIn ⟨o, h1, h2.1⟩ e (fun z => nomatch z) h
  | @ins a C dx fs ea cl ha hn htk hm =>
    cases (show u = Value.ref a from rx)
    obtain ⟨mA, O, _⟩ := ins_get I.hok ea
    obtain ⟨od, J, _⟩ := O.look
    exact PySem.W.kia_one (PySem.W.kitx_own (cl.get _) cl.hd ha hn htk hm) I.kIn J e (fun z => nomatch z) h
end
end L2

namespace L2
open PySem PySem.Spec PyProof.Rows

structure Room (k : Nat) (A : Around) : Prop where
  hd : A.handled = none
  dp : A.depth + 3 * k + 5 < recursionLimit
  un : A.units + 16 * k + 200 < cLine
theorem Room.mono {j k : Nat} {A : Around} (r : Room k A) (h : j ≤ k) : Room j A := ⟨r.hd, by have := r.dp; omega, by have := r.un; omega⟩
theorem Room.deeper {k : Nat} {A : Around} (r : Room (k + 1) A) (env : Env) : Room k (A.deeper env) :=
  ⟨r.hd, by have := r.dp; show A.depth + 1 + 3 * k + 5 < _; omega, by have := r.un; show A.units + 3 + 16 * k + 200 < _; omega⟩
theorem Room.in1 {k : Nat} {A : Around} (r : Room (k + 1) A) : Room k A.in1 :=
  ⟨r.hd, by have := r.dp; show A.depth + 3 * k + 5 < _; omega, by have := r.un; show A.units + 1 + 16 * k + 200 < _; omega⟩
theorem Room.depth {k : Nat} {A : Around} (r : Room k A) : A.depth < recursionLimit := by have := r.dp; omega
theorem Room.units {k : Nat} {A : Around} (r : Room k A) : A.units + 64 < cLine := by have := r.un; omega
def tNil : TA := fun _ H Q => Q [] H
def tCons (ta : TE) (tr : TA) : TA := fun σ H Q => ta σ H fun x H1 => tr σ H1 fun xs H2 => Q (x :: xs) H2
section
variable {X : Cx} {e : Expr} {es : List Expr} {te : TE} {t : TA} {pos : Pos}
theorem pa_nil : PA X [] tNil := fun _ _ _ _ H Q I h => Calls.spliced_nil ⟨[], H, I, .nil, h⟩
theorem pa_cons (ha : PE X e te) (hr : PA X es t) (hs : starEach (e :: es) X.env = (false, eval e X.env) :: starEach es X.env := by rfl) : PA X (e :: es) (tCons te t) := by
  intro pos pins s σ H Q I h
  rw [hs]
  show wpAny _ _ (spliced ((false, eval e X.env) :: backTo pos (starEach es X.env))) _ _ s
  refine Calls.spliced_cons (thn (ha pins s σ H _ I h) fun u s1 ⟨x, H1, I1, r1, q1⟩ => ?_)
  exact thn (hr pos pins s1 σ H1 _ I1 q1) fun us s2 ⟨xs, H2, I2, r2, q2⟩ => ⟨x :: xs, H2, I2, .cons r1 r2, q2⟩

/-- a tuple, a list of written items -/
def tTup (t : TA) : TE := fun σ H Q => t σ H fun xs H1 => xs.length ≤ sizeLine ∧ ∀ p, H1 p = none → Q (.ref p) (upd H1 p (.tup xs))
def tLst (t : TA) : TE := fun σ H Q => t σ H fun xs H1 => xs.length ≤ sizeLine ∧ ∀ p, H1 p = none → Q (.ref p) (upd H1 p (.lst xs))
theorem pe_tup {x1} (h : PA X es t) : PE X (.Tuple es x1 pos) (tTup t) := by
  intro pins s σ H Q I hq
  refine wpAny_Tuple_spliced (thn (h pos pins s σ H _ I hq) fun us s1 ⟨xs, H1, I1, r, z, q⟩ => ⟨by rw [← r.length]; exact z, ?_⟩)
  have hf : H1 s1.heap.objs.size = none := I1.hok.fresh (Nat.le_refl _)
  refine ⟨.ref s1.heap.objs.size, upd H1 s1.heap.objs.size (.tup xs), I1.laid (t' := s1.toks) (fun b u e => Heap.get?_push_of_some _ e) (Nat.le_refl _) ?_, rfl, q _ hf⟩
  exact ⟨z, us, r, ⟨_, Heap.get?_push_size _ rfl, rfl, _, rfl⟩⟩
theorem pe_lst (h : PA X es t) : PE X (.List es pos) (tLst t) := by
  intro pins s σ H Q I hq
  refine wpAny_List_spliced (thn (h pos pins s σ H _ I hq) fun us s1 ⟨xs, H1, I1, r, z, q⟩ => ⟨by rw [← r.length]; exact z, ?_⟩)
  have hf : H1 s1.heap.objs.size = none := I1.hok.fresh (Nat.le_refl _)
  refine ⟨.ref s1.heap.objs.size, upd H1 s1.heap.objs.size (.lst xs), I1.laid (t' := s1.toks) (fun b u e => Heap.get?_push_of_some _ e) (Nat.le_refl _) ?_, rfl, q _ hf⟩
  exact ⟨z, us, 0, r, Heap.get?_push_size _ rfl⟩
end

/-- a def's promise: the bound arguments in the parameters' order, the heap, the wanted end, the wanted exception -/
abbrev Sp := List V → Hp → VK → XK → Prop
/-- how an exception lies behind a call (file 08 gives it): the callers' frames, abstract heap and state ahead of the call, the wish, the exception, the state -/
abbrev CXT := List Env → Hp → Shared → XK → Value → Shared → Prop

/-- the state at a call -/
structure Env0 (P : Program) (w : World) (K : PySem.W.Frag) (mg : Str → Option Value) (base : Heap) (A : Around) (outer : List Env) (s : Shared) (H : Hp) : Prop where
  frames : A.frames = some outer
  mod : Mod K mg base
  bs : ∀ b o, base.get? b = some o → s.heap.get? b = some o ∧ H b = none
  bsz : base.objs.size ≤ s.heap.objs.size
  funs : s.heap.FunFrames base outer
  frf : ∀ b ∈ frs outer, H b = none
  hok : HOk P w H s.heap
  bare : AllBare s.gens
/-- a call's end -/
def CE (outer : List Env) (P : Program) (w : World) (H : Hp) (s : Shared) (Q : VK) (u : Value) (s' : Shared) : Prop :=
  ∃ v H', s'.os = s.os ∧ AllBare s'.gens ∧ Un (frs outer) [] H H' s.heap s'.heap ∧ HOk P w H' s'.heap ∧ RelV v u ∧ Q v H'
def CR (CX : CXT) (outer : List Env) (P : Program) (w : World) (H : Hp) (s : Shared) (Q : VK) (E : XK) (r : Result) (s' : Shared) : Prop :=
  match r with
  | .ok (.ret u) => CE outer P w H s Q u s'
  | .ok _ => False
  | .error e => CX outer H s E e s'
structure FnOk (P : Program) (w : World) (K : PySem.W.Frag) (mg : Str → Option Value) (base : Heap) (CX : CXT) (k : Nat) (f : Addr) (fd : FuncData) (ps : List Str) (sp : Sp) : Prop where
  len : ∀ vs H Q E, sp vs H Q E → vs.length = ps.length
  run : ∀ (A : Around) (outer : List Env) (s : Shared) (H : Hp) (args : Args) (us : List Value) (vs : List V) (Q : VK) (E : XK), Room k A → Env0 P w K mg base A outer s H → BindsTo s fd args (ps.zip us) → Vals vs us → sp vs H Q E →
    codeAny (model P w) A (.call (.ref f) args) (CR CX outer P w H s Q E) s
theorem FnOk.mono {P : Program} {w : World} {K : PySem.W.Frag} {mg : Str → Option Value} {base : Heap} {CX : CXT} {j k : Nat} {f : Addr} {fd : FuncData} {ps : List Str} {sp : Sp} (F : FnOk P w K mg base CX j f fd ps sp) (h : j ≤ k) :
    FnOk P w K mg base CX k f fd ps sp := ⟨F.len, fun A outer s H args us vs Q E hr => F.run A outer s H args us vs Q E (hr.mono h)⟩
/-- a weaker promise -/
theorem FnOk.imp {P : Program} {w : World} {K : PySem.W.Frag} {mg : Str → Option Value} {base : Heap} {CX : CXT} {k : Nat} {f : Addr} {fd : FuncData} {ps : List Str} {sp sp' : Sp} (F : FnOk P w K mg base CX k f fd ps sp)
    (h : ∀ vs H Q E, sp' vs H Q E → sp vs H Q E) : FnOk P w K mg base CX k f fd ps sp' :=
  ⟨fun vs H Q E q => F.len vs H Q E (h _ _ _ _ q), fun A outer s H args us vs Q E hr he hb hv hs => F.run A outer s H args us vs Q E hr he hb hv (h _ _ _ _ hs)⟩

theorem Env0.in1 {P : Program} {w : World} {K : PySem.W.Frag} {mg : Str → Option Value} {base : Heap} {A : Around} {outer : List Env} {s : Shared} {H : Hp} (e : Env0 P w K mg base A outer s H) :
    Env0 P w K mg base A.in1 outer s H := ⟨e.frames, e.mod, e.bs, e.bsz, e.funs, e.frf, e.hok, e.bare⟩

section
variable {X : Cx} {pins : List (Addr × Obj)} {σ : St} {H : Hp} {s s' : Shared}
/-- from a body: what a callee wants -/
theorem Inv.env0 (I : Inv X pins σ H s) : Env0 X.prog X.w X.K X.mg X.base X.A X.stack s H :=
  ⟨I.ok.frames, I.ok.mod, I.bs, Nat.le_trans I.ok.bsz I.sz, I.stack, I.stkFree, I.hok, I.bare⟩
/-- behind a call -/
theorem Inv.after {Q : VK} {u : Value} (I : Inv X pins σ H s) (h : CE X.stack X.prog X.w H s Q u s') : EP X pins σ Q u s' := by
  obtain ⟨v, H', os, bare, un, hok, r, q⟩ := h
  obtain ⟨hh, g, d, t, os'⟩ := s'
  obtain rfl : os' = s.os := os
  exact ⟨v, H', I.call (h' := hh) (g' := g) (d' := d) (t' := t) (ch := []) un hok bare (fun b z => absurd z (by simp)), r, q⟩
end

/-- f(..): the written arguments, then the defaults dvs; E: what is wanted of an exception -/
def tCall (sp : Sp) (dvs : List V) (E : XK) (t : TA) : TE := fun σ H Q => t σ H fun vs H1 => sp (vs ++ dvs) H1 Q E
/-- how the parameters are bound: us the positional arguments, kw the keywords' values by name, ds the defaults that fill up -/
def Binds (K : PySem.W.Frag) (fd : FuncData) (ps : List Str) (ds : List Value) : Prop :=
  ∀ (s : Shared) (us : List Value), K.In s.heap → (us ++ ds).length = ps.length → BindsTo s fd ⟨us, []⟩ (ps.zip (us ++ ds))
/-- every parameter is given -/
theorem Binds.all {K : PySem.W.Frag} {fd : FuncData} {ps : List Str} (h : ∀ us : List Value, us.length = ps.length → bindArgs fd ⟨us, []⟩ = pure (ps.zip us)) : Binds K fd ps [] := fun s us _ hl => by
  rw [List.append_nil] at hl ⊢
  exact .of_eq (h us hl)

/-- an exception of a callee reaches what this body wants of exceptions -/
def Passes (CX : CXT) (X : Cx) (E : XK) : Prop := ∀ (pins : List (Addr × Obj)) (σ : St) (H : Hp) (s : Shared) (e : Value) (s' : Shared), Inv X pins σ H s → CX X.stack H s E e s' → X.xe e s'

section
variable {X : Cx} {CX : CXT} {k : Nat} {f C : Addr} {fd : FuncData} {ps : List Str} {sp : Sp} {dvs : List V} {ds : List Value} {E : XK} {x m : Str} {p pos apos : Pos} {e o : Expr} {es : List Expr} {ta : TE} {t : TA}

/-- the callee runs -/
theorem run_fn {pins : List (Addr × Obj)} {σ : St} {H : Hp} {s : Shared} {Q : VK} {us : List Value} {vs : List V} (F : FnOk X.prog X.w X.K X.mg X.base CX k f fd ps sp) (hr : Room k X.A) (hb : Binds X.K fd ps ds) (hd : Vals dvs ds) (hx : Passes CX X E)
    (I : Inv X pins σ H s) (r : Vals vs us) (h : sp (vs ++ dvs) H Q E) : wpAny (model X.prog X.w) X.A (call (.ref f) us) (EP X pins σ Q) X.xe s := by
  have r2 : Vals (vs ++ dvs) (us ++ ds) := r.append hd
  have hl : (us ++ ds).length = ps.length := by rw [← r2.length]; exact F.len _ _ _ _ h
  refine wpAny_call (codeAny_mono (F.run X.A X.stack s H ⟨us, []⟩ (us ++ ds) (vs ++ dvs) Q E hr I.env0 (hb s us I.kIn hl) r2 h) fun r s' hq => ?_)
  cases r with
  | error e => exact hx pins σ H s e s' I hq
  | ok fl =>
    cases fl with
    | ret u => exact I.after hq
    | next => exact False.elim hq
    | brk => exact False.elim hq
    | cont => exact False.elim hq

theorem pe_call (F : FnOk X.prog X.w X.K X.mg X.base CX k f fd ps sp) (hr : Room k X.A) (hg : Gl X x) (hm : X.mg x = some (.ref f)) (hk : PySem.W.keepIn X.K (.ref f) = true) (hb : Binds X.K fd ps ds) (hd : Vals dvs ds) (hx : Passes CX X E)
    (ha : PA X (e :: es) t) (hdb : (x == ("__debug__" : Str)) = false := by decide) (he : starEach (e :: es) X.env = (false, eval e X.env) :: starEach es X.env := by rfl) (hpl : (backTo pos (starEach es X.env)).any (·.1) = false := by rfl) :
    PE X (.Call (.Name x p) (e :: es) [] pos) (tCall sp dvs E t) := by
  intro pins s σ H Q I h
  refine wpAny_Call_Name_kw (ld_glob I hg hm ?_ hdb)
  refine PySem.W.callWith_K (h₀ := X.base) I.ok.mod.kin hk (thn (ha pos pins s σ H _ I h) fun us s1 ⟨vs, H1, I1, r, q⟩ => ⟨I1.kIn, ?_⟩) he hpl
  exact run_fn F hr hb hd hx I1 r q
end

section
variable {X : Cx} {CX : CXT} {k : Nat} {f C : Addr} {fd : FuncData} {ps ks : List Str} {sp : Sp} {E : XK} {x m : Str} {p pos apos kpos : Pos} {e o : Expr} {es : List Expr} {kws : List Keyword} {te ta : TE} {t tk : TA} {nm : Option Str}
variable {g : List Value → List Value → List Value} {gV : List V → List V → List V}
end

/-- names: the parameters first -/
structure FnScope (N P : List Str) (sc : Scope) : Prop where
  kind : sc.kind = .function
  co : sc.isCoroutine = false
  gen : sc.isGenerator = false
  nd : N.Nodup
  pre : N.take P.length = P
  par : ∀ x ∈ P, sc.names.lookup x = some .local ∨ sc.names.lookup x = some .cell
  nofree : ∀ y ∈ sc.names, y.2 ≠ .free

theorem bindL_out {kindOf : Str → Option NameKind} {x : Str} : ∀ {binds : List (Str × Value)} {m : Str → Option Value}, (∀ v, (x, v) ∉ binds) → bindL kindOf binds m x = m x
  | [], _, _ => rfl
  | (n, v) :: r, m, h => by
    unfold bindL
    rw [bindL_out fun w hw => h w (List.mem_cons_of_mem _ hw)]
    split
    · have : x ≠ n := by rintro rfl; exact h v List.mem_cons_self
      simp [this]
    · rfl
theorem bindC_out {kindOf : Str → Option NameKind} {x : Str} : ∀ {binds : List (Str × Value)} {m : Str → Option Value}, (∀ v, (x, v) ∉ binds) → bindC kindOf binds m x = m x
  | [], _, _ => rfl
  | (n, v) :: r, m, h => by
    unfold bindC
    rw [bindC_out fun w hw => h w (List.mem_cons_of_mem _ hw)]
    split
    · rfl
    · have : x ≠ n := by rintro rfl; exact h v List.mem_cons_self
      simp [this]
theorem bindL_get {kindOf : Str → Option NameKind} {x : Str} {v : Value} : ∀ {P : List Str} {vs : List Value} {i : Nat} {m : Str → Option Value}, P.Nodup → P[i]? = some x → vs[i]? = some v → kindOf x = some .local →
    bindL kindOf (P.zip vs) m x = some v
  | [], _, _, _, _, h, _, _ => by simp at h
  | _ :: _, [], _, _, _, _, h, _ => by simp at h
  | p :: P, w :: vs, 0, m, nd, h1, h2, hk => by
    simp at h1 h2; subst h1; subst h2
    show bindL kindOf ((p, w) :: P.zip vs) m p = _
    unfold bindL
    rw [bindL_out fun v hv => (List.nodup_cons.mp nd).1 (List.of_mem_zip hv).1, if_pos hk]
    simp
  | p :: P, w :: vs, i + 1, m, nd, h1, h2, hk => by
    show bindL kindOf ((p, w) :: P.zip vs) m x = _
    unfold bindL
    exact bindL_get (i := i) (List.nodup_cons.mp nd).2 (by simpa using h1) (by simpa using h2) hk
theorem bindC_get {kindOf : Str → Option NameKind} {x : Str} {v : Value} : ∀ {P : List Str} {vs : List Value} {i : Nat} {m : Str → Option Value}, P.Nodup → P[i]? = some x → vs[i]? = some v → kindOf x ≠ some .local →
    bindC kindOf (P.zip vs) m x = some v
  | [], _, _, _, _, h, _, _ => by simp at h
  | _ :: _, [], _, _, _, _, h, _ => by simp at h
  | p :: P, w :: vs, 0, m, nd, h1, h2, hk => by
    simp at h1 h2; subst h1; subst h2
    show bindC kindOf ((p, w) :: P.zip vs) m p = _
    unfold bindC
    rw [bindC_out fun v hv => (List.nodup_cons.mp nd).1 (List.of_mem_zip hv).1, if_neg hk]
    simp
  | p :: P, w :: vs, i + 1, m, nd, h1, h2, hk => by
    show bindC kindOf ((p, w) :: P.zip vs) m x = _
    unfold bindC
    exact bindC_get (i := i) (List.nodup_cons.mp nd).2 (by simpa using h1) (by simpa using h2) hk

/-- the names' values at the entry -/
def start (N : List Str) (vs : List V) : St := vs.map some ++ List.replicate (N.length - vs.length) none

/-- the context of a def's body, at its entry; an exception leaves the frame, then lies as CX says -/
def cxOf (CX : CXT) (P : Program) (w : World) (K : PySem.W.Frag) (mg : Str → Option Value) (base : Heap) (N : List Str) (qual : Str) (scope : Scope) (f : Addr) (cd : Value) (A : Around) (outer : List Env) (s : Shared) (H : Hp) (E : XK) : Cx where
  prog := P
  w := w
  K := K
  mg := mg
  base := base
  A := A.deeper (envOfC qual scope s.heap.objs.size f cd)
  N := N
  s₀ := s
  H₀ := H
  env := envOfC qual scope s.heap.objs.size f cd
  outer := outer
  stack := envOfC qual scope s.heap.objs.size f cd :: outer
  ex := []
  calm := true
  fn := fun _ => true
  pn := []
  xe := fun e s' => wpAny (model P w) (A.deeper (envOfC qual scope s.heap.objs.size f cd)) (leaving (envOfC qual scope s.heap.objs.size f cd) e) (fun _ s'' => CX outer H s E e s'') (fun e' s'' => CX outer H s E e' s'') s'

theorem cell_has {sc : Scope} {n : Nat} {x : Str} (h : sc.names.lookup x = some .cell) : ∃ c, (cellsFrom n sc.names []).lookup x = some c := by
  have q := PySem.W.cellsFrom_some sc.names n [] (.inl h)
  exact Option.isSome_iff_exists.mp q

theorem inv_start {CX : CXT} {P : Program} {w : World} {K : PySem.W.Frag} {mg : Str → Option Value} {base : Heap} {N ps : List Str} {qual : Str} {scope : Scope} {f : Addr} {cd : Value} {A : Around} {outer : List Env} {s s1 : Shared} {H : Hp} {E : XK} {us : List Value} {vs : List V}
    (S : FnScope N ps scope) (hd : A.handled = none) (e0 : Env0 P w K mg base A outer s H) (hl : vs.length = ps.length) (r : Vals vs us)
    (x : InCallC s s.heap.objs.size (bindL (envOfC qual scope s.heap.objs.size f cd).kindOf (ps.zip us) fun _ => none) (cellsFrom (s.heap.objs.size + 1) scope.names []) (bindC (envOfC qual scope s.heap.objs.size f cd).kindOf (ps.zip us) fun _ => none) s1) :
    Inv (cxOf CX P w K mg base N qual scope f cd A outer s H E) [] (start N vs) H s1 := by
  have hpl : ps.length ≤ N.length := by have := congrArg List.length S.pre; rw [List.length_take] at this; omega
  obtain ⟨h1, tk, rfl, hk⟩ := x.done
  have noA : ∀ b : Addr, b ∉ (cxOf CX P w K mg base N qual scope f cd A outer s H E).ex := fun b z => absurd (show b ∈ ([] : List Addr) from z) (by simp)
  refine ⟨⟨e0.mod, S.kind, rfl, rfl, Nat.le_refl _, fun y z c h1 h2 => ?_, fun y hy => ?_, fun y c _ h => ?_, fun _ => hd, Around.frames_deeper e0.frames, .inr ⟨rfl, rfl⟩, fun b z => absurd z (noA b), e0.bs, e0.bsz, fun b _ _ => noA b, fun b z => absurd z (noA b), e0.funs, e0.frf⟩,
    rfl, e0.bare, Un.kept hk, ⟨_, x.toInCall.ns, fun i y v h1 h2 h3 => ?_⟩, fun y c h => ⟨_, x.cell y c h⟩, e0.hok.fresh (Nat.le_refl _), fun y c h => ?_, fun p hp => absurd (show p ∈ ([] : List (Addr × Obj)) from hp) (by simp), e0.hok.kept hk, ?_⟩
  · exact name_of_addr x.apart (PySem.mem_of_lookup h1) (PySem.mem_of_lookup h2)
  · have hy : scope.names.lookup y = some .cell ∨ scope.names.lookup y = some .free := hy
    rcases hy with hy | hy
    · exact cell_has hy
    · exact absurd rfl (S.nofree _ (PySem.mem_of_lookup hy))
  · exact Nat.le_of_lt (x.above y c (PySem.mem_of_lookup h))
  · have hi : i < vs.length := by
      unfold start at h2
      by_cases hi : i < vs.length
      · exact hi
      · rw [List.getElem?_append_right (by simpa using hi)] at h2
        rw [List.getElem?_replicate] at h2
        split at h2 <;> cases h2
    have ha : vs[i]? = some v := by
      unfold start at h2
      rw [List.getElem?_append_left (by simpa using hi), List.getElem?_map] at h2
      cases e : vs[i]? with
      | none => rw [e] at h2; cases h2
      | some a => rw [e] at h2; cases h2; rfl
    obtain ⟨u, hu, rv⟩ := r.get ha
    have hp : ps[i]? = some y := by
      rw [← S.pre, List.getElem?_take_of_lt (by omega)]; exact h1
    have ndP : ps.Nodup := by rw [← S.pre]; exact S.nd.sublist (List.take_sublist _ _)
    refine ⟨u, rv, ?_⟩
    rcases S.par y (List.mem_of_getElem? hp) with k | k
    · exact .inl ⟨k, bindL_get ndP hp hu k⟩
    · obtain ⟨c, e⟩ := cell_has (n := s.heap.objs.size + 1) k
      refine .inr ⟨.inl k, c, e, ?_⟩
      have q := x.cell y c e
      rw [bindC_get ndP hp hu (by show scope.names.lookup y ≠ _; rw [k]; decide)] at q
      exact q
  · exact e0.hok.fresh (Nat.le_of_lt (x.above y c (PySem.mem_of_lookup h)))
  · unfold start
    show _ = N.length
    rw [List.length_append, List.length_map, List.length_replicate]
    omega

/-- THE RULE: a def (or a method) of the text, by its body. The body's reading t is chosen for each entry; it is run at the parameters' values -/
theorem fn_of {CX : CXT} {P : Program} {w : World} {K : PySem.W.Frag} {mg : Str → Option Value} {base : Heap} {k : Nat} {f : Addr} {name qual : Str} {params : Arguments} {body : List Stmt} {scope : Scope} {dV kV doc pm cdv ct oc : Value} {an od : Option Addr}
    {osl : Array (Option Value)} {N ps : List Str} {sp : Sp} (lk : K.lookup f = some ⟨oc, od, .func (PySem.W.fnOf name qual params body scope dV kV doc pm an cdv ct), osl⟩) (hcd : PySem.W.codeIn K cdv qual = true) (S : FnScope N ps scope)
    (len : ∀ vs H Q E, sp vs H Q E → vs.length = ps.length)
    (hbody : ∀ (A : Around) (outer : List Env) (s : Shared) (H : Hp) (vs : List V) (Q : VK) (E : XK), Room k (A.deeper (envOfC qual scope s.heap.objs.size f cdv)) → sp vs H Q E →
      ∃ t, PSs (cxOf CX P w K mg base N qual scope f cdv A outer s H E) body t ∧ t { nx := fun _ H' => Q .non H', rt := Q } (start N vs) H) :
    FnOk P w K mg base CX (k + 1) f (PySem.W.fnOf name qual params body scope dV kV doc pm an cdv ct) ps sp := by
  refine ⟨len, fun A outer s H args us vs Q E hr e0 hb r hsp => ?_⟩
  have hl := len _ _ _ _ hsp
  have KX : K.In s.heap := e0.mod.kin.keeps fun b o e => (e0.bs b o e).1
  have lim : s.heap.NoLimit := e0.mod.nolimit.keeps fun b o e => (e0.bs b o e).1
  have hkind : ∀ y ∈ ps.zip us, scope.names.lookup y.1 = some .local ∨ (scope.names.lookup y.1 = some .cell ∧ ((cellsFrom (s.heap.objs.size + 1) scope.names []).lookup y.1).isSome = true) := fun ⟨n, v⟩ hy => by
    rcases S.par n (List.of_mem_zip hy).1 with q | q
    · exact .inl q
    · exact .inr ⟨q, PySem.W.cellsFrom_some _ _ _ (.inl q)⟩
  refine codeAny_call_function hr.depth (KX _ _ lk) rfl S.co S.gen rfl (PySem.W.codeRec_of KX hcd) (hb _ _ _ _ ?_)
  refine wpAny_newFunctionEnv_cells S.kind hkind fun env he s1 x => ?_
  subst he
  refine ⟨lim.keeps x.toInCall.keep, codeAny_func ?_⟩
  obtain ⟨t, ht, hq⟩ := hbody A outer s H vs Q E (hr.deeper _) hsp
  have I : Inv (cxOf CX P w K mg base N qual scope f cdv A outer s H E) [] (start N vs) H s1 := inv_start S hr.hd e0 hl r x
  refine wpAny_mono (ht [] s1 (start N vs) H _ I hq) (fun fl s' hs => ?_) fun e s' hs => hs
  have fin : ∀ {σ' : St} {H' : Hp} {v : V} {u : Value}, Inv (cxOf CX P w K mg base N qual scope f cdv A outer s H E) [] σ' H' s' → RelV v u → Q v H' → CE outer P w H s Q u s' :=
    fun {σ' H' v u} J rv q => ⟨v, H', J.os, J.bare, J.base, J.hok, rv, q⟩
  cases fl with
  | ret u =>
    obtain ⟨v, σ', H', J, rv, q⟩ := hs
    exact fin J rv q
  | next =>
    obtain ⟨σ', H', J, q⟩ := hs
    exact fin (v := V.non) (u := Value.none) J rfl q
  | brk =>
    obtain ⟨_, _, _, q⟩ := hs
    exact False.elim q
  | cont =>
    obtain ⟨_, _, _, q⟩ := hs
    exact False.elim q
end L2

namespace L2
open PySem PySem.Spec PyProof.Rows
section
variable {X : Cx} {x : Str} {p pos : Pos} {e : Expr} {es : List Expr} {t : TA} {id T : String} {r : List V → Hp → VK → Prop}

def tCB (r : List V → Hp → VK → Prop) (t : TA) : TE := fun σ H Q => t σ H fun vs H1 => r vs H1 Q
/-- f(e, ..), f a built-in function -/
theorem pe_callB (hc : CallR X (.builtin id) r) (hg : Gl X x) (hm : X.mg x = none) (hv : bootBuiltins x = some (.builtin id)) (ha : PA X (e :: es) t) (hn : x ≠ "__name__" := by decide) (hdb : (x == ("__debug__" : Str)) = false := by decide)
    (he : starEach (e :: es) X.env = (false, eval e X.env) :: starEach es X.env := by rfl) (hpl : (backTo pos (starEach es X.env)).any (·.1) = false := by rfl) : PE X (.Call (.Name x p) (e :: es) [] pos) (tCB r t) := by
  intro pins s σ H Q I h
  refine wpAny_Call_Name_kw (ld_blt I hg hm hv ?_ hn hdb)
  exact PyProof.Rows.callWith_builtin1 (thn (ha pos pins s σ H _ I h) fun us s1 ⟨vs, H1, I1, r1, q1⟩ => hc pins s1 σ H1 vs us Q I1 r1 q1) he hpl
/-- T(e, ..), T a built-in type -/
theorem pe_callTy (hc : CallR X (.type T) r) (hg : Gl X x) (hm : X.mg x = none) (hv : bootBuiltins x = some (.type T)) (ha : PA X (e :: es) t) (hn : x ≠ "__name__" := by decide) (hdb : (x == ("__debug__" : Str)) = false := by decide)
    (he : starEach (e :: es) X.env = (false, eval e X.env) :: starEach es X.env := by rfl) (hpl : (backTo pos (starEach es X.env)).any (·.1) = false := by rfl) : PE X (.Call (.Name x p) (e :: es) [] pos) (tCB r t) := by
  intro pins s σ H Q I h
  refine wpAny_Call_Name_kw (ld_blt I hg hm hv ?_ hn hdb)
  exact PyProof.Rows.callWith_type1 (thn (ha pos pins s σ H _ I h) fun us s1 ⟨vs, H1, I1, r1, q1⟩ => hc pins s1 σ H1 vs us Q I1 r1 q1) he hpl
end
end L2

namespace HT
open PySem PyProof.Rows

section
open PySem.SeqAt
open PySem.AutoSeq1 (wpAny_loadPart')
open PySem.MeetsSeq PySem.MeetsSeq2 PySem.MeetsSeq3

end

section
variable {prog : Program} {w : World} {A : Around} {E : Value → Shared → Prop} {s : Shared}

/-- t + u, t not empty -/
theorem cat_tup {t b : Addr} {vs ws : List Value} {Q : Value → Shared → Prop} (ht : IsTup s.heap t vs.toArray) (hb : IsTup s.heap b ws.toArray) (hv : vs ≠ [])
    (h1 : ws = [] → Q (.ref t) s) (h2 : ws ≠ [] → Q (.ref s.heap.objs.size) { s with heap := s.heap.push { cls := .type "tuple", data := .seq (vs ++ ws).toArray } })
    (hsz : vs.length + ws.length ≤ sizeLine) : wpAny (model prog w) A (binaryOp .Add (.ref t) (.ref b)) Q E s := by
  obtain ⟨⟨cls, dd, data, sl⟩, ho, hc, n, hd⟩ := id ht
  obtain ⟨⟨cls2, dd2, data2, sl2⟩, ho2, hc2, n2, hd2⟩ := id hb
  simp only at hc hd hc2 hd2
  subst hc hd hc2 hd2
  have e : vs.toArray ++ ws.toArray = (vs ++ ws).toArray := by simp
  by_cases hw : ws = []
  · exact concat_meets ⟨_, ho, rfl⟩ ⟨_, ho2, rfl⟩ noFill_tuple_add seq_tuple_add PySem.F.slot_tuple_add PySem.F.entry_tuple_add (PySem.F.args_tuple_add_2 _ _)
      (tuple_addW1 t b vs.toArray ws.toArray n n2 dd dd2 sl sl2 (by simpa using hv) (by simp [hw])) ⟨ho, ho2, h1 hw⟩
  · refine concat_meets ⟨_, ho, rfl⟩ ⟨_, ho2, rfl⟩ noFill_tuple_add seq_tuple_add PySem.F.slot_tuple_add PySem.F.entry_tuple_add (PySem.F.args_tuple_add_2 _ _)
      (tuple_addW2 t b vs.toArray ws.toArray n n2 dd dd2 sl sl2 (by simpa using hv) (by simpa using hw) (by rw [List.size_toArray, List.size_toArray]; exact hsz)) ⟨ho, ho2, ?_⟩
    rw [e]
    exact h2 hw

/-- a slice's bound as a place among n (d where it is left out) -/
def sIx (n d : Nat) : Option Int → Nat
  | none => d
  | some v => if v < 0 then (v + (n : Int)).toNat else min v.toNat n
theorem clip_eq (v : Int) (n d : Nat) : (if v < 0 then max (v + (n : Int)) 0 else min v (n : Int)) = ((sIx n d (some v) : Nat) : Int) := by
  show (if v < 0 then max (v + (n : Int)) 0 else min v (n : Int)) = (((if v < 0 then (v + (n : Int)).toNat else min v.toNat n) : Nat) : Int)
  by_cases hv : v < 0
  · simp only [if_pos hv]; omega
  · simp only [if_neg hv]; omega
end
end HT

namespace L2
open PySem PySem.Spec PyProof.Rows

abbrev TO := St → Hp → (Option Int → Hp → Prop) → Prop
section
variable {X : Cx} {e : Expr} {te : TE} {lo hi : Option Expr} {tl th : TO} {pos p2 : Pos}

/-- what a slice of a value is, by values: the slice object stands at sl -/
def SlR (X : Cx) (r : V → Option Int → Option Int → Hp → VK → Prop) : Prop :=
  ∀ (pins : List (Addr × Obj)) (s : Shared) (σ : St) (H : Hp) (x : V) (v vl vu : Value) (lo hi : Option Int) (sl : Addr) (Q : VK), Inv X pins σ H s → RelV x v → s.heap.IsSliceOf sl vl vu .none → IsPart vl lo → IsPart vu hi → r x lo hi H Q →
    ∃ T id, typeLookup (.type T) "__getitem__" = pure (some (.builtin id)) ∧ s.TypeIs v T ∧ wpAny (model X.prog X.w) X.A (getItem v (.ref sl)) (EP X pins σ Q) X.xe s
theorem SlR.or {r r' : V → Option Int → Option Int → Hp → VK → Prop} (h : SlR X r) (h' : SlR X r') : SlR X (fun x lo hi H Q => r x lo hi H Q ∨ r' x lo hi H Q) := by
  intro pins s σ H x v vl vu lo hi sl Q I rx hs pl pu q
  rcases q with q | q
  · exact h pins s σ H x v vl vu lo hi sl Q I rx hs pl pu q
  · exact h' pins s σ H x v vl vu lo hi sl Q I rx hs pl pu q
/-- the items of xs[lo:hi] -/
def cutV (xs : List V) (lo hi : Option Int) : List V := (xs.drop (HT.sIx xs.length 0 lo)).take (HT.sIx xs.length xs.length hi - HT.sIx xs.length 0 lo)
end
end L2

namespace L2
open PySem PySem.Spec PyProof.Rows

/-- the place that an index of any sign means -/
def ixN (n : Nat) (i : Int) : Option Nat := if 0 ≤ i then (if i < n then some i.toNat else none) else if -(n : Int) ≤ i then some (i + n).toNat else none
def atI {α : Type} (xs : List α) (i : Int) : Option α := (ixN xs.length i).bind fun j => xs[j]?
theorem ixN_seq {n : Nat} {i : Int} {j : Nat} (h : ixN n i = some j) : seqIndex? i n = some j ∧ j < n ∧ -(n : Int) ≤ i ∧ i < n := by
  unfold ixN at h
  by_cases h0 : 0 ≤ i
  · rw [if_pos h0] at h
    by_cases h1 : i < n
    · rw [if_pos h1] at h
      have e : i.toNat = j := Option.some.inj h
      exact ⟨by rw [seqIndex_of h0 h1, e], by omega, by omega, h1⟩
    · rw [if_neg h1] at h; cases h
  · rw [if_neg h0] at h
    by_cases h1 : -(n : Int) ≤ i
    · rw [if_pos h1] at h
      have e : (i + n).toNat = j := Option.some.inj h
      exact ⟨by rw [seqIndex_neg (by omega) h1, e], by omega, h1, by omega⟩
    · rw [if_neg h1] at h; cases h
theorem atI_get {α : Type} {xs : List α} {i : Int} {v : α} (h : atI xs i = some v) : ∃ j, seqIndex? i xs.length = some j ∧ xs[j]? = some v ∧ j < xs.length ∧ -(xs.length : Int) ≤ i ∧ i < xs.length := by
  unfold atI at h
  cases e : ixN xs.length i with
  | none => rw [e] at h; cases h
  | some j =>
    rw [e] at h
    obtain ⟨h1, h2, h3, h4⟩ := ixN_seq e
    exact ⟨j, h1, h, h2, h3, h4⟩
/-- what stands as an index of a plain subscript -/
def PlainIx (b : Expr) : Prop := ∀ o i, subscripted b false o i = operate [o, i] (getItem o i)
/-- a subscript by values -/
def IxR (X : Cx) (r : R2) : Prop :=
  ∀ (value slice : Expr) (pins : List (Addr × Obj)) (s : Shared) (σ : St) (H : Hp) (x y : V) (v u : Value) (Q : VK), Inv X pins σ H s → RelV x v → RelV y u → r x y H Q →
    subscripted slice false v u = operate [v, u] (getItem v u) → wpAny (model X.prog X.w) X.A (subscriptTail value slice v u) (EP X pins σ Q) X.xe s
/-- a call of a builtin's method by values: the receiver, the arguments -/
def MtR (X : Cx) (id : String) (r : V → List V → Hp → VK → Prop) : Prop :=
  ∀ (pins : List (Addr × Obj)) (s : Shared) (σ : St) (H : Hp) (x : V) (xs : List V) (v : Value) (us : List Value) (Q : VK), Inv X pins σ H s → RelV x v → Vals xs us → r x xs H Q →
    wpAny (model X.prog X.w) X.A (call (.builtin id) (v :: us)) (EP X pins σ Q) X.xe s
section
variable {X : Cx} {a b : Expr} {ta tb : TE} {pos : Pos}
theorem IxR.or {r r' : R2} (h : IxR X r) (h' : IxR X r') : IxR X (fun x y H Q => r x y H Q ∨ r' x y H Q) := by
  intro value slice pins s σ H x y v u Q I rx ry q hs
  rcases q with q | q
  · exact h value slice pins s σ H x y v u Q I rx ry q hs
  · exact h' value slice pins s σ H x y v u Q I rx ry q hs
theorem MtR.or {id : String} {r r' : V → List V → Hp → VK → Prop} (h : MtR X id r) (h' : MtR X id r') : MtR X id (fun x xs H Q => r x xs H Q ∨ r' x xs H Q) := by
  intro pins s σ H x xs v us Q I rx rs q
  rcases q with q | q
  · exact h pins s σ H x xs v us Q I rx rs q
  · exact h' pins s σ H x xs v us Q I rx rs q
def rIxL (K : PySem.W.Frag) : R2 := fun x y H Q => ∃ p xs i v, x = .ref p ∧ y = .int i ∧ SqL K H p xs ∧ atI xs i = some v ∧ Q v H
def rIxT (K : PySem.W.Frag) : R2 := fun x y H Q => ∃ p xs i v, x = .ref p ∧ y = .int i ∧ SqT K H p xs ∧ atI xs i = some v ∧ Q v H
def rIxS : R2 := fun x y H Q => ∃ z i c, x = .str z ∧ y = .int i ∧ z.length ≤ sizeLine ∧ atI z.cps.toList i = some c ∧ Q (.str ⟨#[c]⟩) H
theorem ix_list : IxR X (rIxL X.K) := by
  intro value slice pins s σ H x y v u Q I rx ry h hs
  obtain ⟨p, xs, i, z, rfl, rfl, hq, he, q⟩ := h
  cases rx
  obtain ⟨t, rfl⟩ := ry
  obtain ⟨its, r, pl, hz⟩ := I.list hq
  obtain ⟨j, h1, h2, h3, h4, h5⟩ := atI_get he
  obtain ⟨w, ew, rw'⟩ := r.get h2
  have hl := r.length
  have hn := line63
  have fin : EP X pins σ Q w s := ⟨z, H, I, rw', q⟩
  by_cases h0 : 0 ≤ i
  · have hj : i.toNat = j := by
      rw [seqIndex_of h0 h5] at h1
      exact Option.some.inj h1
    exact item_listR pl.isList h0 (by omega) (by rw [hj]; simpa using ew) fin hs
  · have hj : (i + (its.toArray.size : Int)).toNat = j := by
      rw [seqIndex_neg (by omega) h4] at h1
      rw [List.size_toArray, ← hl]
      exact Option.some.inj h1
    exact subscriptTail_builtinR (x := w) pl.isList.typeIs slot_list_getitem.lookup
      (wpAny_getItem_list_neg (Q := fun r s' => r = w ∧ EP X pins σ Q r s') pl.isList (by omega) (by rw [List.size_toArray] <;> omega) (by omega) (by rw [hj]; simpa using ew) ⟨rfl, fin⟩) hs
theorem ix_tup : IxR X (rIxT X.K) := by
  intro value slice pins s σ H x y v u Q I rx ry h hs
  obtain ⟨p, xs, i, z, rfl, rfl, hq, he, q⟩ := h
  cases rx
  obtain ⟨t, rfl⟩ := ry
  obtain ⟨its, r, pl, hz⟩ := I.tuple hq
  obtain ⟨j, h1, h2, h3, h4, h5⟩ := atI_get he
  obtain ⟨w, ew, rw'⟩ := r.get h2
  have hl := r.length
  have hn := line63
  have fin : EP X pins σ Q w s := ⟨z, H, I, rw', q⟩
  exact subscriptTail_builtinR (x := w) pl.typeIs slot_tuple_getitem.lookup
    (getItem_tuple (j := j) (Q := fun r s' => r = w ∧ EP X pins σ Q r s') pl (by omega) (by omega) (by rw [List.size_toArray, ← hl]; exact h1) (by simpa using ew) ⟨rfl, fin⟩) hs
theorem ix_str : IxR X rIxS := by
  intro value slice pins s σ H x y v u Q I rx ry h hs
  obtain ⟨z, i, c, rfl, rfl, hz, he, q⟩ := h
  obtain ⟨t, rfl⟩ := rx
  obtain ⟨t', rfl⟩ := ry
  obtain ⟨j, h1, h2, h3, h4, h5⟩ := atI_get he
  have hl : z.cps.toList.length = z.length := by simp [Str.length]
  rw [hl] at h1 h4 h5
  have hn := line63
  exact tail_any (typeIs_str s z t) slot_str_getitem.lookup (getItem_str (c := c) (by
    have e1 : decide (i < -(2 ^ 63 : Int)) = false := decide_eq_false (by omega)
    have e2 : decide (i ≥ 2 ^ 63) = false := decide_eq_false (by omega)
    rw [e1, e2, Bool.or_false]) (by rw [h1]; simpa using h2) ⟨.str ⟨#[c]⟩, H, I.tok _, ⟨_, rfl⟩, q⟩) hs
/-- list, tuple or str -/
def rIx (K : PySem.W.Frag) : R2 := fun x y H Q => rIxL K x y H Q ∨ rIxT K x y H Q ∨ rIxS x y H Q
theorem ix_seq : IxR X (rIx X.K) := ix_list.or (ix_tup.or ix_str)

theorem Inv.lst {pins : List (Addr × Obj)} {σ : St} {H : Hp} {s : Shared} {p : Addr} {xs : List V} (I : Inv X pins σ H s) (h : H p = some (.lst xs)) :
    ∃ (its : List Value) (n : Nat), Vals xs its ∧ s.heap.get? p = some { cls := .type "list", data := .seq its.toArray n } ∧ xs.length ≤ sizeLine := by
  obtain ⟨z, its, n, r, e⟩ := I.hok p _ h
  exact ⟨its, n, r, e, z⟩
theorem call_len_seq : CallR X (.builtin "len") (fun xs H Q => ∃ p ys, xs = [.ref p] ∧ (SqL X.K H p ys ∨ SqT X.K H p ys) ∧ Q (.int ys.length) H) := by
  intro pins s σ H xs us Q I r h
  obtain ⟨p, ys, rfl, hq, q⟩ := h
  obtain ⟨u, rfl, rx⟩ := vals1 r
  cases rx
  have hn := line63
  rcases hq with hq | hq
  · obtain ⟨its, r', pl, hz⟩ := I.list hq
    have hlen := r'.length
    exact Calls.call_len_list pl.isList (by simp only [List.size_toArray] <;> omega) ⟨.int ys.length, H, I.tok _, ⟨s.toks + 1, by rw [List.size_toArray, hlen]⟩, q⟩
  · obtain ⟨its, r', pl, hz⟩ := I.tuple hq
    have hlen := r'.length
    exact len_tuple pl (by simp only [List.size_toArray] <;> omega) ⟨.int ys.length, H, I.tok _, ⟨s.toks + 1, by rw [List.size_toArray, hlen]⟩, q⟩
theorem call_len_str : CallR X (.builtin "len") (fun xs H Q => ∃ z, xs = [.str z] ∧ z.length ≤ sizeLine ∧ Q (.int z.length) H) := by
  intro pins s σ H xs us Q I r h
  obtain ⟨z, rfl, hz, q⟩ := h
  obtain ⟨u, rfl, t, rfl⟩ := vals1 r
  have hn := line63
  exact len_str (by omega) ⟨.int z.length, H, I.tok _, ⟨_, rfl⟩, q⟩
theorem CallR.or {f : Value} {r r' : List V → Hp → VK → Prop} (h : CallR X f r) (h' : CallR X f r') : CallR X f (fun xs H Q => r xs H Q ∨ r' xs H Q) := by
  intro pins s σ H xs us Q I rs q
  rcases q with q | q
  · exact h pins s σ H xs us Q I rs q
  · exact h' pins s σ H xs us Q I rs q
theorem call_list_of : CallR X (.type "list") (fun xs H Q => ∃ p ys, xs = [.ref p] ∧ (SqL X.K H p ys ∨ SqT X.K H p ys) ∧ ∀ l, H l = none → Q (.ref l) (upd H l (.lst ys))) := by
  intro pins s σ H xs us Q I r h
  obtain ⟨p, ys, rfl, hq, q⟩ := h
  obtain ⟨u, rfl, rx⟩ := vals1 r
  cases rx
  have fin : ∀ (its : List Value), Vals ys its → ys.length ≤ sizeLine → ∀ (h' : Heap) (c' : Nat), (∀ b o', s.heap.get? b = some o' → h'.get? b = some o') →
      h'.get? s.heap.objs.size = some { cls := .type "list", dict := none, data := .seq its.toArray c', slots := #[] } → EP X pins σ Q (.ref s.heap.objs.size) { s with heap := h' } := fun its r' hz h' c' kp e =>
    ⟨.ref s.heap.objs.size, _, I.laid (t' := s.toks) kp (Nat.le_refl _) (show ObjOk X.prog X.w _ h' _ (.lst ys) from ⟨hz, its, c', r', e⟩), rfl, q _ (I.hok.fresh (Nat.le_refl _))⟩
  rcases hq with hq | hq
  · obtain ⟨its, r', pl, hz⟩ := I.list hq
    have hlen := r'.length
    obtain ⟨o, ho, hc, n, hd⟩ := pl.isList
    exact call_list_seq p (.inl rfl) ho hc hd (fun h' c' kp e => fin its r' hz h' c' kp e) (by simp only [List.size_toArray] <;> omega)
  · obtain ⟨its, r', pl, hz⟩ := I.tuple hq
    have hlen := r'.length
    obtain ⟨o, ho, hc, n, hd⟩ := pl
    exact call_list_seq p (.inr rfl) ho hc hd (fun h' c' kp e => fin its r' hz h' c' kp e) (by simp only [List.size_toArray] <;> omega)
theorem call_tuple_of : CallR X (.type "tuple") (fun xs H Q => ∃ p ys, xs = [.ref p] ∧ ((SqL X.K H p ys ∧ ∀ l, H l = none → Q (.ref l) (upd H l (.tup ys))) ∨ (SqT X.K H p ys ∧ Q (.ref p) H))) := by
  intro pins s σ H xs us Q I r h
  obtain ⟨p, ys, rfl, h⟩ := h
  obtain ⟨u, rfl, rx⟩ := vals1 r
  cases rx
  rcases h with ⟨hq, q⟩ | ⟨hq, q⟩
  · obtain ⟨its, r', pl, hz⟩ := I.list hq
    have hlen := r'.length
    refine call_tuple_list pl.isList (fun h' kp => ?_) (by simp only [List.size_toArray] <;> omega)
    have I1 : Inv X pins σ H { s with heap := h' } := I.kept (t' := s.toks) kp
    have I2 : Inv X pins σ (upd H h'.objs.size (.tup ys)) { s with heap := h'.push { cls := .type "tuple", data := .seq its.toArray } } :=
      I1.laid (t' := s.toks) (fun b o e => Heap.get?_push_of_some _ e) (Nat.le_refl _) (show ObjOk X.prog X.w _ _ _ (.tup ys) from ⟨hz, its, r', IsTup.new _ _⟩)
    exact ⟨.ref h'.objs.size, _, I2, rfl, q _ (I1.hok.fresh (Nat.le_refl _))⟩
  · obtain ⟨its, r', pl, hz⟩ := I.tuple hq
    exact call_tuple_same pl ⟨.ref p, H, I, rfl, q⟩

/-- the value is of that builtin type -/
def tyV (K : PySem.W.Frag) (T : String) (x : V) (H : Hp) : Prop := match x with
  | .str _ => T = "str"
  | .int _ => T = "int"
  | .ref p => (T = "list" ∧ ∃ xs, SqL K H p xs) ∨ (T = "tuple" ∧ ∃ o, K.lookup p = some o ∧ o.cls = .type "tuple" ∧ o.dict = none) ∨
      (T = "dict" ∧ ((∃ kvs, H p = some (.dK kvs)) ∨ ∃ kvs, H p = some (.dT kvs))) ∨ (T = "set" ∧ ∃ S n, H p = some (.set S n))
  | _ => False
theorem tyV_is {pins : List (Addr × Obj)} {σ : St} {H : Hp} {s : Shared} {T : String} {x : V} {v : Value} (I : Inv X pins σ H s) (r : RelV x v) (ty : tyV X.K T x H) :
    s.TypeIs v T ∧ ∀ a, v = .ref a → ∃ ob, s.heap.get? a = some ob ∧ ob.dict = none := by
  cases x with
  | str z =>
    obtain ⟨t, rfl⟩ := r
    cases (show T = "str" from ty)
    exact ⟨typeIs_str s z t, fun _ e => nomatch e⟩
  | int i =>
    obtain ⟨t, rfl⟩ := r
    cases (show T = "int" from ty)
    exact ⟨typeIs_int s i t, fun _ e => nomatch e⟩
  | ref p =>
    cases r
    rcases ty with ⟨rfl, xs, hq⟩ | ⟨rfl, o, hk, hc, hd⟩ | ⟨rfl, hk⟩ | ⟨rfl, S, n, hk⟩
    · obtain ⟨its, _, pl, _⟩ := I.list hq
      refine ⟨pl.isList.typeIs, fun a e => ?_⟩
      cases e
      obtain ⟨o, n, e, c, hd, _⟩ := pl
      exact ⟨o, e, hd⟩
    · refine ⟨⟨o, I.kIn p o hk, hc⟩, fun a e => ?_⟩
      cases e
      exact ⟨o, I.kIn _ o hk, hd⟩
    · have z : ∃ o, s.heap.get? p = some o ∧ o.ExactDict := by
        rcases hk with ⟨kvs, hk⟩ | ⟨kvs, hk⟩
        · obtain ⟨_, _, _, _, o, _, _, e, ex, _⟩ := I.hok p _ hk
          exact ⟨o, e, ex⟩
        · obtain ⟨_, _, _, _, o, _, _, e, ex, _⟩ := I.hok p _ hk
          exact ⟨o, e, ex⟩
      obtain ⟨o, e, ex⟩ := z
      refine ⟨⟨o, e, ex.1⟩, fun a e2 => ?_⟩
      cases e2
      exact ⟨o, e, ex.2.1⟩
    · obtain ⟨o, _, _, _, e, ex, _⟩ := I.hok p _ hk
      refine ⟨⟨o, e, ex.1⟩, fun a e2 => ?_⟩
      cases e2
      exact ⟨o, e, ex.2.1⟩
  | _ => exact False.elim ty
def tBM (K : PySem.W.Frag) (T : String) (r : V → List V → Hp → VK → Prop) (to : TE) (t : TA) : TE := fun σ H Q => to σ H fun x H1 => tyV K T x H1 ∧ t σ H1 fun xs H2 => r x xs H2 Q
variable {o e : Expr} {es : List Expr} {to : TE} {t : TA} {name : Str} {apos cpos : Pos} {T id : String} {r : V → List V → Hp → VK → Prop}
theorem pe_bm (pa : PlainAttrs T) (slot : Slot T name id) (hty : typeOf (.builtin id) = pure (.type "method_descriptor")) (hm : MtR X id r) (ho : PE X o to) (ha : PA X (e :: es) t)
    (hbase : attributeBase o name X.env (eval o X.env) = eval o X.env := by rfl)
    (hfew : ((backTo cpos (starEach (e :: es) X.env)).all (fun x => !x.1) && (backToKw cpos (keywordEach [] X.env)).all (fun x => x.1.isSome)
      && decide ((e :: es).length + ([] : List Keyword).length + (if ([] : List Keyword).isEmpty then 0 else 1) < 30)) = true := by rfl)
    (hline : (apos.endLine == cpos.line) = true := by rfl) (hs : starEach (e :: es) X.env = (false, eval e X.env) :: starEach es X.env := by rfl) (hplain : (backTo cpos (starEach es X.env)).any (·.1) = false := by rfl) :
    PE X (.Call (.Attribute o name apos) (e :: es) [] cpos) (tBM X.K T r to t) := by
  intro pins s σ H Q I h
  refine wpAny_Call_method_late hbase hfew hline rfl (thn (ho pins s σ H _ I h) fun v s1 ⟨x, H1, I1, r1, ty, q1⟩ => ?_)
  obtain ⟨h1, h2⟩ := tyV_is I1 r1 ty
  refine ⟨T, id, pa, slot, hty, h1, h2, ?_⟩
  have hA := ha cpos pins s1 σ H1 _ I1 q1
  rw [hs] at hA ⊢
  refine Calls.callWith_builtin (by show (false || (backTo cpos (starEach es X.env)).any (·.1)) = false; rw [hplain] <;> rfl) (Calls.evalArgs_plain ?_)
  exact thn hA fun us s2 ⟨vs, H2, I2, r2, q2⟩ => hm pins s2 σ H2 x vs v us Q I2 r1 r2 q2
end
end L2

namespace L2
open PySem PySem.Spec PyProof.Rows

theorem Vals.one : ∀ {x : V} {us : List Value}, Vals [x] us → ∃ u, us = [u] ∧ RelV x u
  | _, _, .cons r .nil => ⟨_, rfl, r⟩
theorem Vals.two : ∀ {x y : V} {us : List Value}, Vals [x, y] us → ∃ u v, us = [u, v] ∧ RelV x u ∧ RelV y v
  | _, _, _, .cons r (.cons q .nil) => ⟨_, _, rfl, r, q⟩
theorem Vals.zero : ∀ {us : List Value}, Vals [] us → us = []
  | _, .nil => rfl
theorem Vals.eraseIdx : ∀ {xs : List V} {us : List Value} (i : Nat), Vals xs us → Vals (xs.eraseIdx i) (us.eraseIdx i)
  | _, _, _, .nil => .nil
  | _, _, 0, .cons _ t => t
  | _, _, i + 1, .cons r t => .cons r (Vals.eraseIdx i t)
theorem Vals.reverse {xs : List V} {us : List Value} (h : Vals xs us) : Vals xs.reverse us.reverse := by
  induction h with
  | nil => exact .nil
  | cons r t ih => rw [List.reverse_cons, List.reverse_cons]; exact Vals.append ih (.cons r .nil)
section
variable {X : Cx} {pins : List (Addr × Obj)} {σ : St} {H : Hp} {s : Shared} {l b : Addr} {xs ys zs : List V}

theorem Inv.fresh (I : Inv X pins σ H s) : H s.heap.objs.size = none := I.hok.fresh (Nat.le_refl _)
end

section
variable {X : Cx}

end

section
variable {prog : Program} {w : World} {A : Around} {E : Value → Shared → Prop} {s : Shared}
end

section
variable {X : Cx}
end
end L2

namespace Att
open PySem PySem.W PySem.Calls PyProof.Rows

theorem ints_of_wellAll {P : Params} {h : Heap} : ∀ (ns : List Int) (vs : List Value), WellAll P h vs (ns.map WData.int) → IntsAre vs ns := by
  intro ns
  induction ns with
  | nil =>
    intro vs w
    rw [List.map_nil] at w
    cases w
    exact .nil
  | cons n ns ih =>
    intro vs w
    rw [List.map_cons] at w
    cases w with
    | cons a b =>
      cases a
      exact .cons _ _ (ih _ b)

theorem script_of {l : OpenLaw} {n : Nat} (hn : l.most = some n) {P : Params} {h : Heap} {args : List WData} {vals : List Value}
    (hpre : l.row.toRowW.claim.pre args = true) (hwl : WellAll P h vals args) :
    ∃ a vs ns, vals = [Value.ref a] ∧ args = [WData.list (ns.map WData.int)] ∧ h.get? a = some { cls := .type "list", data := .seq vs.toArray } ∧ IntsAre vs ns ∧ ns.length ≤ n := by
  have hsh : WShape.hasAll [] args [.list .int] = true := (pre_splitW hpre).1
  have hc : l.pre.holds [] { args := args } = true := (pre_splitW hpre).2
  obtain ⟨d, r, rfl, h1, h2⟩ := hasAllW_cons hsh
  obtain rfl := hasAllW_nil h2
  obtain ⟨xs, rfl, h3⟩ := hasW_list h1
  obtain ⟨ns, rfl⟩ := items_int h3
  have hlen : ns.length ≤ n := by
    unfold OpenLaw.pre at hc
    have h4 : (WTm.not (.lt (.lit (.int (n : Int))) (.len (.arg 0)))).holds [] { args := [.list (ns.map .int)] } = true := by
      have h4 := (holds_andW hc).1
      rw [hn] at h4
      exact h4
    have h5 := condW_of h4 (w_not (w_lt w_lit (w_len_list (w_arg rfl))))
    rw [List.length_map] at h5
    refine Nat.le_of_not_lt fun q => ?_
    have q' : (n : Int) < ((ns.length : Nat) : Int) := by omega
    first
      | (rw [decide_eq_true q'] at h5; exact absurd h5 (by decide))
      | (simp at h5; omega)
  cases hwl with
  | cons w1 w2 =>
    cases w2
    cases w1 with
    | list ho hall => exact ⟨_, _, ns, rfl, rfl, ho, ints_of_wellAll ns _ hall, hlen⟩

theorem post_true (l : OpenLaw) (args : List WData) : l.row.toRowW.claim.post args (.bool true) args = true :=
  postW_of (r := l.row.toRowW) (X := (true == true))
    (show WShape.has [] (.bool true) .bool = true by first | rfl | decide | simp [WShape.has, WShape.arms, WShape.armsAll])
    (show (WTm.eq .res (.lit (.bool true))).value [] { args := args, res := some (.bool true), after := args } = some (.bool (true == true)) from w_eq_bool (w_res rfl) w_lit) rfl

/-- the same from a codeAny of the CALL (for a layer whose function contracts speak of calls) -/
theorem attach_call {l : OpenLaw} {n : Nat} {q : Program} {loose : List Str} {XP : (Str → Option Value) → Heap → Prop} {YP : World → Heap → Prop} {d : DefRec}
    (hn : l.most = some n) (hdf : d.params.defaults = [])
    (call : ∀ (w : World) (s₀ s₁ : Shared) (mg mb : Str → Option Value) (fa : Addr) (o : Obj) (pm cd doc : Value) (a : Addr) (vs : List Value) (ns : List Int),
      Ground q loose [] XP w s₀ mg mb s₁.heap → YP w s₁.heap →
      s₁.heap.get? fa = some o → o.data = .func (docDef d.name d.params d.body d.scope pm cd doc) → s₁.heap.CodeRec cd d.name → mg d.name = some (.ref fa) →
      s₁.heap.get? a = some { cls := .type "list", data := .seq vs.toArray } → IntsAre vs ns → ns.length ≤ n → s₁.gens = #[] →
      codeAny (model l.prog w) callerA (.call (.ref fa) ⟨[.ref a], []⟩) (fun r s' => r = .ok (.ret (.bool true)) ∧ OldK s₁.heap s'.heap ∧ s'.os = s₁.os ∧ AllBare s'.gens) s₁) :
    WalkO q loose XP YP l.row.toRowW d [] (fun f vs => PySem.call f vs) := by
  intro w s₀ s₁ mg mb G Y fa o pm cd doc dV kV ho hd hcd hD hmg hg args vals as hpre hlay hrd hwl hlo
  obtain rfl : dV = .none := Dflts.none hD hdf
  obtain rfl : kV = .none := Dflts.noKw hD
  obtain ⟨a, vs, ns, rfl, rfl, hobj, hints, hlen⟩ := script_of hn hpre hwl
  refine enter_call (codeAny_mono (call w s₀ s₁ mg mb fa o pm cd doc a vs ns G Y ho (fd_plain hd) hcd hmg hobj hints hlen hg) fun r s' hq => ?_)
  obtain ⟨rfl, h2, h3, h4⟩ := hq
  exact ⟨.inl ⟨.bool true, .bool true, [], rfl, fun _ => rfl, .bool true, post_true l _, fun _ => ⟨List.Pairwise.nil, fun _ hm => (nomatch hm)⟩⟩, h2, h3, h4⟩

section
variable {prog : Program} {w : World} {A : Around} {E : Value → Shared → Prop} {s : Shared} {K : Frag}

end
end Att

namespace L2
open PySem PySem.Spec PyProof.Rows

theorem vals_ints : ∀ {vs : List Value} {ns : List Int}, IntsAre vs ns → Vals (ns.map V.int) vs
  | _, _, .nil => .nil
  | _, _, .cons n t h => .cons ⟨t, rfl⟩ (vals_ints h)

/-- nothing is tracked but the script, known to the object (or it is an object of the module) -/
def Only (H : Hp) : Prop := ∀ b, H b = none ∨ ∃ o xs, H b = some (.frz o (.lst xs))

/-- THE HEAD: the law's promise, at the heap behind the top. F, the promise of the law's def, may use that base is part of the heap (so K.In base, base.Ns mainGlobals mg stand in Mod) -/
theorem law_call {P : Program} {w : World} {K : PySem.W.Frag} {mg mb : Str → Option Value} {CX : CXT} {k : Nat} {fa a : Addr} {fd : FuncData} {x : Str} {sp : Sp} {s₁ : Shared} {vs : List Value} {ns : List Int}
    (KX : K.In s₁.heap) (hns : s₁.heap.Ns mainGlobals mg) (hb : s₁.heap.Ns builtinsNs mb) (hbb : ∀ x : Str, x ≠ "__name__" → mb x = bootBuiltins x) (hlim : s₁.heap.NoLimit) (hg : s₁.gens = #[])
    (ha : s₁.heap.get? a = some { cls := .type "list", data := .seq vs.toArray }) (hi : IntsAre vs ns) (hl : ns.length ≤ sizeLine) (hr : Room k callerA)
    (F : ∀ base : Heap, K.In base → base.Ns mainGlobals mg → FnOk P w K mg base CX k fa fd [x] sp) (hbind : ∀ (s : Shared) (u : Value), BindsTo s fd ⟨[u], []⟩ [(x, u)])
    (hsp : ∀ H : Hp, Only H → SqL K H a (ns.map V.int) → sp [.ref a] H (fun v _ => v = .bl true) fun _ _ _ => False)
    (hCX : ∀ H e s', CX [] H s₁ (fun _ _ _ => False) e s' → False) :
    codeAny (model P w) callerA (.call (.ref fa) ⟨[.ref a], []⟩) (fun r s' => r = .ok (.ret (.bool true)) ∧ OldK s₁.heap s'.heap ∧ s'.os = s₁.os ∧ AllBare s'.gens) s₁ := by
  have rv := vals_ints hi
  have lenV := hi.length
  -- from an abstract heap in which nothing but the script may be tracked
  have core : ∀ H : Hp, Only H → SqL K H a (ns.map V.int) → HOk P w H s₁.heap → (∀ b, H b ≠ none → b = a) → (H a ≠ none → K.lookup a = none) →
      codeAny (model P w) callerA (.call (.ref fa) ⟨[.ref a], []⟩) (fun r s' => r = .ok (.ret (.bool true)) ∧ OldK s₁.heap s'.heap ∧ s'.os = s₁.os ∧ AllBare s'.gens) s₁ := by
    intro H hO hS hok hA hK
    have base_of : ∀ {b : Addr} {o : Obj}, s₁.heap.get? b = some o → H b = none → (hidT s₁.heap H).get? b = some o := fun e n => hidT_get e n
    have noA : ∀ {b : Addr} {o : Obj} {es : Array DictEntry} {ep : Nat}, s₁.heap.get? b = some o → o.data = .dict es ep → H b = none := fun {b o es ep} e d => by
      cases q : H b with
      | none => rfl
      | some u =>
        have e' : b = a := hA b (by rw [q]; simp)
        subst e'
        rw [ha] at e; cases e
        have d' : Data.seq vs.toArray _ = Data.dict es ep := d
        cases d'
    have nsK : ∀ {b : Addr} {m : Str → Option Value}, s₁.heap.Ns b m → (hidT s₁.heap H).Ns b m := fun {b m} ⟨o, es, ep, e, d, r⟩ => ⟨o, es, ep, base_of e (noA e d), d, r⟩
    have hKb : K.In (hidT s₁.heap H) := fun b o e => base_of (KX b o e) (by
      cases q : H b with
      | none => rfl
      | some u =>
        have e' : b = a := hA b (by rw [q]; simp)
        subst e'
        rw [hK (by rw [q]; simp)] at e; cases e)
    have hM : Mod K mg (hidT s₁.heap H) := ⟨hKb, nsK hns, ⟨mb, nsK hb, hbb⟩, let ⟨mc, h1, h2⟩ := hlim; ⟨mc, nsK h1, h2⟩⟩
    have e0 : Env0 P w K mg (hidT s₁.heap H) callerA [] s₁ H := ⟨rfl, hM, fun b o e => of_hidT e, Nat.le_of_eq (hidT_size _ _), trivial, fun b hb => absurd (show b ∈ ([] : List Addr) from hb) (by simp), hok, .of_eq hg⟩
    refine codeAny_mono ((F _ hKb (nsK hns)).run callerA [] s₁ H ⟨[.ref a], []⟩ [.ref a] [.ref a] _ _ hr e0 (hbind s₁ (.ref a)) (.cons rfl .nil) (hsp H hO hS)) fun r s' h => ?_
    cases r with
    | error e => exact (hCX H e s' h).elim
    | ok fl =>
      cases fl with
      | next => exact False.elim h
      | brk => exact False.elim h
      | cont => exact False.elim h
      | ret u =>
        obtain ⟨v, H', os, bare, un, hok', r', q⟩ := h
        have q' : v = .bl true := q
        subst q'
        obtain rfl : u = Value.bool true := r'
        refine ⟨rfl, OldK.of_keep fun b o e => ?_, os, bare⟩
        cases q : H b with
        | none => exact un.keep b o e q (by intro z; exact absurd (show b ∈ ([] : List Addr) from z) (by simp)) (by simp)
        | some u =>
          rcases hO b with z | ⟨ob, xs, z⟩
          · rw [q] at z; cases z
          · have z2 := un.frzs b ob _ z
            obtain ⟨e1, _⟩ := hok b _ z
            obtain ⟨e2, _⟩ := hok' b _ z2
            rw [e] at e1; cases e1
            exact e2
  cases hk : K.lookup a with
  | some o =>
    -- the script is one of the module's own objects
    have e := KX a o hk
    rw [ha] at e
    cases e
    refine core (fun _ => none) (fun _ => .inl rfl) (.inr ⟨_, vs.toArray, _, hk, rfl, rfl, rfl, by rw [List.size_toArray, lenV]; exact hl, by simpa using rv⟩) (fun b u z => by have z' : (none : Option HO) = some u := z; cases z') (fun b z => absurd rfl z) fun z => absurd rfl z
  | none =>
    refine core (fun b => if b = a then some (.frz { cls := .type "list", data := .seq vs.toArray } (.lst (ns.map V.int))) else none) (fun b => ?_) (.inl (.inr ⟨{ cls := .type "list", data := .seq vs.toArray }, if_pos rfl⟩)) (fun b u z => ?_) (fun b z => ?_) fun _ => hk
    · by_cases hb : b = a
      · exact .inr ⟨_, _, if_pos hb⟩
      · exact .inl (if_neg hb)
    · by_cases hb : b = a
      · have z' := (if_pos hb).symm.trans z
        cases z'
        subst hb
        exact ⟨ha, by rw [List.length_map]; exact hl, vs, _, rv, ha⟩
      · have z' := (if_neg hb).symm.trans z
        cases z'
    · by_cases hb : b = a
      · exact hb
      · exact absurd (if_neg hb) z
end L2

namespace L2
open PySem PySem.Spec PyProof.Rows

/-- the goal that k_head leaves (case hc), from the law's promise. F gives the function object fd (K's own) once, then the promise over every base -/
theorem walk_of {l : PySem.W.OpenLaw} {n k : Nat} {q : Program} {loose : List Str} {XP : (Str → Option Value) → Heap → Prop} {YP : World → Heap → Prop} {d : DefRec} {K : Params → PySem.W.Frag} {CX : World → CXT} {sp : World → Sp} {x : Str}
    (hn : l.most = some n) (hn2 : n ≤ sizeLine) (hdf : d.params.defaults = []) (hr : Room k callerA)
    (hY : ∀ (w : World) (h : Heap), YP w h → (K w.params).In h)
    (F : ∀ (w : World) (mg : Str → Option Value) (fa : Addr) (h : Heap), (K w.params).In h → h.Ns mainGlobals mg → mg d.name = some (.ref fa) →
      ∃ fd : FuncData, (∀ (s : Shared) (u : Value), BindsTo s fd ⟨[u], []⟩ [(x, u)]) ∧
        ∀ base : Heap, (K w.params).In base → base.Ns mainGlobals mg → FnOk l.prog w (K w.params) mg base (CX w) k fa fd [x] (sp w))
    (hsp : ∀ (w : World) (H : Hp) (a : Addr) (ns : List Int), ns.length ≤ n → Only H → SqL (K w.params) H a (ns.map V.int) → sp w [.ref a] H (fun v _ => v = .bl true) fun _ _ _ => False)
    (hCX : ∀ (w : World) (H : Hp) (s : Shared) (e : Value) (s' : Shared), CX w [] H s (fun _ _ _ => False) e s' → False) :
    PySem.W.WalkO q loose XP YP l.row.toRowW d [] (fun f vs => PySem.call f vs) := by
  refine Att.attach_call hn hdf fun w s₀ s₁ mg mb fa o pm cd doc a vs ns G Y ho hd hcd hmg hobj hints hlen hg => ?_
  have KX := hY w _ Y
  obtain ⟨fd, hb, hF⟩ := F w mg fa _ KX G.T.g hmg
  exact law_call KX G.T.g G.T.b G.T.builtins G.T.nolimit hg hobj hints (Nat.le_trans hlen hn2) hr hF hb (fun H hO hS => hsp w H a ns hlen hO hS) fun H e s' => hCX w H s₁ e s'
end L2


namespace L2
open PySem PySem.Spec PyProof.Rows

def defArgs (s : Stmt) : Arguments := match s with
  | .FunctionDef _ a _ _ _ _ _ _ _ _ => a
  | _ => { posonlyargs := [], args := [], vararg := none, kwonlyargs := [], kw_defaults := [], kwarg := none, defaults := [] }
def defBody (s : Stmt) : List Stmt := match s with
  | .FunctionDef _ _ b _ _ _ _ _ _ _ => b
  | _ => []
def defScope (s : Stmt) : Scope := match s with
  | .FunctionDef _ _ _ _ _ _ sc _ _ _ => sc
  | _ => { kind := .function, names := [], isGenerator := false, isCoroutine := false }

abbrev CX0 : CXT := fun _ _ _ _ _ _ => False
abbrev E0 : XK := fun _ _ _ => False
theorem pass0 {X : Cx} : Passes CX0 X E0 := fun _ _ _ _ _ _ _ h => h.elim

structure Fun (K : PySem.W.Frag) (x qual : Str) (st : Stmt) (f : Addr) (fd : FuncData) : Prop where
  ex : ∃ (oc : Value) (od : Option Addr) (kV doc pm : Value) (an : Option Addr) (cdv ct : Value) (osl : Array (Option Value)),
    fd = PySem.W.fnOf x qual (defArgs st) (defBody st) (defScope st) .none kV doc pm an cdv ct ∧ K.lookup f = some ⟨oc, od, .func fd, osl⟩ ∧ PySem.W.codeIn K cdv qual = true
  kp : PySem.W.keepIn K (.ref f) = true
section
variable {P : Program} {w : World} {K : PySem.W.Frag} {mg : Str → Option Value} {base : Heap}
/-- THE RULE for a def: its body as a term of rules, and the reading of that term -/
theorem Fun.ok {x qual : Str} {st : Stmt} {f : Addr} {fd : FuncData} {N ps : List Str} {k : Nat} {sp : Sp} (F : Fun K x qual st f fd) (S : FnScope N ps (defScope st)) (len : ∀ vs H Q E, sp vs H Q E → vs.length = ps.length)
    (hbody : ∀ (cdv : Value) (A : Around) (outer : List Env) (s : Shared) (H : Hp) (vs : List V) (Q : VK) (E : XK), Room k (A.deeper (envOfC qual (defScope st) s.heap.objs.size f cdv)) → sp vs H Q E →
      ∃ t, PSs (cxOf CX0 P w K mg base N qual (defScope st) f cdv A outer s H E).nox (defBody st) t ∧ t { nx := fun _ H' => Q .non H', rt := Q } (start N vs) H) : FnOk P w K mg base CX0 (k + 1) f fd ps sp := by
  obtain ⟨oc, od, kV, doc, pm, an, cdv, ct, osl, rfl, lk, hcd⟩ := F.ex
  refine fn_of lk hcd S len fun A outer s H vs Q E hr hsp => ?_
  obtain ⟨t, h, q⟩ := hbody cdv A outer s H vs Q E hr hsp
  exact ⟨t, h.nox, q⟩
/-- how its arguments bind (no defaults): h is «fun _ _ _ _ _ _ us hl => match us, hl with | [_, _], _ => rfl», one _ a parameter -/
theorem Fun.binds {x qual : Str} {st : Stmt} {f : Addr} {fd : FuncData} {ps : List Str} (F : Fun K x qual st f fd)
    (h : ∀ (kV doc pm : Value) (an : Option Addr) (cdv ct : Value) (us : List Value), us.length = ps.length → bindArgs (PySem.W.fnOf x qual (defArgs st) (defBody st) (defScope st) .none kV doc pm an cdv ct) ⟨us, []⟩ = pure (ps.zip us)) : Binds K fd ps [] := by
  obtain ⟨oc, od, kV, doc, pm, an, cdv, ct, osl, rfl, lk, hcd⟩ := F.ex
  exact .all (h kV doc pm an cdv ct)
theorem fun_mk {x qual : Str} {st : Stmt} {f : Addr} {oc : Value} {od an : Option Addr} {osl : Array (Option Value)} {kV doc pm cdv ct : Value} (l : K.lookup f = some ⟨oc, od, .func (PySem.W.fnOf x qual (defArgs st) (defBody st) (defScope st) .none kV doc pm an cdv ct), osl⟩)
    (c : PySem.W.codeIn K cdv qual = true) (k : PySem.W.keepIn K (.ref f) = true) : Fun K x qual st f (PySem.W.fnOf x qual (defArgs st) (defBody st) (defScope st) .none kV doc pm an cdv ct) := ⟨⟨oc, od, kV, doc, pm, an, cdv, ct, osl, rfl, l, c⟩, k⟩
end
theorem small1000 {n : Nat} (h : n ≤ 1000) : n < sizeLine := Nat.lt_of_le_of_lt h (by decide)

section
variable {X : Cx}
theorem pv (i : Nat) {x : Str} {pos : Pos} (hN : X.N[i]? = some x := by rfl) (hv : Vis X.env.scope x := by first | exact Or.inl rfl | exact Or.inr (Or.inl rfl) | exact Or.inr (Or.inr rfl)) (hd : (x == ("__debug__" : Str)) = false := by decide)
    (hcd : (x == ("__classdict__" : Str)) = false := by decide) : PE X (.Name x pos) (tVar i) := pe_var hN hv hd hcd
end

/-- all that was tracked is as it was -/
def Same (H H' : Hp) : Prop := ∀ b o, H b = some o → H' b = some o
theorem Same.refl (H : Hp) : Same H H := fun _ _ h => h
theorem Same.trans {H H1 H2 : Hp} (a : Same H H1) (b : Same H1 H2) : Same H H2 := fun c o h => b c o (a c o h)
theorem Same.free {H H' : Hp} (e : Same H H') {l : Addr} (h : H' l = Option.none) : H l = Option.none := by
  cases q : H l with
  | none => rfl
  | some o =>
    rw [e l o q] at h
    cases h
theorem Same.seq {K : PySem.W.Frag} {H H' : Hp} {a : Addr} {xs : List V} (e : Same H H') (h : SqL K H a xs) : SqL K H' a xs := by
  rcases h with (h | ⟨o, h⟩) | h
  · exact .inl (.inl (e _ _ h))
  · exact .inl (.inr ⟨o, e _ _ h⟩)
  · exact .inr h

end L2
end
section
set_option Elab.async false
set_option linter.all false
set_option maxRecDepth 100000
namespace L2
open PySem PySem.Spec PyProof.Rows

section
variable {κ : Type} [DecidableEq κ]
def valV (kvs : List (κ × V)) (k : κ) : Option V := (kvs.find? fun kv => decide (kv.1 = k)).map (·.2)
/-- in its place, or at the end -/
def putK (kvs : List (κ × V)) (k : κ) (v : V) : List (κ × V) :=
  if (kvs.any fun kv => decide (kv.1 = k)) = true then kvs.map (fun kv => if kv.1 = k then (kv.1, v) else kv) else kvs ++ [(k, v)]
def dropK (kvs : List (κ × V)) (k : κ) : List (κ × V) := kvs.filter fun kv => decide (kv.1 ≠ k)

theorem valV_pos {p : κ × V} {r : List (κ × V)} {k : κ} (e : p.1 = k) : valV (p :: r) k = some p.2 := by simp [valV, List.find?_cons, e]
theorem valV_neg {p : κ × V} {r : List (κ × V)} {k : κ} (e : ¬ p.1 = k) : valV (p :: r) k = valV r k := by simp [valV, List.find?_cons, e]
theorem valV_any (k : κ) : ∀ kvs : List (κ × V), (kvs.any fun kv => decide (kv.1 = k)) = (valV kvs k).isSome
  | [] => rfl
  | p :: r => by
    rw [List.any_cons]
    by_cases e : p.1 = k
    · simp only [valV_pos e, decide_eq_true e, Bool.true_or, Option.isSome_some]
    · rw [valV_neg e, decide_eq_false e, Bool.false_or]; exact valV_any k r
theorem RelO.isSome_eq {o : Option V} {u : Option Value} (r : RelO o u) : o.isSome = u.isSome := by
  cases o with
  | none => cases u with
    | none => rfl
    | some _ => exact (show False from r).elim
  | some _ => cases u with
    | none => exact (show False from r).elim
    | some _ => rfl
theorem RelO.getD {o : Option V} {u : Option Value} {d : V} {d' : Value} (r : RelO o u) (rd : RelV d d') : RelV (o.getD d) (u.getD d') := by
  cases o with
  | none => cases u with
    | none => exact rd
    | some _ => exact (show False from r).elim
  | some _ => cases u with
    | none => exact (show False from r).elim
    | some _ => exact r

/-- raw tables of the same keys -/
theorem KV.val {kvs : List (κ × V)} {vs : List (κ × Value)} (r : KV kvs vs) (k : κ) : RelO (valV kvs k) (valueAt vs k) := by
  unfold KV at r
  induction r with
  | nil => exact True.intro
  | @cons p q ps qs h t ih =>
    obtain ⟨h1, h2⟩ := h
    by_cases e : p.1 = k
    · have e' : q.1 = k := h1.symm.trans e
      have b : valueAt (q :: qs) k = some q.2 := by simp [valueAt, List.find?_cons, e']
      rw [valV_pos e, b]; exact h2
    · have e' : ¬ q.1 = k := fun z => e (h1.trans z)
      have b : valueAt (q :: qs) k = valueAt qs k := by simp [valueAt, List.find?_cons, e']
      rw [valV_neg e, b]; exact ih
theorem KV.any {kvs : List (κ × V)} {vs : List (κ × Value)} (r : KV kvs vs) (k : κ) : (kvs.any fun kv => decide (kv.1 = k)) = vs.any fun kv => decide (kv.1 = k) := by
  unfold KV at r
  induction r with
  | nil => rfl
  | cons h t ih => rw [List.any_cons, List.any_cons, ih, h.1]
theorem KV.repl {kvs : List (κ × V)} {vs : List (κ × Value)} (r : KV kvs vs) (k : κ) {y : V} {u : Value} (ry : RelV y u) :
    KV (kvs.map fun kv => if kv.1 = k then (kv.1, y) else kv) (vs.map fun kv => if kv.1 = k then (kv.1, u) else kv) := by
  unfold KV at r ⊢
  induction r with
  | nil => exact .nil
  | @cons p q ps qs h t ih =>
    rw [List.map_cons, List.map_cons]
    refine .cons ?_ ih
    obtain ⟨h1, h2⟩ := h
    by_cases e : p.1 = k
    · rw [if_pos e, if_pos (h1.symm.trans e)]; exact ⟨h1, ry⟩
    · rw [if_neg e, if_neg (fun z => e (h1.trans z))]; exact ⟨h1, h2⟩
theorem KV.put {kvs : List (κ × V)} {vs : List (κ × Value)} (r : KV kvs vs) (k : κ) {y : V} {u : Value} (ry : RelV y u) : KV (putK kvs k y) (stored vs k u) := by
  unfold putK stored
  rw [r.any k]
  by_cases e : (vs.any fun kv => decide (kv.1 = k)) = true
  · rw [if_pos e, if_pos e]; exact r.repl k ry
  · rw [if_neg e, if_neg e]; exact Paired.snoc r ⟨rfl, ry⟩
theorem KV.drop {kvs : List (κ × V)} {vs : List (κ × Value)} (r : KV kvs vs) (k : κ) : KV (dropK kvs k) (without vs k) := by
  unfold KV at r ⊢
  unfold dropK without
  induction r with
  | nil => exact .nil
  | @cons p q ps qs h t ih =>
    obtain ⟨h1, h2⟩ := h
    rw [List.filter_cons, List.filter_cons]
    by_cases e : p.1 = k
    · have a : ¬ decide (p.1 ≠ k) = true := by simp [e]
      have b : ¬ decide (q.1 ≠ k) = true := by simp [h1.symm.trans e]
      rw [if_neg a, if_neg b]; exact ih
    · have e' : ¬ q.1 = k := fun z => e (h1.trans z)
      have a : decide (p.1 ≠ k) = true := by simp [e]
      have b : decide (q.1 ≠ k) = true := by simp [e']
      rw [if_pos a, if_pos b]; exact .cons ⟨h1, h2⟩ ih
theorem KV.keys {kvs : List (κ × V)} {vs : List (κ × Value)} (r : KV kvs vs) : kvs.map (·.1) = vs.map (·.1) := by
  unfold KV at r
  induction r with
  | nil => rfl
  | cons h t ih => rw [List.map_cons, List.map_cons, ih, h.1]
theorem KV.length {kvs : List (κ × V)} {vs : List (κ × Value)} (r : KV kvs vs) : kvs.length = vs.length := Paired.length r
end


/-- raw entries of a dict with tuple keys -/
abbrev KT (H : Hp) : List (List Key × V) → List (List Key × Addr × Value) → Prop := Paired fun p q => p.1 = q.1 ∧ H q.2.1 = some (.tup (p.1.map kV)) ∧ RelV p.2 q.2.2
theorem KT.val {H : Hp} {kvs : List (List Key × V)} {xs : List (List Key × Addr × Value)} (r : KT H kvs xs) (k : List Key) : RelO (valV kvs k) ((atKey xs k).map (·.2)) := by
  induction r with
  | nil => exact True.intro
  | @cons p q ps qs h t ih =>
    obtain ⟨h1, _, h2⟩ := h
    by_cases e : p.1 = k
    · have e' : q.1 = k := h1.symm.trans e
      have b : atKey (q :: qs) k = some q.2 := by simp [atKey, List.find?_cons, e']
      rw [valV_pos e, b]; exact h2
    · have e' : ¬ q.1 = k := fun z => e (h1.trans z)
      have b : atKey (q :: qs) k = atKey qs k := by simp [atKey, List.find?_cons, e']
      rw [valV_neg e, b]; exact ih
theorem KT.repl {H : Hp} {kvs : List (List Key × V)} {xs : List (List Key × Addr × Value)} (r : KT H kvs xs) (k : List Key) {y : V} {u : Value} (ry : RelV y u) :
    KT H (kvs.map fun kv => if kv.1 = k then (kv.1, y) else kv) (xs.map (putAt k u)) := by
  induction r with
  | nil => exact .nil
  | @cons p q ps qs h t ih =>
    rw [List.map_cons, List.map_cons]
    refine .cons ?_ ih
    obtain ⟨h1, h2, h3⟩ := h
    unfold putAt
    by_cases e : p.1 = k
    · rw [if_pos e, if_pos (h1.symm.trans e)]; exact ⟨h1, h2, ry⟩
    · rw [if_neg e, if_neg (fun z => e (h1.trans z))]; exact ⟨h1, h2, h3⟩
theorem KT.put {H : Hp} {kvs : List (List Key × V)} {xs : List (List Key × Addr × Value)} (r : KT H kvs xs) (k : List Key) {b : Addr} {y : V} {u : Value} (hb : H b = some (.tup (k.map kV))) (ry : RelV y u) :
    KT H (putK kvs k y) (storedH xs k b u) := by
  have e : (kvs.any fun kv => decide (kv.1 = k)) = (atKey xs k).isSome := by
    rw [valV_any, (r.val k).isSome_eq, Option.isSome_map]
  unfold putK storedH
  rw [e]
  by_cases q : (atKey xs k).isSome = true
  · rw [if_pos q, if_pos q]; exact r.repl k ry
  · rw [if_neg q, if_neg q]; exact Paired.snoc r ⟨rfl, hb, ry⟩
theorem KT.keeps {H H' : Hp} {kvs : List (List Key × V)} {xs : List (List Key × Addr × Value)} (r : KT H kvs xs) (ht : ∀ b ys, H b = some (.tup ys) → H' b = some (.tup ys)) : KT H' kvs xs :=
  Paired.mapP r fun _ _ z => ⟨z.1, ht _ _ z.2.1, z.2.2⟩

section
variable {P : Program} {w : World} {H : Hp} {h : Heap} {a : Addr}
end

/-- what the dict at a holds at the key y -/
def DGet (H : Hp) (a : Addr) (y : V) (r : Option V) : Prop :=
  (∃ kvs k, Rd H a (.dK kvs) ∧ y = kV k ∧ r = valV kvs k) ∨ ∃ kvs k b, Rd H a (.dT kvs) ∧ y = .ref b ∧ H b = some (.tup (k.map kV)) ∧ r = valV kvs k
/-- the heap behind a[y] = v -/
def DPut (H : Hp) (a : Addr) (y v : V) (H' : Hp) : Prop :=
  (∃ kvs k, H a = some (.dK kvs) ∧ y = kV k ∧ kvs.length < sizeLine ∧ H' = upd H a (.dK (putK kvs k v))) ∨
  ∃ kvs k b, H a = some (.dT kvs) ∧ y = .ref b ∧ H b = some (.tup (k.map kV)) ∧ kvs.length < sizeLine ∧ H' = upd H a (.dT (putK kvs k v))
theorem DGet.k {H : Hp} {a : Addr} {kvs : List (Key × V)} {k : Key} (e : H a = some (.dK kvs)) : DGet H a (kV k) (valV kvs k) := .inl ⟨kvs, k, .inl e, rfl, rfl⟩
theorem DGet.t {H : Hp} {a b : Addr} {kvs : List (List Key × V)} {k : List Key} (e : H a = some (.dT kvs)) (eb : H b = some (.tup (k.map kV))) : DGet H a (.ref b) (valV kvs k) := .inr ⟨kvs, k, b, .inl e, rfl, eb, rfl⟩
theorem DPut.k {H : Hp} {a : Addr} {kvs : List (Key × V)} {k : Key} {v : V} (e : H a = some (.dK kvs)) (hl : kvs.length < sizeLine) : DPut H a (kV k) v (upd H a (.dK (putK kvs k v))) := .inl ⟨kvs, k, e, rfl, hl, rfl⟩
theorem DPut.t {H : Hp} {a b : Addr} {kvs : List (List Key × V)} {k : List Key} {v : V} (e : H a = some (.dT kvs)) (eb : H b = some (.tup (k.map kV))) (hl : kvs.length < sizeLine) :
    DPut H a (.ref b) v (upd H a (.dT (putK kvs k v))) := .inr ⟨kvs, k, b, e, rfl, eb, hl, rfl⟩


section
variable {X : Cx} {pins : List (Addr × Obj)} {σ : St} {H : Hp} {s : Shared} {a : Addr} {y v : V} {u r : Value} {o : Option V} {A : Around} {E : Value → Shared → Prop}

end

section
variable {X : Cx} {pins : List (Addr × Obj)} {σ : St} {H : Hp} {s : Shared} {a : Addr} {kvs : List (Key × V)} {k : Key} {u : Value} {A : Around} {E : Value → Shared → Prop}
end


section
variable {X : Cx} {o i e value : Expr} {pos pos' tpos : Pos} {td ty tv : TE}
end


section
variable {X : Cx} {pos : Pos}
end

def mergeK (kvs more : List (Key × V)) : List (Key × V) := more.foldl (fun acc kv => putK acc kv.1 kv.2) kvs
section
variable {X : Cx} {pins : List (Addr × Obj)} {σ : St} {H : Hp} {s : Shared} {a : Addr} {y d : V} {u r : Value} {o : Option V} {A : Around} {E : Value → Shared → Prop}
end

section
variable {X : Cx} {o e f : Expr} {apos cpos : Pos} {td ty tx : TE}
end

section
variable {X : Cx} {pins : List (Addr × Obj)} {σ : St} {H : Hp} {s : Shared} {a : Addr} {kvs : List (Key × V)} {A : Around} {E : Value → Shared → Prop}
end


section
variable {X : Cx} {pins : List (Addr × Obj)} {σ : St} {H : Hp} {s : Shared} {a : Addr} {y : V} {u : Value} {A : Around} {E : Value → Shared → Prop}
end
end L2
end
section
set_option linter.all false
namespace FD
open PySem

abbrev D := PyData
abbrev En := List (Option D)
abbrev FE := En → Option D
abbrev FT := En → Option Bool
abbrev FA := En → Option (List D)

@[simp] theorem bind_ite {α β : Type} {c : Prop} [Decidable c] (a b : Option α) (f : α → Option β) : (if c then a else b).bind f = if c then a.bind f else b.bind f := by split <;> rfl
@[simp] def eVar (i : Nat) : FE := fun ρ => (ρ[i]?).bind id
@[simp] def eC (d : D) : FE := fun _ => some d
@[simp] def eUn (g : D → Option D) (a : FE) : FE := fun ρ => (a ρ).bind g
@[simp] def eBin (g : D → D → Option D) (a b : FE) : FE := fun ρ => (a ρ).bind fun x => (b ρ).bind fun y => g x y
@[simp] def aNil : FA := fun _ => some []
@[simp] def aCons (a : FE) (r : FA) : FA := fun ρ => (a ρ).bind fun x => (r ρ).bind fun xs => some (x :: xs)
@[simp] def few (xs : List D) : Bool := decide (xs.length ≤ 1000)
@[simp] def eTup (a : FA) : FE := fun ρ => (a ρ).bind fun xs => if few xs then some (.tuple xs) else none
@[simp] def eLst (a : FA) : FE := fun ρ => (a ρ).bind fun xs => if few xs then some (.list xs) else none
@[simp] def eCall (F : List D → Option D) (a : FA) : FE := fun ρ => (a ρ).bind F
@[simp] def boolOf : D → Option Bool
  | .bool b => some b
  | _ => none
@[simp] def eAnd (a b : FE) : FE := fun ρ => ((a ρ).bind boolOf).bind fun c => if c then b ρ else some (.bool false)
@[simp] def eOr (a b : FE) : FE := fun ρ => ((a ρ).bind boolOf).bind fun c => if c then some (.bool true) else b ρ
@[simp] def eNot (a : FE) : FE := fun ρ => ((a ρ).bind boolOf).bind fun c => some (.bool (!c))
@[simp] def tVal (a : FE) : FT := fun ρ => (a ρ).bind boolOf
@[simp] def tAnd (a b : FT) : FT := fun ρ => (a ρ).bind fun c => if c then b ρ else some false
@[simp] def tOr (a b : FT) : FT := fun ρ => (a ρ).bind fun c => if c then some true else b ρ
@[simp] def tNot (a : FT) : FT := fun ρ => (a ρ).bind fun c => some (!c)
@[simp] def eIf (t : FT) (a b : FE) : FE := fun ρ => (t ρ).bind fun c => if c then a ρ else b ρ

def okEq (x y : D) : Bool := x.canLay0 && y.canLay0 && decide (min x.depth y.depth ≤ 60)
def eqD (x y : D) : Option D := if okEq x y then some (.bool (x.eqv y)) else none
def neD (x y : D) : Option D := if okEq x y then some (.bool (!x.eqv y)) else none
@[simp] def cmpD (p : Int → Int → Bool) : D → D → Option D
  | .int i, .int j => some (.bool (p i j))
  | _, _ => none
@[simp] def ltD := cmpD fun i j => decide (i < j)
@[simp] def leD := cmpD fun i j => decide (i ≤ j)
@[simp] def gtD := cmpD fun i j => decide (j < i)
@[simp] def geD := cmpD fun i j => decide (j ≤ i)
@[simp] def isND : D → Option D
  | .none => some (.bool true)
  | _ => some (.bool false)
@[simp] def notND : D → Option D
  | .none => some (.bool false)
  | _ => some (.bool true)
@[simp] def seqOf : D → Option (List D)
  | .list xs => some xs
  | .tuple xs => some xs
  | _ => none
def okIn (x : D) (xs : List D) : Bool := x.canLay0 && PyData.canLayAll0 xs && decide (x.depth ≤ 60)
def inD (x y : D) : Option D := (seqOf y).bind fun xs => if okIn x xs then some (.bool (xs.any fun z => PyData.eqv z x)) else none
def notInD (x y : D) : Option D := (seqOf y).bind fun xs => if okIn x xs then some (.bool (!xs.any fun z => PyData.eqv z x)) else none
def addD : D → D → Option D
  | .int i, .int j => some (.int (i + j))
  | .str x, .str y => if x.length + y.length ≤ 1000 then some (.str (x ++ y)) else none
  | .list xs, .list ys => if xs.length + ys.length ≤ 1000 then some (.list (xs ++ ys)) else none
  | .tuple xs, .tuple ys => if xs.length + ys.length ≤ 1000 then some (.tuple (xs ++ ys)) else none
  | _, _ => none
@[simp] def subD : D → D → Option D
  | .int i, .int j => some (.int (i - j))
  | _, _ => none
def okMul (i j : Int) : Bool := decide (i.natAbs < 18446744073709551616) || decide (j.natAbs < 18446744073709551616) || (decide (i.natAbs < 2 ^ 500) && decide (j.natAbs < 2 ^ 500))
def mulD : D → D → Option D
  | .int i, .int j => if okMul i j then some (.int (i * j)) else none
  | _, _ => none
def fdivD : D → D → Option D
  | .int i, .int j => if 0 < j ∧ j < 1073741824 then some (.int (i / j)) else none
  | _, _ => none
def modD : D → D → Option D
  | .int i, .int j => if 0 < j then some (.int (i % j)) else none
  | _, _ => none
@[simp] def negD : D → Option D
  | .int i => some (.int (-i))
  | _ => none
def at? {α : Type} (xs : List α) (i : Int) : Option α := if 0 ≤ i then xs[i.toNat]? else if -(xs.length : Int) ≤ i then xs[(i + xs.length).toNat]? else none
def chr1 (c : Nat) : D := .str ⟨#[c]⟩
@[simp] def ixD : D → D → Option D
  | .list xs, .int i => at? xs i
  | .tuple xs, .int i => at? xs i
  | .str z, .int i => if z.length ≤ 1000 then (at? z.cps.toList i).map chr1 else none
  | _, _ => none
def clip (n d : Nat) : Option Int → Nat
  | none => d
  | some v => if v < 0 then (v + n).toNat else min v.toNat n
def cut {α : Type} (xs : List α) (lo hi : Option Int) : List α := (xs.drop (clip xs.length 0 lo)).take (clip xs.length xs.length hi - clip xs.length 0 lo)
@[simp] def sliceD (x : D) (lo hi : Option Int) : Option D := match x with
  | .list xs => some (.list (cut xs lo hi))
  | .tuple xs => some (.tuple (cut xs lo hi))
  | .str z => if z.length ≤ 1000 then some (.str ⟨(cut z.cps.toList lo hi).toArray⟩) else none
  | _ => none
abbrev FO := En → Option (Option Int)
@[simp] def oNone : FO := fun _ => some none
@[simp] def intOf : D → Option Int
  | .int i => some i
  | _ => none
@[simp] def oSome (a : FE) : FO := fun ρ => ((a ρ).bind intOf).map some
@[simp] def eSlice (a : FE) (lo hi : FO) : FE := fun ρ => (a ρ).bind fun x => (lo ρ).bind fun l => (hi ρ).bind fun h => sliceD x l h
@[simp] def revD : D → Option D
  | .tuple xs => some (.tuple xs.reverse)
  | _ => none
@[simp] def lenD : List D → Option D
  | [.list xs] => some (.int xs.length)
  | [.tuple xs] => some (.int xs.length)
  | [.str z] => if z.length ≤ 1000 then some (.int z.length) else none
  | _ => none
@[simp] def absD : List D → Option D
  | [.int i] => some (.int (if i < 0 then -i else i))
  | _ => none
@[simp] def intD : List D → Option D
  | [.int i] => some (.int i)
  | [.bool k] => some (.int (if k then 1 else 0))
  | _ => none
@[simp] def listD : List D → Option D
  | [.list xs] => some (.list xs)
  | [.tuple xs] => some (.list xs)
  | _ => none
@[simp] def tupleD : List D → Option D
  | [.list xs] => some (.tuple xs)
  | [.tuple xs] => some (.tuple xs)
  | _ => none
@[simp] def maxD : List D → Option D
  | [.int i, .int j] => some (.int (if j > i then j else i))
  | _ => none
@[simp] def minD : List D → Option D
  | [.int i, .int j] => some (.int (if j < i then j else i))
  | _ => none
inductive Ty where | tup | lst | int | bool | str
@[simp] def isiB : Ty → D → Bool
  | .tup, .tuple _ => true
  | .lst, .list _ => true
  | .int, .int _ => true
  | .int, .bool _ => true
  | .bool, .bool _ => true
  | .str, .str _ => true
  | _, _ => false
@[simp] def plainD : D → Bool
  | .dict _ => false
  | _ => true
@[simp] def isiD (t : Ty) (x : D) : Option D := if plainD x then some (.bool (isiB t x)) else none
def findLR (c : Nat) : Int := if c = 108 then 0 else if c = 114 then 1 else -1
def findD : D → D → Option D
  | .str x, .str y => if x.cps = #[108, 114] then (match y.cps.toList with
    | [c] => some (.int (findLR c))
    | _ => none) else none
  | _, _ => none
def swS (x y : Str) : Bool := decide (0 + y.length ≤ x.length) && x.cps.extract 0 (0 + y.length) == y.cps
def swD : D → D → Option D
  | .str x, .str y => some (.bool (swS x y))
  | _, _ => none
def compGo (t : FT) (e : FE) (caps : En) : List D → Option (List D)
  | [] => some []
  | x :: r => (t (some x :: caps)).bind fun c => if c then (e (some x :: caps)).bind fun y => (compGo t e caps r).bind fun ys => some (y :: ys) else compGo t e caps r
@[simp] def tTrue : FT := fun _ => some true
def eComp (src : FE) (caps : List Nat) (t : FT) (e : FE) : FE := fun ρ => ((src ρ).bind seqOf).bind fun xs => if few xs then (compGo t e (caps.map fun i => (ρ[i]?).bind id) xs).map .list else none

inductive Out where
  | nx (ρ : En) | rt (d : D) | bk (ρ : En) | ct (ρ : En)
abbrev FS := En → Option Out
@[simp] def sNil : FS := fun ρ => some (.nx ρ)
@[simp] def sSeq (a b : FS) : FS := fun ρ => (a ρ).bind fun o => match o with
  | .nx ρ' => b ρ'
  | .rt d => some (.rt d)
  | .bk ρ' => some (.bk ρ')
  | .ct ρ' => some (.ct ρ')
@[simp] def sSet (i : Nat) (a : FE) : FS := fun ρ => (a ρ).bind fun d => some (.nx (ρ.set i (some d)))
@[simp] def setAll : List Nat → List D → En → En
  | i :: is, d :: ds, ρ => setAll is ds (ρ.set i (some d))
  | _, _, ρ => ρ
@[simp] def tupOf : D → Option (List D)
  | .tuple xs => some xs
  | _ => none
@[simp] def sUnp (is : List Nat) (a : FE) : FS := fun ρ => ((a ρ).bind tupOf).bind fun xs => if xs.length = is.length then some (.nx (setAll is xs ρ)) else none
@[simp] def sIf (t : FT) (a b : FS) : FS := fun ρ => (t ρ).bind fun c => if c then a ρ else b ρ
@[simp] def sRet (a : FE) : FS := fun ρ => (a ρ).bind fun d => some (.rt d)
@[simp] def sBrk : FS := fun ρ => some (.bk ρ)
@[simp] def sCnt : FS := fun ρ => some (.ct ρ)
def chars (z : Str) : List D := z.cps.toList.map chr1
def forGo (i : Nat) (body : FS) : List D → En → Option Out
  | [], ρ => some (.nx ρ)
  | x :: r, ρ => (body (ρ.set i (some x))).bind fun o => match o with
    | .nx ρ' => forGo i body r ρ'
    | .ct ρ' => forGo i body r ρ'
    | .bk ρ' => some (.nx ρ')
    | .rt d => some (.rt d)
@[simp] def sForSeq (i : Nat) (src : FE) (body : FS) : FS := fun ρ => ((src ρ).bind seqOf).bind fun xs => forGo i body xs ρ
@[simp] def strOf : D → Option Str
  | .str z => some z
  | _ => none
@[simp] def sForStr (i : Nat) (src : FE) (body : FS) : FS := fun ρ => ((src ρ).bind strOf).bind fun z => forGo i body (chars z) ρ
@[simp] def start (n : Nat) (ds : List D) : En := ds.map some ++ List.replicate (n - ds.length) none
@[simp] def retOf : Out → Option D
  | .rt d => some d
  | .nx _ => some .none
  | _ => none
@[simp] def bodyF (n np : Nat) (s : FS) (ds : List D) : Option D := if ds.length = np then (s (start n ds)).bind retOf else none
end FD
end
section
set_option Elab.async false
set_option linter.all false
set_option maxRecDepth 100000
set_option maxHeartbeats 4000000
namespace FD
open PySem PySem.Spec PyProof.Rows L2

abbrev St := L2.St
mutual
inductive Rep (K : PySem.W.Frag) (H : Hp) : V → D → Prop
  | non : Rep K H .non .none
  | bl (b : Bool) : Rep K H (.bl b) (.bool b)
  | int (i : Int) : Rep K H (.int i) (.int i)
  | str (x : Str) : Rep K H (.str x) (.str x)
  | lst {a : Addr} {xs : List V} {ds : List D} : SqL K H a xs → Reps K H xs ds → Rep K H (.ref a) (.list ds)
  | tup {a : Addr} {xs : List V} {ds : List D} : SqT K H a xs → Reps K H xs ds → Rep K H (.ref a) (.tuple ds)
inductive Reps (K : PySem.W.Frag) (H : Hp) : List V → List D → Prop
  | nil : Reps K H [] []
  | cons {v : V} {d : D} {vs : List V} {ds : List D} : Rep K H v d → Reps K H vs ds → Reps K H (v :: vs) (d :: ds)
end
theorem sqT_mono {K : PySem.W.Frag} {H H' : Hp} {a : Addr} {xs : List V} (e : Same H H') (h : SqT K H a xs) : SqT K H' a xs := by
  rcases h with (h | ⟨o, h⟩) | h
  · exact .inl (.inl (e _ _ h))
  · exact .inl (.inr ⟨o, e _ _ h⟩)
  · exact .inr h
mutual
theorem Rep.mono {K : PySem.W.Frag} {H H' : Hp} (e : Same H H') : ∀ {v : V} {d : D}, Rep K H v d → Rep K H' v d
  | _, _, .non => .non
  | _, _, .bl b => .bl b
  | _, _, .int i => .int i
  | _, _, .str x => .str x
  | _, _, .lst h r => .lst (e.seq h) (Reps.mono e r)
  | _, _, .tup h r => .tup (sqT_mono e h) (Reps.mono e r)
theorem Reps.mono {K : PySem.W.Frag} {H H' : Hp} (e : Same H H') : ∀ {vs : List V} {ds : List D}, Reps K H vs ds → Reps K H' vs ds
  | _, _, .nil => .nil
  | _, _, .cons h r => .cons (Rep.mono e h) (Reps.mono e r)
end
section
variable {X : Cx} {pins : List (Addr × Obj)} {σ : St} {H H' : Hp} {s : Shared}
mutual
theorem Rep.reads (I : Inv X pins σ H s) : ∀ {v : V} {d : D} {u : Value}, Rep X.K H v d → RelV v u → ∃ as, Reads s.heap u d as
  | _, _, _, .non, r => by cases r; exact ⟨_, .none⟩
  | _, _, _, .bl b, r => by cases r; exact ⟨_, .bool b⟩
  | _, _, _, .int i, r => by obtain ⟨t, rfl⟩ := r; exact ⟨_, .int i t⟩
  | _, _, _, .str x, r => by obtain ⟨t, rfl⟩ := r; exact ⟨_, .str x t⟩
  | _, _, _, .lst h q, r => by
    cases r
    obtain ⟨its, rv, ⟨o, n, e, c, _, d⟩, _⟩ := I.list h
    obtain ⟨as, ra⟩ := Reps.reads I q rv
    exact ⟨_, .list e c d (by simpa using ra)⟩
  | _, _, _, .tup h q, r => by
    cases r
    obtain ⟨its, rv, ⟨o, e, c, n, d⟩, _⟩ := I.tuple h
    obtain ⟨as, ra⟩ := Reps.reads I q rv
    exact ⟨_, .tuple e c d (by simpa using ra)⟩
theorem Reps.reads (I : Inv X pins σ H s) : ∀ {vs : List V} {ds : List D} {us : List Value}, Reps X.K H vs ds → Vals vs us → ∃ as, ReadsAll s.heap us ds as
  | _, _, _, .nil, r => by cases r; exact ⟨_, .nil⟩
  | _, _, _, .cons h q, r => by
    cases r with
    | cons r1 r2 =>
      obtain ⟨as, ra⟩ := Rep.reads I h r1
      obtain ⟨bs, rb⟩ := Reps.reads I q r2
      exact ⟨_, .cons ra rb⟩
end
end
theorem Reps.length {K : PySem.W.Frag} {H : Hp} : ∀ {vs : List V} {ds : List D}, Reps K H vs ds → vs.length = ds.length
  | _, _, .nil => rfl
  | _, _, .cons _ r => by simp [Reps.length r]
theorem Reps.get {K : PySem.W.Frag} {H : Hp} : ∀ {vs : List V} {ds : List D} {i : Nat} {d : D}, Reps K H vs ds → ds[i]? = some d → ∃ v, vs[i]? = some v ∧ Rep K H v d
  | _, _, _, _, .nil, e => by simp at e
  | _, _, 0, _, .cons h _, e => by simp at e; subst e; exact ⟨_, rfl, h⟩
  | _, _, i + 1, d, .cons _ r, e => by
    obtain ⟨v, h1, h2⟩ := Reps.get (i := i) (d := d) r (by simpa using e)
    exact ⟨v, by simpa using h1, h2⟩
theorem Reps.append {K : PySem.W.Frag} {H : Hp} : ∀ {xs ys : List V} {ds es : List D}, Reps K H xs ds → Reps K H ys es → Reps K H (xs ++ ys) (ds ++ es)
  | _, _, _, _, .nil, s => s
  | _, _, _, _, .cons h r, s => .cons h (Reps.append r s)
theorem Reps.take {K : PySem.W.Frag} {H : Hp} : ∀ {xs : List V} {ds : List D} (n : Nat), Reps K H xs ds → Reps K H (xs.take n) (ds.take n)
  | _, _, 0, _ => .nil
  | _, _, _ + 1, .nil => .nil
  | _, _, n + 1, .cons h r => .cons h (Reps.take n r)
theorem Reps.drop {K : PySem.W.Frag} {H : Hp} : ∀ {xs : List V} {ds : List D} (n : Nat), Reps K H xs ds → Reps K H (xs.drop n) (ds.drop n)
  | _, _, 0, r => r
  | _, _, _ + 1, .nil => .nil
  | _, _, n + 1, .cons _ r => Reps.drop n r
theorem Reps.reverse {K : PySem.W.Frag} {H : Hp} : ∀ {xs : List V} {ds : List D}, Reps K H xs ds → Reps K H xs.reverse ds.reverse
  | _, _, .nil => .nil
  | _, _, .cons h r => by
    simp only [List.reverse_cons]
    exact (Reps.reverse r).append (.cons h .nil)
theorem same_new {H : Hp} {p : Addr} (h : H p = none) (o : HO) : Same H (upd H p o) := fun b u q => by rw [upd_ne (ne_of_none q h)]; exact q

/-- the environment's data stand in the slots -/
def RepS (K : PySem.W.Frag) (H : Hp) (σ : St) (ρ : En) : Prop := ρ.length = σ.length ∧ ∀ (i : Nat) (d : D), ρ[i]? = some (some d) → ∃ v, σ[i]? = some (some v) ∧ Rep K H v d
theorem RepS.mono {K : PySem.W.Frag} {H H' : Hp} {σ : St} {ρ : En} (r : RepS K H σ ρ) (e : Same H H') : RepS K H' σ ρ :=
  ⟨r.1, fun i d h => let ⟨v, h1, h2⟩ := r.2 i d h; ⟨v, h1, h2.mono e⟩⟩
theorem RepS.set {K : PySem.W.Frag} {H : Hp} {σ : St} {ρ : En} {v : V} {d : D} (r : RepS K H σ ρ) (h : Rep K H v d) (i : Nat) : RepS K H (σ.set i (some v)) (ρ.set i (some d)) := by
  refine ⟨by simp [r.1], fun j e he => ?_⟩
  rw [List.getElem?_set] at he ⊢
  by_cases c : i = j
  · rw [if_pos c] at he ⊢
    by_cases hl : i < ρ.length
    · rw [if_pos hl] at he
      rw [if_pos (by rw [← r.1]; exact hl)]
      simp only [Option.some.injEq] at he
      subst he
      exact ⟨v, rfl, h⟩
    · rw [if_neg hl] at he; cases he
  · rw [if_neg c] at he ⊢
    exact r.2 j e he

/-- an end: the value bears the datum -/
def FP (X : Cx) (pins : List (Addr × Obj)) (σ : St) (H : Hp) (d : D) (u : Value) (s' : Shared) : Prop := ∃ v H', Inv X pins σ H' s' ∧ RelV v u ∧ Same H H' ∧ Rep X.K H' v d
def FExR (X : Cx) (e : Expr) (f : FE) : Prop :=
  ∀ (pins : List (Addr × Obj)) (s : Shared) (σ : St) (H : Hp) (ρ : En) (d : D), Inv X pins σ H s → RepS X.K H σ ρ → f ρ = some d → wpAny (model X.prog X.w) X.A (eval e X.env) (FP X pins σ H d) X.xe s
structure FEx (X : Cx) (e : Expr) (f : FE) : Prop where
  go : FExR X e f
instance {X : Cx} {e : Expr} {f : FE} : CoeFun (FEx X e f) (fun _ => FExR X e f) := ⟨fun h => h.go⟩
def TPx (X : Cx) (pins : List (Addr × Obj)) (σ : St) (H : Hp) (b : Bool) (c : Bool) (s' : Shared) : Prop := c = b ∧ ∃ H', Inv X pins σ H' s' ∧ Same H H'
def FTxR (X : Cx) (e : Expr) (f : FT) : Prop :=
  ∀ (pins : List (Addr × Obj)) (s : Shared) (σ : St) (H : Hp) (ρ : En) (b : Bool), Inv X pins σ H s → RepS X.K H σ ρ → f ρ = some b → wpAny (model X.prog X.w) X.A (isTrue e X.env (eval e X.env)) (TPx X pins σ H b) X.xe s
structure FTx (X : Cx) (e : Expr) (f : FT) : Prop where
  go : FTxR X e f
instance {X : Cx} {e : Expr} {f : FT} : CoeFun (FTx X e f) (fun _ => FTxR X e f) := ⟨fun h => h.go⟩
def FWxR (X : Cx) (e : Expr) (f : FT) : Prop :=
  ∀ (whole : Sem Value) (pins : List (Addr × Obj)) (s : Shared) (σ : St) (H : Hp) (ρ : En) (b : Bool), Inv X pins σ H s → RepS X.K H σ ρ → f ρ = some b → wpAny (model X.prog X.w) X.A (isTrue e X.env whole) (TPx X pins σ H b) X.xe s
structure FWx (X : Cx) (e : Expr) (f : FT) : Prop where
  go : FWxR X e f
instance {X : Cx} {e : Expr} {f : FT} : CoeFun (FWx X e f) (fun _ => FWxR X e f) := ⟨fun h => h.go⟩
theorem FWx.pt {X : Cx} {e : Expr} {f : FT} (h : FWx X e f) : FTx X e f := ⟨h.go _⟩
def FPs (X : Cx) (pins : List (Addr × Obj)) (σ : St) (H : Hp) (ds : List D) (us : List Value) (s' : Shared) : Prop := ∃ vs H', Inv X pins σ H' s' ∧ Vals vs us ∧ Same H H' ∧ Reps X.K H' vs ds
def FAxR (X : Cx) (es : List Expr) (f : FA) : Prop :=
  ∀ (pos : Pos) (pins : List (Addr × Obj)) (s : Shared) (σ : St) (H : Hp) (ρ : En) (ds : List D), Inv X pins σ H s → RepS X.K H σ ρ → f ρ = some ds → wpAny (model X.prog X.w) X.A (spliced (backTo pos (starEach es X.env))) (FPs X pins σ H ds) X.xe s
structure FAx (X : Cx) (es : List Expr) (f : FA) : Prop where
  go : FAxR X es f
instance {X : Cx} {es : List Expr} {f : FA} : CoeFun (FAx X es f) (fun _ => FAxR X es f) := ⟨fun h => h.go⟩

/-- from the layer's reading -/
theorem FEx.of {X : Cx} {e : Expr} {f : FE} {t : TE} (h : PE X e t) (hq : ∀ σ H ρ d, RepS X.K H σ ρ → f ρ = some d → t σ H fun v H' => Same H H' ∧ Rep X.K H' v d) : FEx X e f :=
  ⟨fun pins s σ H ρ d I r ef => thn (h pins s σ H _ I (hq σ H ρ d r ef)) fun u s' ⟨v, H', I', rv, a, b⟩ => ⟨v, H', I', rv, a, b⟩⟩
/-- to the layer's reading -/
def tF (K : PySem.W.Frag) (f : FE) : TE := fun σ H Q => ∃ (ρ : En) (d : D), RepS K H σ ρ ∧ f ρ = some d ∧ ∀ v H', Same H H' → Rep K H' v d → Q v H'
theorem FEx.pe {X : Cx} {e : Expr} {f : FE} (h : FEx X e f) : PE X e (tF X.K f) := fun pins s σ H Q I ⟨ρ, d, r, ef, q⟩ =>
  thn (h pins s σ H ρ d I r ef) fun u s' ⟨v, H', I', rv, a, b⟩ => ⟨v, H', I', rv, q v H' a b⟩
def tFA (K : PySem.W.Frag) (f : FA) : TA := fun σ H Q => ∃ (ρ : En) (ds : List D), RepS K H σ ρ ∧ f ρ = some ds ∧ ∀ vs H', Same H H' → Reps K H' vs ds → Q vs H'
theorem FAx.pa {X : Cx} {es : List Expr} {f : FA} (h : FAx X es f) : PA X es (tFA X.K f) := fun pos pins s σ H Q I ⟨ρ, ds, r, ef, q⟩ =>
  thn (h pos pins s σ H ρ ds I r ef) fun us s' ⟨vs, H', I', rv, a, b⟩ => ⟨vs, H', I', rv, q vs H' a b⟩

section
variable {X : Cx} {a b : Expr} {fa fb : FE} {pos : Pos}

theorem fe_var (i : Nat) {x : Str} {pos : Pos} (hN : X.N[i]? = some x := by rfl) (hv : Vis X.env.scope x := by first | exact Or.inl rfl | exact Or.inr (Or.inl rfl) | exact Or.inr (Or.inr rfl)) (hd : (x == ("__debug__" : Str)) = false := by decide)
    (hcd : (x == ("__classdict__" : Str)) = false := by decide) : FEx X (.Name x pos) (eVar i) := by
  refine FEx.of (pe_var hN hv hd hcd) fun σ H ρ d r e => ?_
  have e' : ρ[i]? = some (some d) := by
    simp only [eVar] at e
    cases h : ρ[i]? with
    | none => rw [h] at e; cases e
    | some o => rw [h] at e; simp only [Option.bind_some, id] at e; rw [e]
  obtain ⟨v, h1, h2⟩ := r.2 i d e'
  exact ⟨v, h1, Same.refl _, h2⟩
theorem fe_c {e : Expr} {v : V} {d : D} (h : PE X e (tC v)) (hr : ∀ H, Rep X.K H v d) : FEx X e (eC d) := FEx.of h fun σ H ρ d' r e => by
  simp only [eC, Option.some.injEq] at e
  subst e
  exact ⟨Same.refl _, hr H⟩
theorem fe_int {i : Int} {j : Nat} {pos : Pos} : FEx X (.Constant (.int i) j pos) (eC (.int i)) := fe_c pe_int fun _ => .int i
theorem fe_bl {c : Bool} {j : Nat} {pos : Pos} : FEx X (.Constant (.bool c) j pos) (eC (.bool c)) := fe_c pe_bl fun _ => .bl c
theorem fe_non {j : Nat} {pos : Pos} : FEx X (.Constant .none j pos) (eC .none) := fe_c pe_non fun _ => .non
theorem fe_str {x : Str} {j : Nat} {pos : Pos} : FEx X (.Constant (.str x) j pos) (eC (.str x)) := fe_c pe_str fun _ => .str x
def OpD (X : Cx) (f : Value → Value → Sem Value) (g : D → D → Option D) : Prop :=
  ∀ (pins : List (Addr × Obj)) (s : Shared) (σ : St) (H : Hp) (x y : V) (u v : Value) (dx dy d : D), Inv X pins σ H s → RelV x u → RelV y v → Rep X.K H x dx → Rep X.K H y dy → g dx dy = some d →
    wpAny (model X.prog X.w) X.A (f u v) (FP X pins σ H d) X.xe s
theorem fin {pins : List (Addr × Obj)} {σ : St} {H : Hp} {s : Shared} {d : D} {t : Sem Value} (h : wpAny (model X.prog X.w) X.A t (EP X pins σ fun v H' => Same H H' ∧ Rep X.K H' v d) X.xe s) : wpAny (model X.prog X.w) X.A t (FP X pins σ H d) X.xe s :=
  thn h fun u s' ⟨v, H', I', rv, a, b⟩ => ⟨v, H', I', rv, a, b⟩
theorem OpD.of {f : Value → Value → Sem Value} {r : R2} {g : D → D → Option D} (h : OpR X f r) (hr : ∀ H x y dx dy d, Rep X.K H x dx → Rep X.K H y dy → g dx dy = some d → r x y H fun v H' => Same H H' ∧ Rep X.K H' v d) : OpD X f g :=
  fun pins s σ H x y u v dx dy d I rx ry px py e => fin (h pins s σ H x y u v _ I rx ry (hr H x y dx dy d px py e))
theorem fbin {g : D → D → Option D} {α : Type} (ha : FEx X a fa) (hb : FEx X b fb) {pins : List (Addr × Obj)} {s : Shared} {σ : St} {H : Hp} {ρ : En} {d : D} (I : Inv X pins σ H s) (r : RepS X.K H σ ρ) (e : eBin g fa fb ρ = some d)
    {Q : α → Shared → Prop} {f : Value → Value → Sem α}
    (hf : ∀ u v s2 x y H2 dx dy, Inv X pins σ H2 s2 → RelV x u → RelV y v → Same H H2 → Rep X.K H2 x dx → Rep X.K H2 y dy → g dx dy = some d → wpAny (model X.prog X.w) X.A (f u v) Q X.xe s2) :
    wpAny (model X.prog X.w) X.A (eval a X.env) (fun v s₁ => wpAny (model X.prog X.w) X.A (eval b X.env) (fun u s₂ => wpAny (model X.prog X.w) X.A (f v u) Q X.xe s₂) X.xe s₁) X.xe s := by
  simp only [eBin] at e
  obtain ⟨dx, ea, e⟩ := Option.bind_eq_some_iff.mp e
  obtain ⟨dy, eb, e⟩ := Option.bind_eq_some_iff.mp e
  refine thn (ha pins s σ H ρ dx I r ea) fun u s1 ⟨x, H1, I1, r1, m1, p1⟩ => ?_
  refine thn (hb pins s1 σ H1 ρ dy I1 (r.mono m1) eb) fun v s2 ⟨y, H2, I2, r2, m2, p2⟩ => ?_
  exact hf u v s2 x y H2 dx dy I2 r1 r2 (m1.trans m2) (p1.mono m2) p2 e
theorem FP.up {pins : List (Addr × Obj)} {σ : St} {H H2 : Hp} {d : D} {u : Value} {s' : Shared} (m : Same H H2) (h : FP X pins σ H2 d u s') : FP X pins σ H d u s' :=
  let ⟨v, H', I', rv, a, b⟩ := h; ⟨v, H', I', rv, m.trans a, b⟩
theorem fe_op {op : Operator} {g : D → D → Option D} (ho : OpD X (binaryOp op) g) (ha : FEx X a fa) (hb : FEx X b fb) : FEx X (.BinOp a op b pos) (eBin g fa fb) := by
  refine ⟨fun pins s σ H ρ d I r e => ?_⟩
  exact wpAny_BinOp (fbin ha hb I r e fun u v s2 x y H2 dx dy I2 rx ry m px py e' => thn (ho pins s2 σ H2 x y u v dx dy d I2 rx ry px py e') fun _ _ h => h.up m)
theorem fe_cmp {op : CmpOp} {g : D → D → Option D} (ho : OpD X (compareOp op) g) (ha : FEx X a fa) (hb : FEx X b fb) (hm : behindInMarks op b = false) : FEx X (.Compare a [op] [b] pos) (eBin g fa fb) := by
  refine ⟨fun pins s σ H ρ d I r e => ?_⟩
  exact wpAny_Compare1 (fbin ha hb I r e fun u v s2 x y H2 dx dy I2 rx ry m px py e' => thn (ho pins s2 σ H2 x y u v dx dy d I2 rx ry px py e') fun _ _ h => h.up m) hm
theorem tru {pins : List (Addr × Obj)} {σ : St} {H : Hp} {d : D} {b : Bool} {u : Value} {s' : Shared} (h : FP X pins σ H d u s') (e : boolOf d = some b) : wpAny (model X.prog X.w) X.A (truthy u) (TPx X pins σ H b) X.xe s' := by
  obtain ⟨v, H', I', rv, m, p⟩ := h
  cases p <;> simp only [boolOf] at e <;> try contradiction
  cases rv
  simp only [Option.some.injEq] at e
  subst e
  exact wpAny_truthy_bool ⟨rfl, H', I', m⟩
theorem ft_cmp {op : CmpOp} {g : D → D → Option D} (ho : OpD X (compareOp op) g) (ha : FEx X a fa) (hb : FEx X b fb) (hm : behindInMarks op b = false) : FTx X (.Compare a [op] [b] pos) (tVal (eBin g fa fb)) := by
  refine ⟨fun pins s σ H ρ c I r e => ?_⟩
  simp only [tVal] at e
  obtain ⟨d, ed, e⟩ := Option.bind_eq_some_iff.mp e
  exact wpAny_isTrue_Compare1 (fbin ha hb I r ed fun u v s2 x y H2 dx dy I2 rx ry m px py e' => thn (ho pins s2 σ H2 x y u v dx dy d I2 rx ry px py e') fun _ _ h => tru (h.up m) e) hm
/-- is None, is not None -/
theorem rep_non {K : PySem.W.Frag} {H : Hp} {x : V} {d : D} (p : Rep K H x d) : isND d = some (.bool (decide (x = .non))) ∧ notND d = some (.bool (!decide (x = .non))) := by
  cases p <;> simp [isND, notND]
theorem FTx.of {e : Expr} {f : FT} {t : TT} (h : PT X e t) (hq : ∀ σ H ρ b, RepS X.K H σ ρ → f ρ = some b → t σ H fun c H' => c = b ∧ Same H H') : FTx X e f :=
  ⟨fun pins s σ H ρ b I r ef => thn (h pins s σ H _ I (hq σ H ρ b r ef)) fun c s' ⟨H', I', a, m⟩ => ⟨a, H', I', m⟩⟩
theorem ft_isN {j : Nat} {pos' : Pos} (ha : FEx X a fa) : FTx X (.Compare a [.Is] [.Constant .none j pos'] pos) (tVal (eUn isND fa)) := by
  refine FTx.of (pt_cmp (pc_isN ha.pe) (nobehind _ (by decide) (by decide))) fun σ H ρ c r e => ?_
  simp only [tVal, eUn] at e
  obtain ⟨d, ed, e⟩ := Option.bind_eq_some_iff.mp e
  obtain ⟨dx, ea, ed⟩ := Option.bind_eq_some_iff.mp ed
  refine ⟨ρ, dx, r, ea, fun v H' m p => ?_⟩
  rw [(rep_non p).1] at ed
  cases ed
  simp only [boolOf, Option.some.injEq] at e
  exact ⟨_, rfl, e, m⟩
theorem ft_val {e : Expr} {f : FE} (h : FEx X e f) (he : ∀ whole, isTrue e X.env whole = (do let v ← whole; standAt e.pos; holding [v] (truthy v)) := by intro _; rfl) : FTx X e (tVal f) := by
  refine ⟨fun pins s σ H ρ c I r ef => ?_⟩
  simp only [tVal] at ef
  obtain ⟨d, ed, ef⟩ := Option.bind_eq_some_iff.mp ef
  exact isTrue_plain (thn (h pins s σ H ρ d I r ed) fun u s1 q => tru q ef) (he _)
variable {ta tb : FT} {rest : List Expr}
theorem TPx.up {pins : List (Addr × Obj)} {σ : St} {H H2 : Hp} {b c : Bool} {s' : Shared} (m : Same H H2) (h : TPx X pins σ H2 b c s') : TPx X pins σ H b c s' :=
  let ⟨e, H', I', a⟩ := h; ⟨e, H', I', m.trans a⟩
theorem fw_and1 (ha : FTx X a ta) : FWx X (.BoolOp .And [a] pos) ta := by
  refine ⟨fun wh pins s σ H ρ c I r e => ?_⟩
  refine isTrue_and (thn (ha pins s σ H ρ c I r e) fun c' s1 h => ?_)
  cases c' with
  | true => exact isTrue_and_nil h
  | false => exact h
theorem fw_or1 (ha : FTx X a ta) : FWx X (.BoolOp .Or [a] pos) ta := by
  refine ⟨fun wh pins s σ H ρ c I r e => ?_⟩
  refine isTrue_or (thn (ha pins s σ H ρ c I r e) fun c' s1 h => ?_)
  cases c' with
  | false => exact isTrue_or_nil h
  | true => exact h
theorem fw_and (ha : FTx X a ta) (hb : FWx X (.BoolOp .And (b :: rest) pos) tb) : FWx X (.BoolOp .And (a :: b :: rest) pos) (FD.tAnd ta tb) := by
  refine ⟨fun wh pins s σ H ρ c I r e => ?_⟩
  simp only [FD.tAnd] at e
  obtain ⟨c1, e1, e⟩ := Option.bind_eq_some_iff.mp e
  refine isTrue_and (thn (ha pins s σ H ρ c1 I r e1) fun c' s1 ⟨ec, H1, I1, m1⟩ => ?_)
  subst ec
  cases c' with
  | true => exact thn (hb wh pins s1 σ H1 ρ c I1 (r.mono m1) (by simpa using e)) fun _ _ h => h.up m1
  | false =>
    have e' : false = c := by simpa using e
    exact ⟨e', H1, I1, m1⟩
theorem fw_or (ha : FTx X a ta) (hb : FWx X (.BoolOp .Or (b :: rest) pos) tb) : FWx X (.BoolOp .Or (a :: b :: rest) pos) (FD.tOr ta tb) := by
  refine ⟨fun wh pins s σ H ρ c I r e => ?_⟩
  simp only [FD.tOr] at e
  obtain ⟨c1, e1, e⟩ := Option.bind_eq_some_iff.mp e
  refine isTrue_or (thn (ha pins s σ H ρ c1 I r e1) fun c' s1 ⟨ec, H1, I1, m1⟩ => ?_)
  subst ec
  cases c' with
  | false => exact thn (hb wh pins s1 σ H1 ρ c I1 (r.mono m1) (by simpa using e)) fun _ _ h => h.up m1
  | true =>
    have e' : true = c := by simpa using e
    exact ⟨e', H1, I1, m1⟩
theorem ft_not (ha : FTx X a ta) : FTx X (.UnaryOp .Not a pos) (FD.tNot ta) := by
  refine ⟨fun pins s σ H ρ c I r e => ?_⟩
  simp only [FD.tNot] at e
  obtain ⟨c1, e1, e⟩ := Option.bind_eq_some_iff.mp e
  simp only [Option.some.injEq] at e
  refine isTrue_not (thn (ha pins s σ H ρ c1 I r e1) fun c' s1 ⟨ec, H1, I1, m1⟩ => ?_)
  exact ⟨by rw [ec]; exact e, H1, I1, m1⟩
theorem fe_one {op : BoolOp} {f : FE} (h : FEx X a f) : FEx X (.BoolOp op [a] pos) f := ⟨fun pins s σ H ρ d I r e => BoolOp_one (h pins s σ H ρ d I r e)⟩
theorem of_boolOf {K : PySem.W.Frag} {H : Hp} {v : V} {d : D} {c : Bool} (p : Rep K H v d) (e : boolOf d = some c) : v = .bl c := by
  cases p <;> simp only [boolOf] at e <;> first | contradiction | (simp only [Option.some.injEq] at e; rw [e])
theorem fe_and (ha : FEx X a fa) (hb : FEx X (.BoolOp .And (b :: rest) pos) fb) : FEx X (.BoolOp .And (a :: b :: rest) pos) (eAnd fa fb) := by
  refine ⟨fun pins s σ H ρ d I r e => ?_⟩
  simp only [eAnd] at e
  obtain ⟨c, ec, e⟩ := Option.bind_eq_some_iff.mp e
  obtain ⟨dx, ea, ec⟩ := Option.bind_eq_some_iff.mp ec
  refine BoolOp_and (thn (ha pins s σ H ρ dx I r ea) fun u s1 ⟨x, H1, I1, r1, m1, p1⟩ => ?_)
  obtain rfl := of_boolOf p1 ec
  cases r1
  refine wpAny_truthy_bool ?_
  cases c with
  | true => exact thn (hb pins s1 σ H1 ρ d I1 (r.mono m1) (by simpa using e)) fun _ _ h => h.up m1
  | false =>
    have e' : PyData.bool false = d := by simpa using e
    subst e'
    exact ⟨.bl false, H1, I1, rfl, m1, .bl _⟩
theorem fe_ifExp {c : Expr} (hc : FTx X c ta) (ha : FEx X a fa) (hb : FEx X b fb) : FEx X (.IfExp c a b pos) (eIf ta fa fb) := by
  refine ⟨fun pins s σ H ρ d I r e => ?_⟩
  simp only [eIf] at e
  obtain ⟨c1, e1, e⟩ := Option.bind_eq_some_iff.mp e
  refine wpAny_IfExp (thn (hc pins s σ H ρ c1 I r e1) fun c' s1 ⟨ec, H1, I1, m1⟩ => ?_)
  subst ec
  cases c' with
  | true => exact thn (ha pins s1 σ H1 ρ d I1 (r.mono m1) (by simpa using e)) fun _ _ h => h.up m1
  | false => exact thn (hb pins s1 σ H1 ρ d I1 (r.mono m1) (by simpa using e)) fun _ _ h => h.up m1
end
end FD
end
section
set_option Elab.async false
set_option linter.all false
set_option maxRecDepth 100000
set_option maxHeartbeats 4000000
namespace FD
open PySem PySem.Spec PyProof.Rows L2
section
variable {X : Cx} {a b : Expr} {fa fb : FE} {pos : Pos}

theorem le_line {n : Nat} (h : n ≤ 1000) : n ≤ sizeLine := Nat.le_of_lt (small1000 h)
theorem fI {f : Value → Value → Sem Value} {C : Int → Int → Prop} {gv : Int → Int → V} {g : D → D → Option D} (h : OpR X f (rI C gv))
    (hg : ∀ H x y dx dy d, Rep X.K H x dx → Rep X.K H y dy → g dx dy = some d → ∃ i j, x = .int i ∧ y = .int j ∧ C i j ∧ Rep X.K H (gv i j) d) : OpD X f g :=
  OpD.of h fun H x y dx dy d px py e => let ⟨i, j, e1, e2, c, p⟩ := hg H x y dx dy d px py e; ⟨i, j, e1, e2, c, Same.refl _, p⟩
theorem fI0 {f : Value → Value → Sem Value} {gv : Int → Int → V} {g : D → D → Option D} (h : OpR X f (rI0 gv))
    (hg : ∀ H x y dx dy d, Rep X.K H x dx → Rep X.K H y dy → g dx dy = some d → ∃ i j, x = .int i ∧ y = .int j ∧ Rep X.K H (gv i j) d) : OpD X f g :=
  OpD.of h fun H x y dx dy d px py e => let ⟨i, j, e1, e2, p⟩ := hg H x y dx dy d px py e; ⟨i, j, e1, e2, Same.refl _, p⟩
theorem op_subD : OpD X (binaryOp .Sub) subD := fI0 op_sub fun H x y dx dy d px py e => by
  cases px <;> cases py <;> simp only [subD] at e <;> first | contradiction | (cases e; exact ⟨_, _, rfl, rfl, .int _⟩)
theorem op_fdivD : OpD X (binaryOp .FloorDiv) fdivD := fI op_fdiv fun H x y dx dy d px py e => by
  cases px <;> cases py <;> simp only [fdivD] at e <;> first | contradiction | skip
  split at e
  · rename_i hc; cases e; exact ⟨_, _, rfl, rfl, hc, .int _⟩
  · exact nomatch e
theorem op_modD : OpD X (binaryOp .Mod) modD := fI op_mod fun H x y dx dy d px py e => by
  cases px <;> cases py <;> simp only [modD] at e <;> first | contradiction | skip
  split at e
  · rename_i hc; cases e; exact ⟨_, _, rfl, rfl, hc, .int _⟩
  · exact nomatch e
theorem bits_500 {i : Int} (h : i.natAbs < 2 ^ 500) : Builtin.Int.intBits i ≤ 2 ^ 20 := by
  unfold Builtin.Int.intBits
  split
  · exact Nat.zero_le _
  · rename_i hz
    have hz' : i.natAbs ≠ 0 := by
      intro z
      have : i = 0 := Int.natAbs_eq_zero.mp z
      simp [this] at hz
    have h1 : i.natAbs.log2 < 500 := (Nat.log2_lt hz').mpr h
    have e : (2 : Nat) ^ 20 = 1048576 := by decide
    omega
theorem okMul_ok {i j : Int} (h : okMul i j = true) : IntMulOk i j := by
  simp only [okMul, Bool.or_eq_true, Bool.and_eq_true, decide_eq_true_eq] at h
  rcases h with (h | h) | ⟨h1, h2⟩
  · exact IntMulOk.of_left (intBits_le_64 (by omega) (by omega))
  · exact IntMulOk.of_right (intBits_le_64 (by omega) (by omega))
  · exact IntMulOk.of_bits (bits_500 h1) (bits_500 h2)
theorem op_mulD : OpD X (binaryOp .Mult) mulD := by
  intro pins s σ H x y u v dx dy d I rx ry px py e
  cases px <;> cases py <;> simp only [mulD] at e <;> first | contradiction | skip
  split at e
  · rename_i hc
    cases e
    obtain ⟨t, rfl⟩ := rx
    obtain ⟨t', rfl⟩ := ry
    exact mul_int ⟨.int _, H, I.tok _, ⟨_, rfl⟩, Same.refl _, .int _⟩ (okMul_ok hc)
  · exact nomatch e
theorem rep_new_lst {K : PySem.W.Frag} {H : Hp} {p : Addr} {xs : List V} {ds : List D} (hp : H p = none) (r : Reps K H xs ds) : Rep K (upd H p (.lst xs)) (.ref p) (.list ds) := .lst (SqL.of upd_same) (r.mono (same_new hp _))
theorem rep_new_tup {K : PySem.W.Frag} {H : Hp} {p : Addr} {xs : List V} {ds : List D} (hp : H p = none) (r : Reps K H xs ds) : Rep K (upd H p (.tup xs)) (.ref p) (.tuple ds) := .tup (SqT.of upd_same) (r.mono (same_new hp _))
/-- a new tuple, a new list laid -/
theorem laid_tup {pins : List (Addr × Obj)} {σ : St} {H : Hp} {s : Shared} {xs : List V} {us : List Value} {ds : List D} (I : Inv X pins σ H s) (r : Vals xs us) (p : Reps X.K H xs ds) (hz : xs.length ≤ sizeLine) :
    FP X pins σ H (.tuple ds) (.ref s.heap.objs.size) { s with heap := s.heap.push { cls := .type "tuple", data := .seq us.toArray } } :=
  ⟨.ref s.heap.objs.size, upd H s.heap.objs.size (.tup xs), I.laid (t' := s.toks) (fun b ob q => Heap.get?_push_of_some _ q) (Nat.le_refl _) ⟨hz, _, r, IsTup.new _ _⟩, rfl, same_new (I.hok.fresh (Nat.le_refl _)) _, rep_new_tup (I.hok.fresh (Nat.le_refl _)) p⟩
theorem laid_lst {pins : List (Addr × Obj)} {σ : St} {H : Hp} {s : Shared} {xs : List V} {us : List Value} {ds : List D} (I : Inv X pins σ H s) (r : Vals xs us) (p : Reps X.K H xs ds) (hz : xs.length ≤ sizeLine) :
    FP X pins σ H (.list ds) (.ref s.heap.objs.size) { s with heap := s.heap.push { cls := .type "list", data := .seq us.toArray } } :=
  ⟨.ref s.heap.objs.size, upd H s.heap.objs.size (.lst xs), I.laid (t' := s.toks) (fun b ob q => Heap.get?_push_of_some _ q) (Nat.le_refl _) ⟨hz, _, 0, r, Heap.get?_push_size _ rfl⟩, rfl, same_new (I.hok.fresh (Nat.le_refl _)) _, rep_new_lst (I.hok.fresh (Nat.le_refl _)) p⟩
theorem op_addD : OpD X (binaryOp .Add) addD := by
  intro pins s σ H x y u v dx dy d I rx ry px py e
  cases px <;> cases py <;> simp only [addD] at e <;> first | contradiction | skip
  · cases e
    exact fin (op_add pins s σ H _ _ u v _ I rx ry ⟨_, _, rfl, rfl, Same.refl _, .int _⟩)
  · split at e
    · rename_i hc
      cases e
      exact fin (op_add_str pins s σ H _ _ u v _ I rx ry ⟨_, _, rfl, rfl, le_line hc, Same.refl _, .str _⟩)
    · exact nomatch e
  · rename_i l1 xs1 ds1 h1 p1 l2 xs2 ds2 h2 p2
    split at e
    · rename_i hc
      cases e
      cases rx
      cases ry
      obtain ⟨its, r1, q1, z1⟩ := I.list h1
      obtain ⟨its2, r2, q2, z2⟩ := I.list h2
      have n1 := p1.length
      have n2 := p2.length
      have e1 := r1.length
      have e2 := r2.length
      have ea : its.toArray ++ its2.toArray = (its ++ its2).toArray := by simp
      obtain ⟨⟨cls, dd, data, sl⟩, ho, hc', n, hd⟩ := q1.isList
      obtain ⟨⟨cls2, dd2, data2, sl2⟩, ho2, hc2, m, hd2⟩ := q2.isList
      simp only at hc' hd hc2 hd2
      subst hc' hd hc2 hd2
      refine concat_meets ⟨_, ho, rfl⟩ ⟨_, ho2, rfl⟩ noFill_list_add seq_list_add PySem.F.slot_list_add PySem.F.entry_list_add (PySem.F.args_list_add_2 _ _) (list_addW l1 l2 its.toArray its2.toArray n m dd dd2 sl sl2 (by rw [List.size_toArray, List.size_toArray]; exact le_line (by omega))) ⟨ho, ho2, ?_⟩
      rw [ea]
      exact laid_lst I (r1.append r2) (p1.append p2) (by rw [List.length_append]; exact le_line (by omega))
    · exact nomatch e
  · rename_i l1 xs1 ds1 h1 p1 l2 xs2 ds2 h2 p2
    split at e
    · rename_i hc
      cases e
      have n1 := p1.length
      have n2 := p2.length
      cases rx
      cases ry
      obtain ⟨its, r1, q1, z1⟩ := I.tuple h1
      obtain ⟨its2, r2, q2, z2⟩ := I.tuple h2
      have e1 := r1.length
      have e2 := r2.length
      by_cases hz : its = []
      · subst hz
        cases r1
        cases p1
        obtain ⟨⟨cls, dd, data, sl⟩, ho, hc', n, hd⟩ := id q1
        obtain ⟨⟨cls2, dd2, data2, sl2⟩, ho2, hc2, m, hd2⟩ := id q2
        simp only at hc' hd hc2 hd2
        subst hc' hd hc2 hd2
        exact concat_meets ⟨_, ho, rfl⟩ ⟨_, ho2, rfl⟩ noFill_tuple_add seq_tuple_add PySem.F.slot_tuple_add PySem.F.entry_tuple_add (PySem.F.args_tuple_add_2 _ _) (tuple_addW0 l1 l2 _ its2.toArray n m dd dd2 sl sl2 (by simp))
          ⟨ho, ho2, ⟨.ref l2, H, I, rfl, Same.refl _, by rw [List.nil_append]; exact .tup h2 p2⟩⟩
      · refine HT.cat_tup q1 q2 hz (fun z => ?_) (fun z => ?_) (by rw [← e1, ← e2]; exact le_line (by omega))
        · subst z
          cases r2
          cases p2
          exact ⟨.ref l1, H, I, rfl, Same.refl _, by rw [List.append_nil]; exact .tup h1 p1⟩
        · exact laid_tup I (r1.append r2) (p1.append p2) (by rw [List.length_append]; exact le_line (by omega))
    · exact nomatch e
theorem op_ltD : OpD X (compareOp .Lt) ltD := fI0 op_lt fun H x y dx dy d px py e => by
  cases px <;> cases py <;> simp only [ltD, cmpD] at e <;> first | contradiction | (cases e; exact ⟨_, _, rfl, rfl, .bl _⟩)
theorem op_leD : OpD X (compareOp .LtE) leD := fI0 op_le fun H x y dx dy d px py e => by
  cases px <;> cases py <;> simp only [leD, cmpD] at e <;> first | contradiction | (cases e; exact ⟨_, _, rfl, rfl, .bl _⟩)
theorem op_gtD : OpD X (compareOp .Gt) gtD := fI0 op_gt fun H x y dx dy d px py e => by
  cases px <;> cases py <;> simp only [gtD, cmpD] at e <;> first | contradiction | (cases e; exact ⟨_, _, rfl, rfl, .bl _⟩)
theorem op_geD : OpD X (compareOp .GtE) geD := fI0 op_ge fun H x y dx dy d px py e => by
  cases px <;> cases py <;> simp only [geD, cmpD] at e <;> first | contradiction | (cases e; exact ⟨_, _, rfl, rfl, .bl _⟩)
theorem op_eqD (hu : X.A.units + 64 < cLine) : OpD X (compareOp .Eq) eqD := by
  intro pins s σ H x y u v dx dy d I rx ry px py e
  simp only [eqD] at e
  split at e
  · rename_i hk
    cases e
    simp only [okEq, Bool.and_eq_true, decide_eq_true_eq] at hk
    obtain ⟨as, ra⟩ := px.reads I rx
    obtain ⟨bs, rb⟩ := py.reads I ry
    exact PySem.SeqAt.compareEq_reads ra rb hk.1.1 hk.1.2 (by omega) ⟨.bl _, H, I, rfl, Same.refl _, .bl _⟩
  · exact nomatch e
theorem op_neD (hu : X.A.units + 64 < cLine) : OpD X (compareOp .NotEq) neD := by
  intro pins s σ H x y u v dx dy d I rx ry px py e
  simp only [neD] at e
  split at e
  · rename_i hk
    cases e
    simp only [okEq, Bool.and_eq_true, decide_eq_true_eq] at hk
    obtain ⟨as, ra⟩ := px.reads I rx
    obtain ⟨bs, rb⟩ := py.reads I ry
    exact PySem.SeqAt.compareNe_reads ra rb hk.1.1 hk.1.2 (by omega) ⟨.bl _, H, I, rfl, Same.refl _, .bl _⟩
  · exact nomatch e
theorem op_inD (hu : X.A.units + 64 < cLine) : OpD X (compareOp .In) inD := by
  intro pins s σ H x y u v dx dy d I rx ry px py e
  simp only [inD] at e
  obtain ⟨xs, es, e⟩ := Option.bind_eq_some_iff.mp e
  split at e
  · rename_i hk
    cases e
    simp only [okIn, Bool.and_eq_true, decide_eq_true_eq] at hk
    obtain ⟨as, ra⟩ := px.reads I rx
    obtain ⟨bs, rb⟩ := py.reads I ry
    cases dy <;> simp only [seqOf] at es <;> first | contradiction | skip
    · cases es
      exact PySem.SeqAt.in_list_reads rb ra hk.1.2 hk.1.1 (by omega) ⟨.bl _, H, I, rfl, Same.refl _, .bl _⟩
    · cases es
      exact PySem.SeqAt.in_tuple_reads rb ra hk.1.2 hk.1.1 (by omega) ⟨.bl _, H, I, rfl, Same.refl _, .bl _⟩
  · exact nomatch e
theorem op_notInD (hu : X.A.units + 64 < cLine) : OpD X (compareOp .NotIn) notInD := by
  intro pins s σ H x y u v dx dy d I rx ry px py e
  simp only [notInD] at e
  obtain ⟨xs, es, e⟩ := Option.bind_eq_some_iff.mp e
  split at e
  · rename_i hk
    cases e
    simp only [okIn, Bool.and_eq_true, decide_eq_true_eq] at hk
    obtain ⟨as, ra⟩ := px.reads I rx
    obtain ⟨bs, rb⟩ := py.reads I ry
    cases dy <;> simp only [seqOf] at es <;> first | contradiction | skip
    · cases es
      exact PySem.SeqAt.notIn_list_reads rb ra hk.1.2 hk.1.1 (by omega) ⟨.bl _, H, I, rfl, Same.refl _, .bl _⟩
    · cases es
      exact PySem.SeqAt.notIn_tuple_reads rb ra hk.1.2 hk.1.1 (by omega) ⟨.bl _, H, I, rfl, Same.refl _, .bl _⟩
  · exact nomatch e

def nostar : Expr → Bool
  | .Starred _ _ => false
  | _ => true
theorem star_no {e : Expr} {es : List Expr} {env : Env} (h : nostar e = true) : starEach (e :: es) env = (false, eval e env) :: starEach es env := by
  cases e <;> first | rfl | cases h
theorem back_no {p : Pos} {env : Env} : ∀ {es : List Expr}, es.all nostar = true → (backTo p (starEach es env)).any (·.1) = false
  | [], _ => rfl
  | e :: es, h => by
    simp only [List.all_cons, Bool.and_eq_true] at h
    have ih := back_no (p := p) (env := env) h.2
    rw [star_no h.1]
    simp only [backTo, List.map_cons, List.any_cons, Bool.false_or] at ih ⊢
    exact ih
theorem fa_nil : FAx X [] aNil := by
  refine ⟨fun pos pins s σ H ρ ds I r e => ?_⟩
  simp only [aNil, Option.some.injEq] at e
  subst e
  exact Calls.spliced_nil ⟨[], H, I, .nil, Same.refl _, .nil⟩
theorem fa_cons {e : Expr} {es : List Expr} {f : FE} {g : FA} (ha : FEx X e f) (hr : FAx X es g) (hs : nostar e = true := by rfl) : FAx X (e :: es) (aCons f g) := by
  refine ⟨fun pos pins s σ H ρ ds I r ef => ?_⟩
  simp only [aCons] at ef
  obtain ⟨d, e1, ef⟩ := Option.bind_eq_some_iff.mp ef
  obtain ⟨dr, e2, ef⟩ := Option.bind_eq_some_iff.mp ef
  cases ef
  rw [star_no hs]
  show wpAny _ _ (spliced ((false, eval e X.env) :: backTo pos (starEach es X.env))) _ _ s
  refine Calls.spliced_cons (thn (ha pins s σ H ρ d I r e1) fun u s1 ⟨x, H1, I1, r1, m1, p1⟩ => ?_)
  exact thn (hr pos pins s1 σ H1 ρ dr I1 (r.mono m1) e2) fun us s2 ⟨xs, H2, I2, r2, m2, p2⟩ => ⟨x :: xs, H2, I2, .cons r1 r2, m1.trans m2, .cons (p1.mono m2) p2⟩
theorem fe_tup {es : List Expr} {g : FA} {x1 : Nat} (h : FAx X es g) : FEx X (.Tuple es x1 pos) (eTup g) := by
  refine FEx.of (pe_tup h.pa) fun σ H ρ d r e => ?_
  simp only [eTup] at e
  obtain ⟨ds, e1, e⟩ := Option.bind_eq_some_iff.mp e
  split at e
  · rename_i hf
    cases e
    simp only [few, decide_eq_true_eq] at hf
    exact ⟨ρ, ds, r, e1, fun vs H' m p => ⟨le_line (by rw [p.length]; exact hf), fun q hq => ⟨m.trans (same_new hq _), rep_new_tup hq p⟩⟩⟩
  · exact nomatch e
theorem fe_lst {es : List Expr} {g : FA} (h : FAx X es g) : FEx X (.List es pos) (eLst g) := by
  refine FEx.of (pe_lst h.pa) fun σ H ρ d r e => ?_
  simp only [eLst] at e
  obtain ⟨ds, e1, e⟩ := Option.bind_eq_some_iff.mp e
  split at e
  · rename_i hf
    cases e
    simp only [few, decide_eq_true_eq] at hf
    exact ⟨ρ, ds, r, e1, fun vs H' m p => ⟨le_line (by rw [p.length]; exact hf), fun q hq => ⟨m.trans (same_new hq _), rep_new_lst hq p⟩⟩⟩
  · exact nomatch e

/-- what a def promises: F tells its answer -/
def spF (K : PySem.W.Frag) (F : List D → Option D) : Sp := fun vs H Q _ => ∃ ds d, Reps K H vs ds ∧ F ds = some d ∧ ∀ v H', Same H H' → Rep K H' v d → Q v H'
/-- a def of the text, as it is called -/
structure Kn (P : Program) (w : World) (K : PySem.W.Frag) (mg : Str → Option Value) (base : Heap) (k : Nat) (x : Str) (ps : List Str) (F : List D → Option D) : Prop where
  ex : ∃ (f : Addr) (fd : FuncData), FnOk P w K mg base CX0 k f fd ps (spF K F) ∧ mg x = some (.ref f) ∧ PySem.W.keepIn K (.ref f) = true ∧ Binds K fd ps []
theorem fe_call {k : Nat} {x : Str} {ps : List Str} {F : List D → Option D} {e : Expr} {es : List Expr} {g : FA} {p : Pos} (h : Kn X.prog X.w X.K X.mg X.base k x ps F) (hr : Room k X.A) (hg : Gl X x) (ha : FAx X (e :: es) g)
    (hdb : (x == ("__debug__" : Str)) = false := by decide) (he : nostar e = true := by rfl) (hpl : es.all nostar = true := by rfl) :
    FEx X (.Call (.Name x p) (e :: es) [] pos) (eCall F g) := by
  obtain ⟨f, fd, G, hm, hk, hb⟩ := h.ex
  refine FEx.of (pe_call G hr hg hm hk hb .nil pass0 ha.pa hdb (star_no he) (back_no hpl)) fun σ H ρ d r e => ?_
  simp only [eCall] at e
  obtain ⟨ds, e1, e⟩ := Option.bind_eq_some_iff.mp e
  refine ⟨ρ, ds, r, e1, fun vs H' m q => ?_⟩
  show spF X.K F (vs ++ []) H' (fun v H' => Same H H' ∧ Rep X.K H' v d) E0
  rw [List.append_nil]
  exact ⟨ds, d, q, e, fun v H2 m2 p2 => ⟨m.trans m2, p2⟩⟩
/-- a built-in by its values -/
def CbD (X : Cx) (f : Value) (g : List D → Option D) : Prop :=
  ∀ (pins : List (Addr × Obj)) (s : Shared) (σ : St) (H : Hp) (xs : List V) (us : List Value) (ds : List D) (d : D), Inv X pins σ H s → Vals xs us → Reps X.K H xs ds → g ds = some d → wpAny (model X.prog X.w) X.A (call f us) (FP X pins σ H d) X.xe s
theorem cbR {f : Value} {g : List D → Option D} (h : CbD X f g) : CallR X f (fun xs H Q => ∃ ds d, Reps X.K H xs ds ∧ g ds = some d ∧ ∀ v H', Same H H' → Rep X.K H' v d → Q v H') :=
  fun pins s σ H xs us Q I r ⟨ds, d, p, e, q⟩ => thn (h pins s σ H xs us ds d I r p e) fun u s' ⟨v, H', I', rv, m, pv⟩ => ⟨v, H', I', rv, q v H' m pv⟩
theorem fe_blt {id : String} {x : Str} {g : List D → Option D} {e : Expr} {es : List Expr} {ga : FA} {p : Pos} (hc : CbD X (.builtin id) g) (hg : Gl X x) (hm : X.mg x = none) (hv : bootBuiltins x = some (.builtin id)) (ha : FAx X (e :: es) ga) (hn : x ≠ "__name__" := by decide) (hdb : (x == ("__debug__" : Str)) = false := by decide)
    (he : nostar e = true := by rfl) (hpl : es.all nostar = true := by rfl) : FEx X (.Call (.Name x p) (e :: es) [] pos) (eCall g ga) := by
  refine FEx.of (pe_callB (cbR hc) hg hm hv ha.pa hn hdb (star_no he) (back_no hpl)) fun σ H ρ d r e => ?_
  simp only [eCall] at e
  obtain ⟨ds, e1, e⟩ := Option.bind_eq_some_iff.mp e
  exact ⟨ρ, ds, r, e1, fun vs H' m q => ⟨ds, d, q, e, fun v H2 m2 p2 => ⟨m.trans m2, p2⟩⟩⟩
theorem fe_typ {T : String} {x : Str} {g : List D → Option D} {e : Expr} {es : List Expr} {ga : FA} {p : Pos} (hc : CbD X (.type T) g) (hg : Gl X x) (hm : X.mg x = none) (hv : bootBuiltins x = some (.type T)) (ha : FAx X (e :: es) ga) (hn : x ≠ "__name__" := by decide) (hdb : (x == ("__debug__" : Str)) = false := by decide)
    (he : nostar e = true := by rfl) (hpl : es.all nostar = true := by rfl) : FEx X (.Call (.Name x p) (e :: es) [] pos) (eCall g ga) := by
  refine FEx.of (pe_callTy (cbR hc) hg hm hv ha.pa hn hdb (star_no he) (back_no hpl)) fun σ H ρ d r e => ?_
  simp only [eCall] at e
  obtain ⟨ds, e1, e⟩ := Option.bind_eq_some_iff.mp e
  exact ⟨ρ, ds, r, e1, fun vs H' m q => ⟨ds, d, q, e, fun v H2 m2 p2 => ⟨m.trans m2, p2⟩⟩⟩
theorem CbD.of {f : Value} {r : List V → Hp → VK → Prop} {g : List D → Option D} (h : CallR X f r) (hr : ∀ H xs ds d, Reps X.K H xs ds → g ds = some d → r xs H fun v H' => Same H H' ∧ Rep X.K H' v d) : CbD X f g :=
  fun pins s σ H xs us ds d I rv p e => fin (h pins s σ H xs us _ I rv (hr H xs ds d p e))
theorem cb_len : CbD X (.builtin "len") lenD := CbD.of (call_len_seq.or call_len_str) fun H xs ds d p e => by
  cases p with
  | nil => exact nomatch e
  | cons p1 p2 =>
    cases p2 with
    | cons _ _ => cases p1 <;> exact nomatch e
    | nil =>
      cases p1 <;> simp only [lenD] at e <;> first | contradiction | skip
      · split at e
        · rename_i hz; cases e; exact .inr ⟨_, rfl, le_line hz, Same.refl _, .int _⟩
        · exact nomatch e
      · rename_i h r; cases e; exact .inl ⟨_, _, rfl, .inl h, Same.refl _, by rw [r.length]; exact .int _⟩
      · rename_i h r; cases e; exact .inl ⟨_, _, rfl, .inr h, Same.refl _, by rw [r.length]; exact .int _⟩
theorem cb_int : CbD X (.type "int") intD := CbD.of call_int1 fun H xs ds d p e => by
  cases p with
  | nil => exact nomatch e
  | cons p1 p2 =>
    cases p2 with
    | cons _ _ => cases p1 <;> exact nomatch e
    | nil =>
      cases p1 <;> simp only [intD] at e <;> first | contradiction | skip
      · cases e; exact .inr ⟨_, rfl, Same.refl _, .int _⟩
      · cases e; exact .inl ⟨_, rfl, Same.refl _, .int _⟩
theorem cb_list : CbD X (.type "list") listD := CbD.of call_list_of fun H xs ds d p e => by
  cases p with
  | nil => exact nomatch e
  | cons p1 p2 =>
    cases p2 with
    | cons _ _ => cases p1 <;> exact nomatch e
    | nil =>
      cases p1 <;> simp only [listD] at e <;> first | contradiction | skip
      · rename_i h r; cases e; exact ⟨_, _, rfl, .inl h, fun l hl => ⟨same_new hl _, rep_new_lst hl r⟩⟩
      · rename_i h r; cases e; exact ⟨_, _, rfl, .inr h, fun l hl => ⟨same_new hl _, rep_new_lst hl r⟩⟩
theorem cb_tuple : CbD X (.type "tuple") tupleD := CbD.of call_tuple_of fun H xs ds d p e => by
  cases p with
  | nil => exact nomatch e
  | cons p1 p2 =>
    cases p2 with
    | cons _ _ => cases p1 <;> exact nomatch e
    | nil =>
      cases p1 <;> simp only [tupleD] at e <;> first | contradiction | skip
      · rename_i h r; cases e; exact ⟨_, _, rfl, .inl ⟨h, fun l hl => ⟨same_new hl _, rep_new_tup hl r⟩⟩⟩
      · rename_i h r; cases e; exact ⟨_, _, rfl, .inr ⟨h, Same.refl _, .tup h r⟩⟩
theorem cb_isi {T : String} {t : Ty} (hT : ∀ (d : D) (tv : String), plainD d = true → (tv = match d with | .none => "NoneType" | .bool _ => "bool" | .int _ => "int" | .str _ => "str" | .list _ => "list" | .tuple _ => "tuple" | .dict _ => "dict") → PySem.W.kitOne X.K (.type tv) (.type T) = some (isiB t d))
    (pins : List (Addr × Obj)) (s : Shared) (σ : St) (H : Hp) (x : V) (u : Value) (dx d : D) (I : Inv X pins σ H s) (rx : RelV x u) (p : Rep X.K H x dx) (e : isiD t dx = some d) :
    wpAny (model X.prog X.w) X.A (call (.builtin "isinstance") [u, .type T]) (FP X pins σ H d) X.xe s := by
  simp only [isiD] at e
  split at e
  · rename_i hp
    cases e
    have done : ∀ tv, TyOf X.K H x (.type tv) → PySem.W.kitOne X.K (.type tv) (.type T) = some (isiB t dx) → wpAny (model X.prog X.w) X.A (call (.builtin "isinstance") [u, .type T]) (FP X pins σ H (.bool (isiB t dx))) X.xe s := fun tv ty hk =>
      isinst_ok I rx ty hk fun tk => ⟨.bl _, H, I.tok tk, rfl, Same.refl _, .bl _⟩
    cases p with
    | non => exact done _ .non (hT _ _ hp rfl)
    | bl b => exact done _ (.bl b) (hT _ _ hp rfl)
    | int i => exact done _ (.int i) (hT _ _ hp rfl)
    | str z => exact done _ (.str z) (hT _ _ hp rfl)
    | lst h r =>
      cases rx
      obtain ⟨its, _, ⟨o, n, e1, c1, _⟩, _⟩ := I.list h
      exact PySem.W.kia_one PySem.W.kitx_list I.kIn ⟨o, e1, c1⟩ (hT _ _ hp rfl) (fun z => nomatch z) fun tk => ⟨.bl _, H, I.tok tk, rfl, Same.refl _, .bl _⟩
    | tup h r =>
      cases rx
      obtain ⟨its, _, ⟨o, e1, c1, _⟩, _⟩ := I.tuple h
      exact PySem.W.kia_one PySem.W.kitx_tuple I.kIn ⟨o, e1, c1⟩ (hT _ _ hp rfl) (fun z => nomatch z) fun tk => ⟨.bl _, H, I.tok tk, rfl, Same.refl _, .bl _⟩
  · exact nomatch e
end
end FD
end
section
set_option Elab.async false
set_option linter.all false
set_option maxRecDepth 100000
set_option maxHeartbeats 4000000
namespace FD
open PySem PyProof.Rows PySem.Builtin PySem.Builtin.Str
theorem find_lr (x : Str) (c : Nat) (hx : x.cps = #[108, 114]) : Txt.find x ⟨#[c]⟩ = findLR c := by
  cases x with
  | mk xs =>
    simp only at hx
    subst hx
    have e0 : (#[108, 114] : Array Nat).extract 0 (0 + 1) = #[108] := by decide
    have e1 : (#[108, 114] : Array Nat).extract 1 (1 + 1) = #[114] := by decide
    have h0 : subAt ⟨#[108, 114]⟩ ⟨#[c]⟩ 0 = decide (c = 108) := by
      show ((#[108, 114] : Array Nat).extract 0 (0 + 1) == #[c]) = _
      rw [e0, Bool.eq_iff_iff, beq_iff_eq, decide_eq_true_eq]
      exact ⟨fun h => by injection h with h; injection h with h _; exact h.symm, fun h => by rw [h]⟩
    have h1 : subAt ⟨#[108, 114]⟩ ⟨#[c]⟩ 1 = decide (c = 114) := by
      show ((#[108, 114] : Array Nat).extract 1 (1 + 1) == #[c]) = _
      rw [e1, Bool.eq_iff_iff, beq_iff_eq, decide_eq_true_eq]
      exact ⟨fun h => by injection h with h; injection h with h _; exact h.symm, fun h => by rw [h]⟩
    unfold Txt.find occurrences
    by_cases c0 : c = 108
    · subst c0; decide +kernel
    · by_cases c1 : c = 114
      · subst c1; decide +kernel
      · simp [Str.length, Std.Legacy.Range.forIn_eq_forIn_range', Std.Legacy.Range.size, List.range', h0, h1, findLR, c0, c1]
section
variable {prog : Program} {w : World} {A : Around} {E : Value → Shared → Prop} {s : Shared} {x y : Str} {t u : Tok} {Q : Value → Shared → Prop}
theorem find2 (hq : Q (.int (Txt.find x y) s.toks) { s with toks := s.toks + 1 }) : wpAny (model prog w) A (call (.builtin "str.find") [.str x t, .str y u]) Q E s :=
  call_gives F.slot_str_find (typeIs_str _ _ _) F.entry_str_find (F.args_str_find_2 _ _) (gives_str_find x y t u) hq
theorem startswith2 (hq : Q (.bool (Txt.startswith x y)) s) : wpAny (model prog w) A (call (.builtin "str.startswith") [.str x t, .str y u]) Q E s :=
  call_gives F.slot_str_startswith (typeIs_str _ _ _) F.entry_str_startswith (F.args_str_startswith_2 _ _) (gives_str_startswith x y t u) hq
end
end FD
namespace FD
open PySem PyProof.Rows
section
variable {prog : Program} {w : World} {A : Around} {E : Value → Shared → Prop} {s : Shared}
end
end FD
namespace FD
open PySem PySem.Spec PyProof.Rows L2
theorem at_eq {α : Type} (xs : List α) (i : Int) : at? xs i = atI xs i := by
  unfold at? atI ixN
  by_cases h : 0 ≤ i
  · rw [if_pos h, if_pos h]
    by_cases h2 : i < xs.length
    · rw [if_pos h2]; rfl
    · rw [if_neg h2]
      exact List.getElem?_eq_none_iff.mpr (by omega)
  · rw [if_neg h, if_neg h]
    by_cases h2 : -(xs.length : Int) ≤ i
    · rw [if_pos h2, if_pos h2]; rfl
    · rw [if_neg h2, if_neg h2] <;> rfl
theorem Reps.at {K : PySem.W.Frag} {H : Hp} {vs : List V} {ds : List D} {i : Int} {d : D} (r : Reps K H vs ds) (e : at? ds i = some d) : ∃ v, atI vs i = some v ∧ Rep K H v d := by
  rw [← at_eq]
  have hl := r.length
  unfold at? at e ⊢
  by_cases h : 0 ≤ i
  · rw [if_pos h] at e ⊢
    exact r.get e
  · rw [if_neg h] at e ⊢
    by_cases h2 : -(ds.length : Int) ≤ i
    · rw [if_pos h2] at e
      rw [if_pos (by rw [hl]; exact h2), hl]
      exact r.get e
    · rw [if_neg h2] at e; cases e
theorem clip_eq (n d : Nat) (o : Option Int) : clip n d o = HT.sIx n d o := by
  cases o with
  | none => rfl
  | some v =>
    simp only [clip, HT.sIx]
theorem Reps.cut {K : PySem.W.Frag} {H : Hp} {vs : List V} {ds : List D} (r : Reps K H vs ds) (lo hi : Option Int) : Reps K H (cutV vs lo hi) (FD.cut ds lo hi) := by
  unfold cutV FD.cut
  rw [clip_eq, clip_eq, ← r.length]
  exact (r.drop _).take _


section
variable {X : Cx} {a b : Expr} {fa fb : FE} {pos : Pos}
theorem fe_ix (ha : FEx X a fa) (hb : FEx X b fb) (hs : PlainIx b) : FEx X (.Subscript a b pos) (eBin ixD fa fb) := by
  refine ⟨fun pins s σ H ρ d I r e => ?_⟩
  refine Subscript_ (fbin ha hb I r e fun u v s2 x y H2 dx dy I2 rx ry m px py e' => ?_)
  refine thn (ix_seq a b pins s2 σ H2 x y u v (fun z H' => Same H2 H' ∧ Rep X.K H' z d) I2 rx ry ?_ (hs _ _)) fun _ _ ⟨z, H', I', rz, m', pz⟩ => ⟨z, H', I', rz, m.trans m', pz⟩
  cases px <;> cases py <;> simp only [ixD] at e' <;> first | contradiction | skip
  · split at e'
    · rename_i hz
      obtain ⟨c, hc, e'⟩ := Option.map_eq_some_iff.mp e'
      subst e'
      exact .inr (.inr ⟨_, _, c, rfl, rfl, le_line hz, by rw [← at_eq]; exact hc, Same.refl _, .str _⟩)
    · exact nomatch e'
  · rename_i h q i
    obtain ⟨z, hz, pz⟩ := q.at e'
    exact .inl ⟨_, _, _, z, rfl, rfl, h, hz, Same.refl _, pz⟩
  · rename_i h q i
    obtain ⟨z, hz, pz⟩ := q.at e'
    exact .inr (.inl ⟨_, _, _, z, rfl, rfl, h, hz, Same.refl _, pz⟩)
def FOxR (X : Cx) (e : Option Expr) (f : FO) : Prop :=
  ∀ (pins : List (Addr × Obj)) (s : Shared) (σ : St) (H : Hp) (ρ : En) (o : Option Int), Inv X pins σ H s → RepS X.K H σ ρ → f ρ = some o →
    wpAny (model X.prog X.w) X.A (evalPart e X.env) (fun u s' => ∃ H', Inv X pins σ H' s' ∧ IsPart u o ∧ Same H H') X.xe s
structure FOx (X : Cx) (e : Option Expr) (f : FO) : Prop where
  go : FOxR X e f
instance {X : Cx} {e : Option Expr} {f : FO} : CoeFun (FOx X e f) (fun _ => FOxR X e f) := ⟨fun h => h.go⟩
theorem bm1 {name : Str} {id : String} {g : D → D → Option D} {apos cpos : Pos} (pa : PlainAttrs "str") (slot : Slot "str" name id) (hty : typeOf (.builtin id) = pure (.type "method_descriptor"))
    (hg : ∀ (pins : List (Addr × Obj)) (s : Shared) (σ : St) (H : Hp) (x y : Str) (t u : Tok) (d : D), Inv X pins σ H s → g (.str x) (.str y) = some d → wpAny (model X.prog X.w) X.A (call (.builtin id) [.str x t, .str y u]) (FP X pins σ H d) X.xe s)
    (hstr : ∀ dx dy d, g dx dy = some d → ∃ x y, dx = .str x ∧ dy = .str y)
    (ha : FEx X a fa) (hb : FEx X b fb) (hbase : attributeBase a name X.env (eval a X.env) = eval a X.env)
    (hfew : ((backTo cpos (starEach [b] X.env)).all (fun x => !x.1) && (backToKw cpos (keywordEach [] X.env)).all (fun x => x.1.isSome)
      && decide (([b] : List Expr).length + ([] : List Keyword).length + (if ([] : List Keyword).isEmpty then 0 else 1) < 30)) = true)
    (hline : (apos.endLine == cpos.line) = true) (hs : starEach [b] X.env = (false, eval b X.env) :: starEach [] X.env) (hplain : (backTo cpos (starEach [] X.env)).any (·.1) = false) :
    FEx X (.Call (.Attribute a name apos) [b] [] cpos) (eBin g fa fb) := by
  have hm : MtR X id (fun x xs H Q => ∃ p q d, x = .str p ∧ xs = [.str q] ∧ g (.str p) (.str q) = some d ∧ ∀ v H', Same H H' → Rep X.K H' v d → Q v H') := by
    intro pins s σ H x xs v us Q I rx rs ⟨p, q, d, e1, e2, e3, k⟩
    subst e1 e2
    obtain ⟨t, rfl⟩ := rx
    obtain ⟨u, rfl, t', rfl⟩ := vals1 rs
    exact thn (hg pins s σ H p q t t' d I e3) fun _ _ ⟨z, H', I', rz, m, pz⟩ => ⟨z, H', I', rz, k z H' m pz⟩
  refine FEx.of (pe_bm pa slot hty hm ha.pe (pa_cons hb.pe pa_nil hs) hbase hfew hline hs hplain) fun σ H ρ d r e => ?_
  simp only [eBin] at e
  obtain ⟨dx, ea, e⟩ := Option.bind_eq_some_iff.mp e
  obtain ⟨dy, eb, e⟩ := Option.bind_eq_some_iff.mp e
  obtain ⟨p, q, rfl, rfl⟩ := hstr dx dy d e
  refine ⟨ρ, _, r, ea, fun v H1 m1 p1 => ?_⟩
  cases p1
  refine ⟨rfl, ρ, _, r.mono m1, eb, fun v2 H2 m2 p2 => ?_⟩
  cases p2
  exact ⟨p, q, d, rfl, rfl, e, fun v H' m pv => ⟨m1.trans (m2.trans m), pv⟩⟩
theorem fe_find {apos cpos : Pos} (ha : FEx X a fa) (hb : FEx X b fb) (hbase : attributeBase a "find" X.env (eval a X.env) = eval a X.env := by rfl)
    (hfew : ((backTo cpos (starEach [b] X.env)).all (fun x => !x.1) && (backToKw cpos (keywordEach [] X.env)).all (fun x => x.1.isSome)
      && decide (([b] : List Expr).length + ([] : List Keyword).length + (if ([] : List Keyword).isEmpty then 0 else 1) < 30)) = true := by rfl)
    (hline : (apos.endLine == cpos.line) = true := by rfl) (hs : starEach [b] X.env = (false, eval b X.env) :: starEach [] X.env := by rfl) (hplain : (backTo cpos (starEach [] X.env)).any (·.1) = false := by rfl) :
    FEx X (.Call (.Attribute a "find" apos) [b] [] cpos) (eBin findD fa fb) := by
  refine bm1 PySem.F.plainAttrs_str PySem.F.slot_str_find PySem.F.type_str_find (fun pins s σ H x y t u d I e => ?_) (fun dx dy d e => ?_) ha hb hbase hfew hline hs hplain
  · simp only [findD] at e
    split at e
    · rename_i hx
      split at e
      · rename_i c hc
        cases e
        have ey : y = ⟨#[c]⟩ := by cases y; simp only at hc; simp [← Array.toList_inj, hc]
        subst ey
        exact find2 ⟨.int _, H, I.tok _, ⟨_, rfl⟩, Same.refl _, by rw [find_lr x c hx]; exact .int _⟩
      · exact nomatch e
    · exact nomatch e
  · cases dx <;> cases dy <;> simp only [findD] at e <;> first | contradiction | exact ⟨_, _, rfl, rfl⟩
theorem fe_startswith {apos cpos : Pos} (ha : FEx X a fa) (hb : FEx X b fb) (hbase : attributeBase a "startswith" X.env (eval a X.env) = eval a X.env := by rfl)
    (hfew : ((backTo cpos (starEach [b] X.env)).all (fun x => !x.1) && (backToKw cpos (keywordEach [] X.env)).all (fun x => x.1.isSome)
      && decide (([b] : List Expr).length + ([] : List Keyword).length + (if ([] : List Keyword).isEmpty then 0 else 1) < 30)) = true := by rfl)
    (hline : (apos.endLine == cpos.line) = true := by rfl) (hs : starEach [b] X.env = (false, eval b X.env) :: starEach [] X.env := by rfl) (hplain : (backTo cpos (starEach [] X.env)).any (·.1) = false := by rfl) :
    FEx X (.Call (.Attribute a "startswith" apos) [b] [] cpos) (eBin swD fa fb) := by
  refine bm1 PySem.F.plainAttrs_str PySem.F.slot_str_startswith PySem.F.type_str_startswith (fun pins s σ H x y t u d I e => ?_) (fun dx dy d e => ?_) ha hb hbase hfew hline hs hplain
  · simp only [swD, Option.some.injEq] at e
    subst e
    exact startswith2 ⟨.bl _, H, I, rfl, Same.refl _, .bl _⟩
  · cases dx <;> cases dy <;> simp only [swD] at e <;> first | contradiction | exact ⟨_, _, rfl, rfl⟩
theorem fe_isi {x y : Str} {T : String} {t : Ty} {p p' : Pos} (hT : ∀ (d : D) (tv : String), plainD d = true → (tv = match d with | .none => "NoneType" | .bool _ => "bool" | .int _ => "int" | .str _ => "str" | .list _ => "list" | .tuple _ => "tuple" | .dict _ => "dict") → PySem.W.kitOne X.K (.type tv) (.type T) = some (isiB t d))
    (hv : bootBuiltins x = some (.builtin "isinstance")) (hv' : bootBuiltins y = some (.type T)) (hg : Gl X x) (hm : X.mg x = none) (hg' : Gl X y) (hm' : X.mg y = none) (ha : FEx X a fa) (hn : x ≠ "__name__") (hdb : (x == ("__debug__" : Str)) = false) (hn' : y ≠ "__name__") (hdb' : (y == ("__debug__" : Str)) = false)
    (he : starEach [a, .Name y p'] X.env = (false, eval a X.env) :: starEach [.Name y p'] X.env) (he' : starEach [.Name y p'] X.env = (false, eval (.Name y p') X.env) :: starEach [] X.env) (hpl : (backTo pos (starEach [.Name y p'] X.env)).any (·.1) = false) :
    FEx X (.Call (.Name x p) [a, .Name y p'] [] pos) (eUn (isiD t) fa) := by
  have hc : CallR X (.builtin "isinstance") (fun xs H Q => ∃ v dx d, xs = [v, .ty T] ∧ Rep X.K H v dx ∧ isiD t dx = some d ∧ ∀ v H', Same H H' → Rep X.K H' v d → Q v H') := by
    intro pins s σ H xs us Q I r ⟨v, dx, d, e1, pv, e2, k⟩
    subst e1
    obtain ⟨u, w', rfl, rv, rw'⟩ := vals2 r
    cases rw'
    exact thn (cb_isi hT pins s σ H v u dx d I rv pv e2) fun _ _ ⟨z, H', I', rz, m, pz⟩ => ⟨z, H', I', rz, k z H' m pz⟩
  have hy : PE X (.Name y p') (tC (.ty T)) := pe_bltn hg' hm' hv' rfl hn' hdb'
  refine FEx.of (pe_callB hc hg hm hv (pa_cons ha.pe (pa_cons hy pa_nil he') he) hn hdb he hpl) fun σ H ρ d r e => ?_
  simp only [eUn] at e
  obtain ⟨dx, ea, e⟩ := Option.bind_eq_some_iff.mp e
  exact ⟨ρ, dx, r, ea, fun v H1 m1 p1 => ⟨v, dx, d, rfl, p1, e, fun z H' m pz => ⟨m1.trans m, pz⟩⟩⟩
end
end FD
end
section
set_option Elab.async false
set_option linter.all false
set_option maxRecDepth 100000
set_option maxHeartbeats 4000000
namespace FD
open PySem PySem.Spec PyProof.Rows L2

/-- what is wanted behind a statement that comes to o -/
def endsOf (K : PySem.W.Frag) (H : Hp) (o : Out) : Ends where
  nx := fun σ' H' => ∃ ρ', o = .nx ρ' ∧ Same H H' ∧ RepS K H' σ' ρ'
  rt := fun v H' => ∃ d, o = .rt d ∧ Same H H' ∧ Rep K H' v d
  bk := fun σ' H' => ∃ ρ', o = .bk ρ' ∧ Same H H' ∧ RepS K H' σ' ρ'
  ct := fun σ' H' => ∃ ρ', o = .ct ρ' ∧ Same H H' ∧ RepS K H' σ' ρ'
def FSxR (X : Cx) (st : Stmt) (g : FS) : Prop :=
  ∀ (pins : List (Addr × Obj)) (s : Shared) (σ : St) (H : Hp) (ρ : En) (o : Out), Inv X pins σ H s → RepS X.K H σ ρ → g ρ = some o → wpAny (model X.prog X.w) X.A (exec st X.env) (SP X pins (endsOf X.K H o)) X.xe s
structure FSx (X : Cx) (st : Stmt) (g : FS) : Prop where
  go : FSxR X st g
instance {X : Cx} {st : Stmt} {g : FS} : CoeFun (FSx X st g) (fun _ => FSxR X st g) := ⟨fun h => h.go⟩
def FSsR (X : Cx) (sts : List Stmt) (g : FS) : Prop :=
  ∀ (pins : List (Addr × Obj)) (s : Shared) (σ : St) (H : Hp) (ρ : En) (o : Out), Inv X pins σ H s → RepS X.K H σ ρ → g ρ = some o → wpAny (model X.prog X.w) X.A (execs sts X.env) (SP X pins (endsOf X.K H o)) X.xe s
structure FSs (X : Cx) (sts : List Stmt) (g : FS) : Prop where
  go : FSsR X sts g
instance {X : Cx} {sts : List Stmt} {g : FS} : CoeFun (FSs X sts g) (fun _ => FSsR X sts g) := ⟨fun h => h.go⟩
structure Ent (E D : Ends) : Prop where
  nx : ∀ σ H, E.nx σ H → D.nx σ H
  rt : ∀ v H, E.rt v H → D.rt v H
  bk : ∀ σ H, E.bk σ H → D.bk σ H
  ct : ∀ σ H, E.ct σ H → D.ct σ H
theorem spImp {X : Cx} {pins : List (Addr × Obj)} {E D : Ends} {f : Flow} {s' : Shared} (h : SP X pins E f s') (e : Ent E D) : SP X pins D f s' := by
  cases f with
  | next => obtain ⟨σ', H', I, q⟩ := h; exact ⟨σ', H', I, e.nx _ _ q⟩
  | brk => obtain ⟨σ', H', I, q⟩ := h; exact ⟨σ', H', I, e.bk _ _ q⟩
  | cont => obtain ⟨σ', H', I, q⟩ := h; exact ⟨σ', H', I, e.ct _ _ q⟩
  | ret u => obtain ⟨v, σ', H', I, r, q⟩ := h; exact ⟨v, σ', H', I, r, e.rt _ _ q⟩
theorem ends_up {K : PySem.W.Frag} {H H1 : Hp} {o : Out} (m : Same H H1) : Ent (endsOf K H1 o) (endsOf K H o) where
  nx := fun _ _ ⟨ρ', e, m', r⟩ => ⟨ρ', e, m.trans m', r⟩
  rt := fun _ _ ⟨d, e, m', r⟩ => ⟨d, e, m.trans m', r⟩
  bk := fun _ _ ⟨ρ', e, m', r⟩ => ⟨ρ', e, m.trans m', r⟩
  ct := fun _ _ ⟨ρ', e, m', r⟩ => ⟨ρ', e, m.trans m', r⟩
def tFS (K : PySem.W.Frag) (g : FS) : TS := fun D σ H => ∃ (ρ : En) (o : Out), RepS K H σ ρ ∧ g ρ = some o ∧ Ent (endsOf K H o) D
theorem FSs.ps {X : Cx} {sts : List Stmt} {g : FS} (h : FSs X sts g) : PSs X sts (tFS X.K g) := fun pins s σ H D I ⟨ρ, o, r, e, k⟩ => thn (h pins s σ H ρ o I r e) fun f s' q => spImp q k
theorem FSx.of {X : Cx} {st : Stmt} {g : FS} {t : TS} (h : PS X st t) (hq : ∀ σ H ρ o, RepS X.K H σ ρ → g ρ = some o → t (endsOf X.K H o) σ H) : FSx X st g :=
  ⟨fun pins s σ H ρ o I r e => h pins s σ H _ I (hq σ H ρ o r e)⟩

section
variable {X : Cx} {pos : Pos}
theorem fs_nil : FSs X [] sNil := by
  refine ⟨fun pins s σ H ρ o I r e => ?_⟩
  simp only [sNil, Option.some.injEq] at e
  subst e
  exact wpAny_execs_nil ⟨σ, H, I, ρ, rfl, Same.refl _, r⟩
theorem fs_one {st : Stmt} {g : FS} (h : FSx X st g) : FSs X [st] g := by
  refine ⟨fun pins s σ H ρ o I r e => ?_⟩
  refine wpAny_execs_cons (thn (h pins s σ H ρ o I r e) fun f s1 q => ?_)
  cases f with
  | next => exact wpAny_execs_nil q
  | ret v => exact q
  | brk => exact q
  | cont => exact q
theorem fs_cons {st : Stmt} {rest : List Stmt} {g1 g2 : FS} (h1 : FSx X st g1) (h2 : FSs X rest g2) : FSs X (st :: rest) (sSeq g1 g2) := by
  refine ⟨fun pins s σ H ρ o I r e => ?_⟩
  simp only [sSeq] at e
  obtain ⟨o1, e1, e⟩ := Option.bind_eq_some_iff.mp e
  refine wpAny_execs_cons (thn (h1 pins s σ H ρ o1 I r e1) fun f s1 q => ?_)
  cases f with
  | next =>
    obtain ⟨σ', H', I', ρ', eo, m, r'⟩ := q
    subst eo
    exact thn (h2 pins s1 σ' H' ρ' o I' r' e) fun _ _ z => spImp z (ends_up m)
  | ret u =>
    obtain ⟨v, σ', H', I', rv, d, eo, m, p⟩ := q
    subst eo
    simp only [Option.some.injEq] at e
    subst e
    exact ⟨v, σ', H', I', rv, d, rfl, m, p⟩
  | brk =>
    obtain ⟨σ', H', I', ρ', eo, m, r'⟩ := q
    subst eo
    simp only [Option.some.injEq] at e
    subst e
    exact ⟨σ', H', I', ρ', rfl, m, r'⟩
  | cont =>
    obtain ⟨σ', H', I', ρ', eo, m, r'⟩ := q
    subst eo
    simp only [Option.some.injEq] at e
    subst e
    exact ⟨σ', H', I', ρ', rfl, m, r'⟩
theorem fs_ret {e : Expr} {f : FE} (h : FEx X e f) : FSx X (.Return (some e) pos) (sRet f) := by
  refine ⟨fun pins s σ H ρ o I r ef => ?_⟩
  simp only [sRet] at ef
  obtain ⟨d, ed, ef⟩ := Option.bind_eq_some_iff.mp ef
  cases ef
  exact wpAny_Return_some (thn (h pins s σ H ρ d I r ed) fun u s1 ⟨v, H1, I1, rv, m, p⟩ => ⟨v, σ, H1, I1, rv, d, rfl, m, p⟩)
theorem fs_if {c : Expr} {a b : List Stmt} {t : FT} {ga gb : FS} (hc : FTx X c t) (ha : FSs X a ga) (hb : FSs X b gb) : FSx X (.If c a b pos) (sIf t ga gb) := by
  refine ⟨fun pins s σ H ρ o I r e => ?_⟩
  simp only [sIf] at e
  obtain ⟨c1, e1, e⟩ := Option.bind_eq_some_iff.mp e
  refine wpAny_If (thn (hc pins s σ H ρ c1 I r e1) fun c' s1 ⟨ec, H1, I1, m1⟩ => ?_)
  subst ec
  cases c' with
  | true => exact thn (ha pins s1 σ H1 ρ o I1 (r.mono m1) (by simpa using e)) fun _ _ z => spImp z (ends_up m1)
  | false => exact thn (hb pins s1 σ H1 ρ o I1 (r.mono m1) (by simpa using e)) fun _ _ z => spImp z (ends_up m1)
theorem fs_set {i : Nat} {x : Str} {e : Expr} {f : FE} {pos' : Pos} (hN : X.N.Nodup) (hi : X.N[i]? = some x) (hx : Loc X.env.scope x) (he : FEx X e f) (hs : swapsWith e (some (.Name x pos')) pos.line X.env = pure false := by rfl)
    (hf : X.fn x = true ∨ X.env.scope.names.lookup x = some .local := by first | exact .inl rfl | exact .inr rfl | assumption) : FSx X (.Assign [.Name x pos'] e pos) (sSet i f) := by
  refine FSx.of (ps_set hN hi hx he.pe hs hf) fun σ H ρ o r eo => ?_
  simp only [sSet] at eo
  obtain ⟨d, ed, eo⟩ := Option.bind_eq_some_iff.mp eo
  cases eo
  exact ⟨ρ, d, r, ed, fun v H' m p => ⟨_, rfl, m, (r.mono m).set p i⟩⟩
def PI.or' {tg iter : Expr} {w1 w2 : TI} (h1 : PI X tg iter w1) (h2 : PI X tg iter w2) : PI X tg iter (fun σ H R => w1 σ H R ∨ w2 σ H R) := fun pins s σ H R I h => h.elim (h1 pins s σ H R I) (h2 pins s σ H R I)
/-- one turn, as the loop's rule asks it -/
theorem for_turn {K : PySem.W.Frag} {i : Nat} {gb : FS} {H0 H1 H' : Hp} {σ' : St} {ρ' : En} {o : Out} {x : V} {d : D} {rest : List D} {Pn : St → Hp → Prop} (hx : Rep K H' x d) (r : RepS K H' σ' ρ') (m0 : Same H0 H1) (m : Same H1 H') (e : forGo i gb (d :: rest) ρ' = some o)
    (hP : ∀ ρ3 σ3 H3, Same H1 H3 → RepS K H3 σ3 ρ3 → forGo i gb rest ρ3 = some o → Pn σ3 H3) :
    tFS K gb { endsOf K H0 o with nx := Pn, ct := Pn, bk := (endsOf K H0 o).nx } (σ'.set i (some x)) H' := by
  simp only [forGo] at e
  obtain ⟨o2, e2, e⟩ := Option.bind_eq_some_iff.mp e
  refine ⟨ρ'.set i (some d), o2, r.set hx i, e2, ?_, ?_, ?_, ?_⟩
  · rintro σ3 H3 ⟨ρ3, eo, m3, r3⟩
    subst eo
    exact hP ρ3 σ3 H3 (m.trans m3) r3 e
  · rintro v H3 ⟨d3, eo, m3, p3⟩
    subst eo
    simp only [Option.some.injEq] at e
    exact ⟨d3, e.symm, m0.trans (m.trans m3), p3⟩
  · rintro σ3 H3 ⟨ρ3, eo, m3, r3⟩
    subst eo
    simp only [Option.some.injEq] at e
    exact ⟨ρ3, e.symm, m0.trans (m.trans m3), r3⟩
  · rintro σ3 H3 ⟨ρ3, eo, m3, r3⟩
    subst eo
    exact hP ρ3 σ3 H3 (m.trans m3) r3 e
theorem drop_at {α : Type} {xs : List α} {k : Nat} {x : α} (h : xs[k]? = some x) : xs.drop k = x :: xs.drop (k + 1) := by
  obtain ⟨h1, h2⟩ := List.getElem?_eq_some_iff.mp h
  rw [← h2]
  exact List.drop_eq_getElem_cons h1
theorem fs_forSeq {i : Nat} {x : Str} {iter : Expr} {f : FE} {body : List Stmt} {gb : FS} {p2 : Pos} (hN : X.N.Nodup) (hi : X.N[i]? = some x) (hx : Loc X.env.scope x) (he : FEx X iter f) (hb : FSs X body gb)
    (hp : PassesOwn (model X.prog X.w) X.A X.env X.xe := by exact PassesOwn.never) (hc : X.calm = true := by rfl)
    (hf : X.fn x = true ∨ X.env.scope.names.lookup x = some .local := by first | exact .inl rfl | exact .inr rfl | assumption)
    (hs : ∀ x, foldedSetIterable iter X.env x = pure x := by intro _; rfl) : FSx X (.For (.Name x p2) iter body [] pos) (sForSeq i f gb) := by
  refine FSx.of (ps_for hp hc (PI.or' (pi_list he.pe) (pi_tup he.pe)) (pg_name hN hi hx hf) hb.ps hs) fun σ H ρ o r eo => ?_
  simp only [sForSeq] at eo
  obtain ⟨xs, exs, eo⟩ := Option.bind_eq_some_iff.mp eo
  obtain ⟨d, ed, exs⟩ := Option.bind_eq_some_iff.mp exs
  cases d <;> simp only [seqOf] at exs <;> first | contradiction | skip
  · cases exs
    refine .inl ⟨ρ, _, r, ed, fun v H1 m1 p1 => ?_⟩
    cases p1
    rename_i a vs h q
    refine ⟨a, rfl, ⟨vs, h⟩, ?_⟩
    refine for_list (xs := vs) (fun k σ' H' => ∃ ρ', RepS X.K H' σ' ρ' ∧ Same H1 H' ∧ forGo i gb (xs.drop k) ρ' = some o) ⟨ρ, r.mono m1, Same.refl _, by rw [List.drop_zero]; exact eo⟩ ?_ ?_ ?_
    · rintro k σ' H' _ ⟨ρ', _, m', _⟩
      exact m'.seq h
    · rintro k z σ' H' hz ⟨ρ', r', m', e'⟩
      have hl := q.length
      have hk : k < xs.length := by rw [← hl]; exact (List.getElem?_eq_some_iff.mp hz).1
      obtain ⟨dk, hdk⟩ : ∃ dk, xs[k]? = some dk := ⟨xs[k], by simp [hk]⟩
      obtain ⟨z', hz', pz⟩ := q.get hdk
      rw [hz] at hz'; cases hz'
      rw [drop_at hdk] at e'
      exact for_turn (pz.mono m') r' m1 m' e' fun ρ3 σ3 H3 m3 r3 e3 => ⟨ρ3, r3, m3, e3⟩
    · rintro σ' H' ⟨ρ', r', m', e'⟩
      rw [q.length, List.drop_length] at e'
      simp only [forGo, Option.some.injEq] at e'
      exact ⟨ρ', e'.symm, m1.trans m', r'⟩
  · cases exs
    refine .inr ⟨ρ, _, r, ed, fun v H1 m1 p1 => ?_⟩
    cases p1
    rename_i a vs h q
    refine ⟨a, rfl, ⟨vs, h⟩, ?_⟩
    refine for_tup (xs := vs) (fun k σ' H' => ∃ ρ', RepS X.K H' σ' ρ' ∧ Same H1 H' ∧ forGo i gb (xs.drop k) ρ' = some o) ⟨ρ, r.mono m1, Same.refl _, by rw [List.drop_zero]; exact eo⟩ ?_ ?_ ?_
    · rintro k σ' H' _ ⟨ρ', _, m', _⟩
      exact sqT_mono m' h
    · rintro k z σ' H' hz ⟨ρ', r', m', e'⟩
      have hl := q.length
      have hk : k < xs.length := by rw [← hl]; exact (List.getElem?_eq_some_iff.mp hz).1
      obtain ⟨dk, hdk⟩ : ∃ dk, xs[k]? = some dk := ⟨xs[k], by simp [hk]⟩
      obtain ⟨z', hz', pz⟩ := q.get hdk
      rw [hz] at hz'; cases hz'
      rw [drop_at hdk] at e'
      exact for_turn (pz.mono m') r' m1 m' e' fun ρ3 σ3 H3 m3 r3 e3 => ⟨ρ3, r3, m3, e3⟩
    · rintro σ' H' ⟨ρ', r', m', e'⟩
      rw [q.length, List.drop_length] at e'
      simp only [forGo, Option.some.injEq] at e'
      exact ⟨ρ', e'.symm, m1.trans m', r'⟩
def Itc (z : Str) : It := ⟨fun i _ => i < z.length, fun i H x H' => H' = H ∧ ∃ c, z.cps.toList[i]? = some c ∧ x = .str ⟨#[c]⟩, fun i _ => z.length ≤ i⟩
theorem turn_str {P : Program} {w : World} {K : PySem.W.Frag} {tg : Expr} (z : Str) (t : Tok) (it : Addr) : Turn P w K tg (Itc z) [it] it (fun i h => h.IsStrIter it "str_ascii_iterator" z t i ∨ h.IsStrIter it "str_iterator" z t i) where
  mem := by simp
  obj := fun i h st b hb => by
    have e : b = it := by simpa using hb
    subst e
    rcases st with ⟨o, e, c, d⟩ | ⟨o, e, c, d⟩
    · exact ⟨o, e, fun v z => by rw [d] at z; cases z⟩
    · exact ⟨o, e, fun v z => by rw [d] at z; cases z⟩
  keep := fun i h h' st k => by
    rcases st with ⟨o, e, c⟩ | ⟨o, e, c⟩
    · exact .inl ⟨o, k it (by simp) o e, c⟩
    · exact .inr ⟨o, k it (by simp) o e, c⟩
  item := by
    intro X hP hw hK hc i pins s σ H E I hf st hg
    subst hP hw hK
    obtain ⟨f0, f1, f2, f3, f4, f5⟩ := hf it (by simp)
    have hg' : i < z.cps.size := hg
    have hcx : z.cps[i]? = some z.cps[i] := by simp [hg']
    have hcl : z.cps.toList[i]? = some z.cps[i] := by simp [hg']
    rcases st with st | st
    · refine wpAny_pyNext_ascii_item st hcx fun h' st' sb => ?_
      have I1 : Inv X pins σ H { s with heap := h', toks := s.toks + 1 } := I.turned (fun b o hb e => (sb.2 b hb).trans e) f0 f1 f3 f4 f5
      obtain ⟨o, e, c, d⟩ := id st'
      exact ⟨_, rfl, go_of (s := { s with heap := h', toks := s.toks + 1 }) e c d (by decide) ⟨.str ⟨#[z.cps[i]]⟩, H, I1, ⟨_, rfl⟩, ⟨rfl, _, hcl, rfl⟩, .inl st', fun b hb => (hf b hb).1⟩⟩
    · refine wpAny_pyNext_wide_item st hcx fun h' st' sb => ?_
      have I1 : Inv X pins σ H { s with heap := h', toks := s.toks + 1 } := I.turned (fun b o hb e => (sb.2 b hb).trans e) f0 f1 f3 f4 f5
      obtain ⟨o, e, c, d⟩ := id st'
      exact ⟨_, rfl, go_of (s := { s with heap := h', toks := s.toks + 1 }) e c d (by decide) ⟨.str ⟨#[z.cps[i]]⟩, H, I1, ⟨_, rfl⟩, ⟨rfl, _, hcl, rfl⟩, .inr st', fun b hb => (hf b hb).1⟩⟩
  done := by
    intro X hP hw hK hc i pins s σ H E I hf st hg
    subst hP hw hK
    obtain ⟨f0, f1, f2, f3, f4, f5⟩ := hf it (by simp)
    have hg' : z.cps.size ≤ i := hg
    have hcx : z.cps[i]? = none := by simp [hg']
    rcases st with st | st
    · exact wpAny_pyNext_ascii_end (I.ok.hd hc) st hcx fun h' eb => ⟨rfl, I.turned (t' := s.toks) (fun b o hb e => eb b o hb e) f0 f1 f3 f4 f5⟩
    · exact wpAny_pyNext_wide_end (I.ok.hd hc) st hcx fun h' eb => ⟨rfl, I.turned (t' := s.toks) (fun b o hb e => eb b o hb e) f0 f1 f3 f4 f5⟩
  self := fun A i s Q E st h => by
    rcases st with st | st
    · exact wpAny_pyIter_striter_ascii st h
    · exact wpAny_pyIter_striter_wide st h
def iStr (tl : TE) : TI := fun σ H R => tl σ H fun x H1 => ∃ z, x = .str z ∧ R (Itc z) H1
theorem pi_str {tg l : Expr} {tl : TE} (hl : PE X l tl) : PI X tg l (iStr tl) := by
  intro pins s σ H R I h
  refine thn (hl pins s σ H _ I h) fun v s1 ⟨x, H1, I1, r1, q1⟩ => ?_
  obtain ⟨z, e, q⟩ := q1
  subst e
  obtain ⟨t, rfl⟩ := r1
  by_cases ha : z.cps.all (· < 128) = true
  · refine wpAny_pyIter_ascii ha ⟨s1.heap.objs.size, [s1.heap.objs.size], _, _, H1, rfl, I1.kept (t' := s1.toks) fun b o e => Heap.get?_push_of_some _ e, turn_str z t _, .inl ⟨_, Heap.get?_push_size _ rfl, rfl, rfl⟩, fun b hb => ?_, q⟩
    have e : b = s1.heap.objs.size := by simpa using hb
    subst e
    exact I1.fpOk (Nat.le_refl _) (I1.hok.fresh (Nat.le_refl _))
  · refine wpAny_pyIter_wide (by simpa using ha) ⟨s1.heap.objs.size, [s1.heap.objs.size], _, _, H1, rfl, I1.kept (t' := s1.toks) fun b o e => Heap.get?_push_of_some _ e, turn_str z t _, .inr ⟨_, Heap.get?_push_size _ rfl, rfl, rfl⟩, fun b hb => ?_, q⟩
    have e : b = s1.heap.objs.size := by simpa using hb
    subst e
    exact I1.fpOk (Nat.le_refl _) (I1.hok.fresh (Nat.le_refl _))
theorem fs_forStr {i : Nat} {x : Str} {iter : Expr} {f : FE} {body : List Stmt} {gb : FS} {p2 : Pos} (hN : X.N.Nodup) (hi : X.N[i]? = some x) (hx : Loc X.env.scope x) (he : FEx X iter f) (hb : FSs X body gb)
    (hp : PassesOwn (model X.prog X.w) X.A X.env X.xe := by exact PassesOwn.never) (hc : X.calm = true := by rfl)
    (hf : X.fn x = true ∨ X.env.scope.names.lookup x = some .local := by first | exact .inl rfl | exact .inr rfl | assumption)
    (hs : ∀ x, foldedSetIterable iter X.env x = pure x := by intro _; rfl) : FSx X (.For (.Name x p2) iter body [] pos) (sForStr i f gb) := by
  refine FSx.of (ps_for hp hc (pi_str he.pe) (pg_name hN hi hx hf) hb.ps hs) fun σ H ρ o r eo => ?_
  simp only [sForStr] at eo
  obtain ⟨z, exs, eo⟩ := Option.bind_eq_some_iff.mp eo
  obtain ⟨d, ed, exs⟩ := Option.bind_eq_some_iff.mp exs
  cases d <;> simp only [strOf] at exs <;> first | contradiction | skip
  cases exs
  refine ⟨ρ, _, r, ed, fun v H1 m1 p1 => ?_⟩
  cases p1
  refine ⟨z, rfl, ?_⟩
  have hlen : (chars z).length = z.length := by simp [chars, Str.length]
  refine ⟨fun k n σ' H' => n = z.length - k ∧ k ≤ z.length ∧ ∃ ρ', RepS X.K H' σ' ρ' ∧ Same H1 H' ∧ forGo i gb ((chars z).drop k) ρ' = some o, ⟨z.length, rfl, Nat.zero_le _, ρ, r.mono m1, Same.refl _, by rw [List.drop_zero]; exact eo⟩, ?_⟩
  rintro k n σ' H' ⟨rfl, hk, ρ', r', m', e'⟩
  by_cases hlt : k < z.length
  · refine .inr ⟨hlt, fun σ3 H3 => ∃ ρ3, RepS X.K H3 σ3 ρ3 ∧ Same H1 H3 ∧ forGo i gb ((chars z).drop (k + 1)) ρ3 = some o, fun σ3 H3 ⟨ρ3, a, b, c⟩ => ⟨z.length - (k + 1), by omega, rfl, hlt, ρ3, a, b, c⟩, ?_⟩
    rintro y H2 ⟨rfl, c, hc1, rfl⟩
    have hd : (chars z)[k]? = some (chr1 c) := by simp only [chars, List.getElem?_map, hc1, Option.map_some]
    rw [drop_at hd] at e'
    exact for_turn (Rep.str _) r' m1 m' e' fun ρ3 σ3 H3 m3 r3 e3 => ⟨ρ3, r3, m3, e3⟩
  · refine .inl ⟨Nat.le_of_not_lt hlt, ?_⟩
    have : (chars z).drop k = [] := List.drop_eq_nil_of_le (by rw [hlen]; exact Nat.le_of_not_lt hlt)
    rw [this] at e'
    simp only [forGo, Option.some.injEq] at e'
    exact ⟨ρ', e'.symm, m1.trans m', r'⟩
end

theorem repS_start {K : PySem.W.Frag} {H : Hp} {vs : List V} {ds : List D} (N : List Str) (r : Reps K H vs ds) : RepS K H (L2.start N vs) (FD.start N.length ds) := by
  have hl := r.length
  refine ⟨by simp [L2.start, FD.start, hl], fun i d h => ?_⟩
  simp only [L2.start, FD.start] at h ⊢
  by_cases hi : i < ds.length
  · rw [List.getElem?_append_left (by simpa using hi)] at h
    rw [List.getElem?_append_left (by simpa [hl] using hi)]
    rw [List.getElem?_map] at h ⊢
    cases hd : ds[i]? with
    | none => rw [hd] at h; cases h
    | some d' =>
      rw [hd] at h
      simp only [Option.map_some, Option.some.injEq] at h
      subst h
      obtain ⟨v, hv, p⟩ := r.get hd
      exact ⟨v, by rw [hv]; rfl, p⟩
  · rw [List.getElem?_append_right (by simpa using hi)] at h
    rw [List.getElem?_replicate] at h
    split at h <;> cases h
theorem okF {P : Program} {w : World} {K : PySem.W.Frag} {mg : Str → Option Value} {base : Heap} {x qual : Str} {st : Stmt} {f : Addr} {fd : FuncData} {N ps : List Str} {k : Nat} {g : FS} (F : Fun K x qual st f fd) (S : FnScope N ps (defScope st))
    (hbody : ∀ (cdv : Value) (A : Around) (outer : List Env) (s : Shared) (H : Hp) (E : XK), Room k (A.deeper (envOfC qual (defScope st) s.heap.objs.size f cdv)) →
      FSs (cxOf CX0 P w K mg base N qual (defScope st) f cdv A outer s H E).nox (defBody st) g) : FnOk P w K mg base CX0 (k + 1) f fd ps (spF K (bodyF N.length ps.length g)) := by
  have hlen : ∀ {ds : List D} {d : D}, bodyF N.length ps.length g ds = some d → ds.length = ps.length := fun {ds d} e => by
    simp only [bodyF] at e
    split at e
    · assumption
    · exact nomatch e
  refine F.ok S (fun vs H Q E h => ?_) fun cdv A outer s H vs Q E hr h => ?_
  · obtain ⟨ds, d, r, e, _⟩ := h
    rw [r.length]
    exact hlen e
  obtain ⟨ds, d, r, e, q⟩ := h
  refine ⟨tFS K g, (hbody cdv A outer s H E hr).ps, ?_⟩
  have hv := hlen e
  simp only [bodyF] at e
  rw [if_pos hv] at e
  obtain ⟨o, eo, e⟩ := Option.bind_eq_some_iff.mp e
  refine ⟨_, o, repS_start N r, eo, ?_, ?_, ?_, ?_⟩
  · rintro σ' H' ⟨ρ', rfl, m, _⟩
    simp only [retOf, Option.some.injEq] at e
    subst e
    exact q .non H' m .non
  · rintro v H' ⟨d', rfl, m, p⟩
    simp only [retOf, Option.some.injEq] at e
    subst e
    exact q v H' m p
  · rintro σ' H' ⟨ρ', rfl, _, _⟩
    simp [retOf] at e
  · rintro σ' H' ⟨ρ', rfl, _, _⟩
    simp [retOf] at e
end FD
end
section
set_option Elab.async false
set_option linter.all false
set_option maxRecDepth 100000
set_option maxHeartbeats 4000000
namespace FD
open PySem PySem.Spec PyProof.Rows L2

def clOf (fr : List Str) (env : Env) : List (Str × Addr) := fr.reverse.map fun n => (n, (env.cells.lookup n).getD 0)
theorem lookup_mapped (f : Str → Addr) (n : Str) : ∀ l : List Str, (l.map fun y => (y, f y)).lookup n = if n ∈ l then some (f n) else none
  | [] => by simp
  | y :: r => by
    rw [List.map_cons, List.lookup_cons]
    by_cases h : n = y
    · subst h; simp
    · have hb : (n == y) = false := by simpa using h
      rw [hb, lookup_mapped f n r]
      simp [h]
def compCx (X : Cx) (N : List Str) (scope : Scope) (cl : List (Str × Addr)) (C : Addr) (s₀ : Shared) (H₀ : Hp) (ex : List Addr) : Cx where
  prog := X.prog
  w := X.w
  K := X.K
  mg := X.mg
  base := X.base
  A := X.A
  N := N
  s₀ := s₀
  H₀ := H₀
  env := compEnvC scope cl C X.env
  outer := X.stack
  stack := X.stack
  ex := ex
  fn := fun _ => false
  calm := X.calm
  pn := []
  xe := fun _ _ => False
/-- the block's table, seen from around it -/
structure CompSc (X : Cx) (scope : Scope) (x : Str) (fr : List Str) (caps : List Nat) : Prop where
  kind : scope.kind = .function
  ncell : ∀ y ∈ scope.names, y.2 ≠ .cell
  names : ∀ y ∈ scope.names, y.2 = .local → scope.names.lookup y.1 = some .local
  hx : scope.names.lookup x = some .local
  frk' : (fr.all fun n => X.env.kindOf n == some .cell) = true
  frl' : (fr.all fun n => (relabel scope X.env).names.lookup n == some .cell || (relabel scope X.env).names.lookup n == some .free) = true
  all' : ((relabel scope X.env).names.all fun y => !(y.2 == .cell || y.2 == .free) || fr.contains y.1) = true
  caps : caps.map (X.N[·]?) = fr.map some
  nd : (x :: fr).Nodup
  clos : closureFor scope X.env = pure (clOf fr X.env)
theorem CompSc.frk {X : Cx} {scope : Scope} {x : Str} {fr : List Str} {caps : List Nat} (S : CompSc X scope x fr caps) : ∀ n ∈ fr, X.env.kindOf n = some .cell := fun n hn => by
  have := List.all_eq_true.mp S.frk' n hn
  simpa using this
theorem CompSc.frl {X : Cx} {scope : Scope} {x : Str} {fr : List Str} {caps : List Nat} (S : CompSc X scope x fr caps) : ∀ n ∈ fr, (relabel scope X.env).names.lookup n = some .cell ∨ (relabel scope X.env).names.lookup n = some .free := fun n hn => by
  have := List.all_eq_true.mp S.frl' n hn
  simpa using this
theorem CompSc.all {X : Cx} {scope : Scope} {x : Str} {fr : List Str} {caps : List Nat} (S : CompSc X scope x fr caps) : ∀ y ∈ (relabel scope X.env).names, (y.2 = .cell ∨ y.2 = .free) → y.1 ∈ fr := fun y hy h => by
  have := List.all_eq_true.mp S.all' y hy
  have h' : (y.2 == .cell || y.2 == .free) = true := by rcases h with h | h <;> simp [h]
  rw [h'] at this
  simpa using this
theorem lookup_mem {names : List (Str × NameKind)} {n : Str} {k : NameKind} (h : names.lookup n = some k) : (n, k) ∈ names := by
  induction names with
  | nil => cases h
  | cons y r ih =>
    obtain ⟨a, b⟩ := y
    rw [List.lookup_cons] at h
    by_cases hb : (n == a) = true
    · rw [hb] at h
      simp only [Option.some.injEq] at h
      have : n = a := by simpa using hb
      subst this h
      exact List.mem_cons_self ..
    · have hb' : (n == a) = false := by simpa using hb
      rw [hb'] at h
      exact List.mem_cons_of_mem _ (ih h)

section
variable {prog : Program} {w : World} {A : Around} {R : Result → Shared → Prop} {s : Shared}
/-- the block's loop, one test -/
theorem comp_loop {elt target iter c : Expr} {scope : Scope} {pos : Pos} {it acc : Value} {env : Env} (I : Nat → Shared → Prop)
    (turn : ∀ n s, I n s → wpAny (model prog w) A (pyNext it) (fun r s₁ => match r with
      | none => R (.ok .next) s₁
      | some v => wpAny (model prog w) A (letOwnedTupleGo target it v) (fun _ s₂ => wpAny (model prog w) A (assign target env v) (fun _ s₃ =>
          wpAny (model prog w) A (isTrue c env (eval c env)) (fun ok s₄ =>
            if ok = true then wpAny (model prog w) A (eval elt env) (fun x s₅ =>
              wpAny (model prog w) A (call (.builtin "list.append") [acc, x]) (fun _ s₆ => ∃ m, m < n ∧ I m s₆) (fun _ _ => False) s₅) (fun _ _ => False) s₄
            else ∃ m, m < n ∧ I m s₄) (fun _ _ => False) s₃) (fun _ _ => False) s₂) (fun _ _ => False) s₁) (fun _ _ => False) s)
    (n : Nat) (h : I n s) : codeAny (model prog w) A (.compLoop (.ListComp elt [⟨target, iter, [c], 0⟩] scope pos) 0 it acc env) R s := by
  refine codeAny_loop rfl I (fun n s hI => ?_) n h
  show wpAny _ A ((compTurn (.ListComp elt [⟨target, iter, [c], 0⟩] scope pos) 0 it acc env).onRaise (fun x => do noteFrame x env; theTreesLotGoes x)) _ _ s
  refine wpAny_noted ?_
  rw [compTurn_list]
  have no : ∀ {E : Value → Shared → Prop} (a : Value) (b : Shared), (fun _ _ => False : Value → Shared → Prop) a b → E a b := fun _ _ z => False.elim z
  refine wpAny_bind (wpAny_standAt (wpAny_bind (wpAny_mono (turn n s hI) (fun r s₁ h₁ => ?_) no)))
  cases r with
  | none => exact wpAny_pure h₁
  | some v =>
    refine wpAny_bind (wpAny_mono h₁ (fun _ s₂ h₂ => ?_) no)
    refine wpAny_bind (wpAny_mono h₂ (fun _ s₃ h₃ => wpAny_bind (wpAny_tests_one (wpAny_mono h₃ (fun ok s₄ h₄ => ?_) no))) no)
    cases ok with
    | false => exact wpAny_pure ⟨rfl, h₄⟩
    | true =>
      exact wpAny_bind (wpAny_bind (wpAny_mono h₄ (fun x s₅ h₅ => wpAny_bind (wpAny_mono h₅ (fun _ s₆ h₆ => wpAny_pure (wpAny_pure ⟨rfl, h₆⟩)) no)) no))
end

section
variable {X : Cx} {pos : Pos}
/-- how an iterator goes over data -/
structure Goes (K : PySem.W.Frag) (J : It) (H2 : Hp) (xs : List D) : Prop where
  go : ∀ k Hc, Same H2 Hc → k < xs.length → J.go k Hc
  stop : ∀ k Hc, Same H2 Hc → xs.length ≤ k → J.stop k Hc
  yld : ∀ k Hc v H', Same H2 Hc → k < xs.length → J.yld k Hc v H' → H' = Hc ∧ ∃ d, xs[k]? = some d ∧ Rep K Hc v d
theorem goes_list {K : PySem.W.Frag} {H2 : Hp} {a : Addr} {vs : List V} {xs : List D} (h : SqL K H2 a vs) (q : Reps K H2 vs xs) : Goes K (Itl K a) H2 xs where
  go := fun k Hc m hk => by
    have hk' : k < vs.length := by rw [q.length]; exact hk
    exact ⟨vs, vs[k], m.seq h, by simp [hk']⟩
  stop := fun k Hc m hk => ⟨vs, m.seq h, by rw [q.length]; exact hk⟩
  yld := fun k Hc v H' m hk y => by
    obtain ⟨e, y⟩ := y
    obtain ⟨d, hd⟩ : ∃ d, xs[k]? = some d := ⟨xs[k], by simp [hk]⟩
    obtain ⟨v', hv, p⟩ := q.get hd
    have := y vs (m.seq h)
    rw [hv] at this; cases this
    exact ⟨e, d, hd, p.mono m⟩
theorem goes_tup {K : PySem.W.Frag} {H2 : Hp} {a : Addr} {vs : List V} {xs : List D} (h : SqT K H2 a vs) (q : Reps K H2 vs xs) : Goes K (Itt K a) H2 xs where
  go := fun k Hc m hk => by
    have hk' : k < vs.length := by rw [q.length]; exact hk
    exact ⟨vs, vs[k], sqT_mono m h, by simp [hk']⟩
  stop := fun k Hc m hk => ⟨vs, sqT_mono m h, by rw [q.length]; exact hk⟩
  yld := fun k Hc v H' m hk y => by
    obtain ⟨e, y⟩ := y
    obtain ⟨d, hd⟩ : ∃ d, xs[k]? = some d := ⟨xs[k], by simp [hk]⟩
    obtain ⟨v', hv, p⟩ := q.get hd
    have := y vs (sqT_mono m h)
    rw [hv] at this; cases this
    exact ⟨e, d, hd, p.mono m⟩

def capsV (caps : List Nat) (σ : St) : St := caps.map fun i => (σ[i]?).bind id
def capsD (caps : List Nat) (ρ : En) : En := caps.map fun i => (ρ[i]?).bind id
theorem bind_id {α : Type} {o : Option (Option α)} {a : α} (h : o.bind id = some a) : o = some (some a) := by
  cases o with
  | none => cases h
  | some z => simp only [Option.bind_some, id] at h; rw [h]
theorem repS_caps {K : PySem.W.Frag} {H : Hp} {σ : St} {ρ : En} (r : RepS K H σ ρ) (caps : List Nat) : RepS K H (none :: capsV caps σ) (none :: capsD caps ρ) := by
  refine ⟨by simp [capsV, capsD], fun i d h => ?_⟩
  cases i with
  | zero => simp at h
  | succ i =>
    simp only [List.getElem?_cons_succ, capsV, capsD, List.getElem?_map] at h ⊢
    cases hc : caps[i]? with
    | none => rw [hc] at h; cases h
    | some k =>
      rw [hc] at h
      simp only [Option.map_some, Option.some.injEq] at h
      obtain ⟨v, hv, p⟩ := r.2 k d (bind_id h)
      exact ⟨v, by simp [hv], p⟩

structure CFacts (X : Cx) (pins : List (Addr × Obj)) (H' : Hp) (C : Addr) : Prop where
  free : H' C = none
  ne : C ≠ X.env.locals
  above : X.s₀.heap.objs.size ≤ C
  cells : ∀ x c, X.env.cells.lookup x = some c → c ≠ C
  pins : ∀ p ∈ X.pn ++ pins, p.1 ≠ C

theorem comp_inv {scope : Scope} {x : Str} {fr : List Str} {caps : List Nat} (S : CompSc X scope x fr caps) {pins : List (Addr × Obj)} {σ : St} {H2 : Hp} {s2 : Shared} (I2 : Inv X pins σ H2 s2) {fp : List Addr} (hfp : ∀ b ∈ fp, FpOk X pins H2 b) (hlt : ∀ b ∈ fp, b < s2.heap.objs.size)
    {C : Addr} (hC : s2.heap.objs.size ≤ C) {h1 : Heap} {tk : Nat} (old : ∀ b o, s2.heap.get? b = some o → h1.get? b = some o) {m : Str → Option Value} (hn : h1.Ns C m) :
    Inv (compCx X (x :: fr) scope (clOf fr X.env) C s2 H2 fp) [] (none :: capsV caps σ) H2 { s2 with heap := h1, toks := tk } := by
  have clE : ∀ {n : Str} {c : Addr}, (clOf fr X.env).lookup n = some c → n ∈ fr ∧ X.env.cells.lookup n = some c := fun {n c} h => by
    unfold clOf at h
    rw [lookup_mapped (fun n => (X.env.cells.lookup n).getD 0)] at h
    split at h
    · rename_i hm
      have hm' : n ∈ fr := List.mem_reverse.mp hm
      obtain ⟨c', hc'⟩ := I2.ok.has n (.inl (S.frk n hm'))
      rw [hc'] at h
      simp only [Option.getD_some, Option.some.injEq] at h
      exact ⟨hm', by rw [hc', h]⟩
    · cases h
  have clI : ∀ {n : Str} {c : Addr}, n ∈ fr → X.env.cells.lookup n = some c → (clOf fr X.env).lookup n = some c := fun {n c} hm h => by
    unfold clOf
    rw [lookup_mapped (fun n => (X.env.cells.lookup n).getD 0), if_pos (List.mem_reverse.mpr hm), h]
    rfl
  have fs' : ∀ b ∈ frs X.stack, b = X.env.locals ∨ b ∈ X.fs := fun b hb => List.mem_cons.mp (I2.stkSub b hb)
  have cellLt : ∀ n c, X.env.cells.lookup n = some c → c < s2.heap.objs.size := fun n c h => let ⟨v, q⟩ := I2.cell n c h; q.lt
  have ok : (compCx X (x :: fr) scope (clOf fr X.env) C s2 H2 fp).Ok := {
    mod := I2.ok.mod
    kind := S.kind
    glob := I2.ok.glob
    blt := I2.ok.blt
    above := hC
    inj := fun a b c h1 h2 => I2.ok.inj a b c (clE h1).2 (clE h2).2
    has := fun n h => by
      have hm : n ∈ fr := by
        rcases h with h | h
        · exact S.all _ (lookup_mem h) (.inl rfl)
        · exact S.all _ (lookup_mem h) (.inr rfl)
      obtain ⟨c, hc⟩ := I2.ok.has n (.inl (S.frk n hm))
      exact ⟨c, clI hm hc⟩
    cab := fun _ _ h => nomatch h
    hd := I2.ok.hd
    frames := I2.ok.frames
    stk := .inl rfl
    exf := fun b hb => ⟨Nat.ne_of_lt (Nat.lt_of_lt_of_le (hlt b hb) hC), fun n c h => (hfp b hb).2.2.2.2.1 n c (clE h).2⟩
    bs := I2.bs
    bsz := Nat.le_trans I2.ok.bsz I2.sz
    noex := fun b o e hb => by
      rcases (hfp b hb).2.2.2.1 with h | h
      · exact I2.ok.noex b o e h
      · exact absurd (Nat.lt_of_lt_of_le (Heap.lt_size e) (Nat.le_trans I2.ok.bsz h)) (Nat.lt_irrefl _)
    exfs := fun b hb hf => by
      rcases fs' b hf with h | h
      · exact (hfp b hb).2.1 h
      · exact (hfp b hb).2.2.1 h
    funs := I2.stack
    frf := I2.stkFree }
  have CN : H2 C = none := I2.hok.fresh hC
  refine ⟨ok, rfl, I2.bare, Un.kept old, ⟨m, hn, ?_⟩, ?_, CN, ?_, (fun p hp => nomatch hp), I2.hok.kept old, ?_⟩
  · intro i n v hi hv hvis
    cases i with
    | zero => simp at hv
    | succ i =>
      have hi' : fr[i]? = some n := hi
      simp only [List.getElem?_cons_succ, capsV, List.getElem?_map] at hv
      cases hc : caps[i]? with
      | none => rw [hc] at hv; cases hv
      | some k =>
        rw [hc] at hv
        simp only [Option.map_some, Option.some.injEq] at hv
        have hσ := bind_id hv
        have hm : n ∈ fr := List.mem_of_getElem? hi'
        have hN : X.N[k]? = some n := by
          have e1 : (caps.map (X.N[·]?))[i]? = some (X.N[k]?) := by rw [List.getElem?_map, hc]; rfl
          rw [S.caps, List.getElem?_map, hi'] at e1
          simp only [Option.map_some, Option.some.injEq] at e1
          exact e1.symm
        obtain ⟨m', _, hl⟩ := I2.loc
        obtain ⟨u, ru, lk⟩ := hl k n v hN hσ (.inr (.inl (S.frk n hm)))
        rcases lk with ⟨hk, _⟩ | ⟨_, c, hcell, hic⟩
        · rw [S.frk n hm] at hk; cases hk
        · refine ⟨u, ru, .inr ⟨S.frl n hm, c, clI hm hcell, ?_⟩⟩
          obtain ⟨o, ho, r⟩ := hic
          exact ⟨o, old c o ho, r⟩
  · intro n c h
    obtain ⟨v, o, ho, r⟩ := I2.cell n c (clE h).2
    exact ⟨v, o, old c o ho, r⟩
  · intro n c h
    exact I2.freeC n c (clE h).2
  · have := congrArg List.length S.caps
    simp only [List.length_map] at this
    simp [compCx, capsV, this]

theorem comp_block {scope : Scope} {x : Str} {fr : List Str} {caps : List Nat} (S : CompSc X scope x fr caps) {pins : List (Addr × Obj)} {σ : St} {H2 : Hp} {s2 : Shared} (I2 : Inv X pins σ H2 s2) {ρ : En} (r : RepS X.K H2 σ ρ)
    {elt iter c : Expr} {px : Pos} {it : Addr} {fp : List Addr} {tn : Nat → Heap → Prop} {J : It} (T : Turn X.prog X.w X.K (.Name x px) J fp it tn) (t0 : tn 0 s2.heap) (hfp : ∀ b ∈ fp, FpOk X pins H2 b) (calm : X.calm = true)
    {xs ys : List D} (hz : xs.length ≤ 1000) (G : Goes X.K J H2 xs) {t : FT} {e : FE} (ht : ∀ C s₀ H₀ ex, FTx (compCx X (x :: fr) scope (clOf fr X.env) C s₀ H₀ ex) c t) (he : ∀ C s₀ H₀ ex, FEx (compCx X (x :: fr) scope (clOf fr X.env) C s₀ H₀ ex) elt e)
    (eg : compGo t e (capsD caps ρ) xs = some ys) {RR : Value → Addr → Result → Shared → Prop} {E : Value → Shared → Prop}
    (hRR : ∀ acc C s' H', Inv X pins σ H' s' → Same H2 H' → Rep X.K H' (.ref acc) (.list ys) → CFacts X pins H' C → (∃ m, s'.heap.Ns C m) → RR (.ref acc) C (.ok .next) s') :
    wpAny (model X.prog X.w) X.A (newList []) (fun acc s₃ => wpAny (model X.prog X.w) X.A (newFunctionEnv scope X.env.globals (clOf fr X.env) [] X.env.qual none .none (some X.env)) (fun cenv s₄ =>
      codeAny (model X.prog X.w) X.A (.compStart (.ListComp elt [⟨.Name x px, iter, [c], 0⟩] scope pos) 0 (.ref it) acc { cenv with scope := relabel scope X.env }) (RR acc cenv.locals) s₄) E s₃) E s2 := by
  refine wpAny_newObj_type (wpAny_newFunctionEnv S.ncell (by intro y hy; simp at hy) (fun h₁ hns₁ hsb₁ => ?_) S.kind)
  dsimp only at hns₁ hsb₁ ⊢
  generalize hH2 : s2.heap.push { cls := .type "list", dict := none, data := .seq ([] : List Value).toArray } = Hx at hns₁ hsb₁ ⊢
  have hC : Hx.objs.size = s2.heap.objs.size + 1 := by rw [← hH2, Heap.size_push]
  have hDC : s2.heap.objs.size ≠ Hx.objs.size := by rw [hC]; exact Nat.ne_of_lt (Nat.lt_succ_self _)
  have hCle : s2.heap.objs.size ≤ Hx.objs.size := by rw [hC]; exact Nat.le_succ _
  have below : ∀ b, b < s2.heap.objs.size → b ≠ Hx.objs.size ∧ b ≠ s2.heap.objs.size := fun b hb => ⟨by rw [hC]; exact Nat.ne_of_lt (Nat.lt_succ_of_lt hb), Nat.ne_of_lt hb⟩
  have old : ∀ b o, s2.heap.get? b = some o → h₁.get? b = some o := fun b o e => hsb₁.extBut b o (below b (Heap.lt_size e)).1 (Heap.get?_push_of_some _ (hH2 ▸ Heap.get?_push_of_some _ e))
  have hacc : h₁.PlainList s2.heap.objs.size #[] := ⟨_, hsb₁.extBut _ _ hDC (Heap.get?_push_of_some _ (hH2 ▸ Heap.get?_push_size _ rfl))⟩
  have hlt : ∀ b ∈ fp, b < s2.heap.objs.size := fun b hb => let ⟨o, ho, _⟩ := T.obj 0 _ t0 b hb; Heap.lt_size ho
  have t1 : tn 0 h₁ := T.keep 0 _ _ t0 fun b _ o ho => old b o ho
  generalize hX : compCx X (x :: fr) scope (clOf fr X.env) Hx.objs.size s2 H2 fp = X'
  have hX'K : X'.K = X.K := by rw [← hX]; rfl
  have I0 : Inv X' [] (none :: capsV caps σ) H2 { s2 with heap := h₁, toks := s2.toks + ([] : List (Str × Value)).length } := by rw [← hX]; exact comp_inv S I2 hfp hlt hCle old hns₁
  have fpo : ∀ {Hc : Hp}, Hc s2.heap.objs.size = none → (∀ b ∈ fp, Hc b = none) → ∀ b ∈ s2.heap.objs.size :: fp, FpOk X' [] Hc b := fun {Hc} hD hf b hb => by
    subst hX
    rcases List.mem_cons.mp hb with rfl | hb
    · refine ⟨hD, hDC, ?_, .inr (Nat.le_refl _), fun n c h => ?_, fun p hp => nomatch hp⟩
      · intro z
        rcases List.mem_cons.mp (I2.stkSub _ z) with z | z
        · exact absurd I2.lt (by rw [← z]; exact Nat.lt_irrefl _)
        · exact I2.nofs (Nat.le_refl _) z
      · obtain ⟨v, q⟩ := I0.cell n c h
        intro z
        have h2 : (clOf fr X.env).lookup n = some c := h
        unfold clOf at h2
        rw [lookup_mapped (fun n => (X.env.cells.lookup n).getD 0)] at h2
        split at h2
        · rename_i hm
          obtain ⟨c', hc'⟩ := I2.ok.has n (.inl (S.frk n (List.mem_reverse.mp hm)))
          rw [hc'] at h2
          simp only [Option.getD_some, Option.some.injEq] at h2
          obtain ⟨v', q'⟩ := I2.cell n c' hc'
          have := q'.lt
          rw [h2, z] at this
          exact Nat.lt_irrefl _ this
        · cases h2
    · refine ⟨hf b hb, Nat.ne_of_lt (Nat.lt_of_lt_of_le (hlt b hb) hCle), I0.ok.exfs b hb, .inl hb, (I0.ok.exf b hb).2, fun p hp => nomatch hp⟩
  have loop : ∀ s₃ : Shared, s₃ = { s2 with heap := h₁, toks := s2.toks + ([] : List (Str × Value)).length } →
      codeAny (model X.prog X.w) X.A (.compLoop (.ListComp elt [⟨.Name x px, iter, [c], 0⟩] scope pos) 0 (.ref it) (.ref s2.heap.objs.size) (compEnvC scope (clOf fr X.env) Hx.objs.size X.env))
        (RR (.ref s2.heap.objs.size) Hx.objs.size) s₃ := by
    rintro s₃ rfl
    refine comp_loop (fun n s' => ∃ k σ' Hc y vs us ys1 ys2, n = xs.length - k ∧ k ≤ xs.length ∧ Inv X' [] σ' Hc s' ∧ tn k s'.heap ∧ Same H2 Hc ∧ (∀ b ∈ fp, Hc b = none) ∧ Hc s2.heap.objs.size = none ∧ RepS X.K Hc σ' (y :: capsD caps ρ) ∧
      s'.heap.PlainList s2.heap.objs.size us.toArray ∧ Vals vs us ∧ Reps X.K Hc vs ys1 ∧ compGo t e (capsD caps ρ) (xs.drop k) = some ys2 ∧ ys = ys1 ++ ys2 ∧ us.length ≤ k) ?_ (xs.length)
      ⟨0, _, H2, none, [], [], [], ys, rfl, Nat.zero_le _, I0, t1, Same.refl _, fun b hb => (hfp b hb).1, I2.hok.fresh (Nat.le_refl _), repS_caps r caps, hacc, .nil, .nil, by rw [List.drop_zero]; exact eg, rfl, Nat.le_refl _⟩
    rintro n s' ⟨k, σ', Hc, y, vs, us, ys1, ys2, rfl, hk, I', tk, mc, hf, hD, rc, pl, rv, rq, eg', eys, hul⟩
    have hP : X'.prog = X.prog := by rw [← hX]; rfl
    have hw : X'.w = X.w := by rw [← hX]; rfl
    have hcal : X'.calm = true := by rw [← hX]; exact calm
    have hA : X'.A = X.A := by rw [← hX]; rfl
    have hxe : X'.xe = fun _ _ => False := by rw [← hX]; rfl
    have henv : X'.env = compEnvC scope (clOf fr X.env) Hx.objs.size X.env := by rw [← hX]; rfl
    have ne_fp : ∀ b ∈ fp, s2.heap.objs.size ≠ b := fun b hb z => absurd (hlt b hb) (by rw [← z]; exact Nat.lt_irrefl _)
    obtain ⟨nl, el⟩ := id pl
    have fD : ∀ b ∈ [s2.heap.objs.size], FpOk X' [] Hc b := fun b hb => fpo hD hf b (by have e : b = s2.heap.objs.size := (by simpa using hb); rw [e]; exact List.mem_cons_self ..)
    have oD : ∀ b ∈ [s2.heap.objs.size], ∃ o, s'.heap.get? b = some o ∧ ∀ v, o.data ≠ .cell v := fun b hb => by
      have e : b = s2.heap.objs.size := by simpa using hb
      subst e
      exact ⟨_, el, fun v z => by cases z⟩
    have ID : Inv X' ([] ++ pinsAt [s2.heap.objs.size] s'.heap) σ' Hc s' := I'.pinned fD oD
    have pinD : ∀ {p : List (Addr × Obj)} {σ6 : St} {H6 : Hp} {s6 : Shared}, Inv X' (([] ++ pinsAt [s2.heap.objs.size] s'.heap) ++ p) σ6 H6 s6 → s6.heap.get? s2.heap.objs.size = some { cls := .type "list", data := .seq us.toArray nl } ∧ H6 s2.heap.objs.size = none := fun {p σ6 H6 s6} I6 => by
      have := I6.pin (s2.heap.objs.size, _) (List.mem_append_right _ (List.mem_append_left _ (List.mem_append_right _ (mem_pinsAt (List.mem_cons_self ..) el))))
      exact ⟨this.1, this.2.1⟩
    have fpD : ∀ {H6 : Hp}, H6 s2.heap.objs.size = none → (∀ b ∈ fp, H6 b = none) → ∀ b ∈ fp, FpOk X' ([] ++ pinsAt [s2.heap.objs.size] s'.heap) H6 b := fun {H6} h1 h2 b hb => by
      obtain ⟨a1, a2, a3, a4, a5, _⟩ := fpo h1 h2 b (List.mem_cons_of_mem _ hb)
      refine ⟨a1, a2, a3, a4, a5, fun p hp z => ?_⟩
      have hpn : X'.pn = [] := by rw [← hX]; rfl
      rw [hpn] at hp
      obtain ⟨q1, _⟩ := of_pinsAt (show p ∈ pinsAt [s2.heap.objs.size] s'.heap from hp)
      have e : p.1 = s2.heap.objs.size := by simpa using q1
      exact ne_fp b hb (by rw [← e, z])
    by_cases hlast : k < xs.length
    · have hit := T.item X' hP hw hX'K hcal k _ s' σ' Hc (fun _ _ => False) ID (fpD hD hf) tk (G.go k Hc mc hlast)
      rw [hA] at hit
      refine thn hit fun r s1 ⟨u, hr, h1⟩ => ?_
      subst hr
      refine thn h1 fun _ s3 ⟨v, H3, I3, rv3, y3, tk3, hf3⟩ => ?_
      obtain ⟨eH, d, hd, pd⟩ := G.yld k Hc v H3 mc hlast y3
      obtain rfl : Hc = H3 := eH.symm
      have I3' := I3.pinned (fpD hD hf3) (T.obj _ _ tk3)
      have hN' : X'.N.Nodup := by rw [← hX]; exact S.nd
      have hi' : X'.N[0]? = some x := by rw [← hX]; rfl
      have hlocal : X'.env.scope.names.lookup x = some .local := by rw [henv]; exact lookup_relabel_local S.hx
      have hst := store_ok (M := model X.prog X.w) (A := X.A) (E := fun _ _ => False) (Q := fun _ s4 => wpAny (model X.prog X.w) X.A (isTrue c (compEnvC scope (clOf fr X.env) Hx.objs.size X.env) (eval c (compEnvC scope (clOf fr X.env) Hx.objs.size X.env))) (fun ok s₄ =>
            if ok = true then wpAny (model X.prog X.w) X.A (eval elt (compEnvC scope (clOf fr X.env) Hx.objs.size X.env)) (fun x s₅ =>
              wpAny (model X.prog X.w) X.A (call (.builtin "list.append") [.ref s2.heap.objs.size, x]) (fun _ s₆ => ∃ m, m < xs.length - k ∧ ∃ k σ' Hc y vs us ys1 ys2, m = xs.length - k ∧ k ≤ xs.length ∧ Inv X' [] σ' Hc s₆ ∧ tn k s₆.heap ∧ Same H2 Hc ∧ (∀ b ∈ fp, Hc b = none) ∧ Hc s2.heap.objs.size = none ∧ RepS X.K Hc σ' (y :: capsD caps ρ) ∧
      s₆.heap.PlainList s2.heap.objs.size us.toArray ∧ Vals vs us ∧ Reps X.K Hc vs ys1 ∧ compGo t e (capsD caps ρ) (xs.drop k) = some ys2 ∧ ys = ys1 ++ ys2 ∧ us.length ≤ k) (fun _ _ => False) s₅) (fun _ _ => False) s₄
            else ∃ m, m < xs.length - k ∧ ∃ k σ' Hc y vs us ys1 ys2, m = xs.length - k ∧ k ≤ xs.length ∧ Inv X' [] σ' Hc s₄ ∧ tn k s₄.heap ∧ Same H2 Hc ∧ (∀ b ∈ fp, Hc b = none) ∧ Hc s2.heap.objs.size = none ∧ RepS X.K Hc σ' (y :: capsD caps ρ) ∧
      s₄.heap.PlainList s2.heap.objs.size us.toArray ∧ Vals vs us ∧ Reps X.K Hc vs ys1 ∧ compGo t e (capsD caps ρ) (xs.drop k) = some ys2 ∧ ys = ys1 ++ ys2 ∧ us.length ≤ k) (fun _ _ => False) s4) I3' hN' hi' (.inl hlocal) rv3 (fun s4 I4 => ?_) (.inr hlocal)
      · rw [henv] at hst
        exact wpAny_assign_Name hst
      have r4 : RepS X.K Hc (σ'.set 0 (some v)) (some d :: capsD caps ρ) := rc.set pd 0
      rw [drop_at hd] at eg'
      simp only [compGo] at eg'
      obtain ⟨cb, ecb, eg'⟩ := Option.bind_eq_some_iff.mp eg'
      have hT := ht Hx.objs.size s2 H2 fp
      rw [hX] at hT
      have hT' := hT _ s4 _ Hc _ cb I4 (by rw [hX'K]; exact r4) ecb
      rw [hP, hw, hA, henv, hxe] at hT'
      refine thn hT' fun ok s5 ⟨eok, H5, I5, m5⟩ => ?_
      subst eok
      have keepTn : ∀ {σ6 : St} {H6 : Hp} {s6 : Shared}, Inv X' (([] ++ pinsAt [s2.heap.objs.size] s'.heap) ++ pinsAt fp s3.heap) σ6 H6 s6 → tn (k + 1) s6.heap ∧ ∀ b ∈ fp, H6 b = none := fun {σ6 H6 s6} I6 => by
        have hp : ∀ b ∈ fp, ∀ o, s3.heap.get? b = some o → s6.heap.get? b = some o ∧ H6 b = none := fun b hb o ho => by
          have := I6.pin (b, o) (List.mem_append_right _ (List.mem_append_right _ (mem_pinsAt hb ho)))
          exact ⟨this.1, this.2.1⟩
        refine ⟨T.keep _ _ _ tk3 fun b hb o ho => (hp b hb o ho).1, fun b hb => ?_⟩
        obtain ⟨o, ho, _⟩ := T.obj _ _ tk3 b hb
        exact (hp b hb o ho).2
      cases ok with
      | false =>
        rw [if_neg Bool.false_ne_true]
        obtain ⟨tk5, hf5⟩ := keepTn I5
        obtain ⟨pl5, hD5⟩ := pinD I5
        refine ⟨xs.length - (k + 1), by omega, k + 1, _, H5, some d, vs, us, ys1, ys2, rfl, hlast, I5.pins_of (fun p hp => absurd hp (by simp)), tk5, mc.trans m5, hf5, hD5, r4.mono m5, ⟨nl, pl5⟩, rv, rq.mono m5, by simpa using eg', eys, by omega⟩
      | true =>
        rw [if_pos rfl]
        have eg2 : ((e (some d :: capsD caps ρ)).bind fun y => (compGo t e (capsD caps ρ) (xs.drop (k + 1))).bind fun ys => some (y :: ys)) = some ys2 := by simpa using eg'
        obtain ⟨dy, edy, eg2⟩ := Option.bind_eq_some_iff.mp eg2
        obtain ⟨yr, eyr, eg2⟩ := Option.bind_eq_some_iff.mp eg2
        simp only [Option.some.injEq] at eg2
        have hE := he Hx.objs.size s2 H2 fp
        rw [hX] at hE
        have hE' := hE _ s5 _ H5 _ dy I5 (by rw [hX'K]; exact r4.mono m5) edy
        rw [hP, hw, hA, henv, hxe] at hE'
        refine thn hE' fun u6 s6 ⟨v6, H6, I6, rv6, m6, p6⟩ => ?_
        rw [hX'K] at p6
        obtain ⟨tk6, hf6⟩ := keepTn I6
        obtain ⟨pl6, hD6⟩ := pinD I6
        refine wpAny_list_append_plain (show s6.heap.PlainList s2.heap.objs.size us.toArray from ⟨nl, pl6⟩) (fun h7 pl7 sb7 => ?_) (by rw [List.size_toArray]; exact le_line (by omega))
        have I6' : Inv X' [] (σ'.set 0 (some v)) H6 s6 := I6.pins_of (fun p hp => absurd hp (by simp))
        obtain ⟨_, b2, b3, b4, b5, b6⟩ := fpo hD6 hf6 s2.heap.objs.size (List.mem_cons_self ..)
        have I7 : Inv X' [] (σ'.set 0 (some v)) H6 { s6 with heap := h7 } := I6'.turned (t' := s6.toks) (fun b o hb e => (sb7.2 b hb).trans e) hD6 b2 b4 b5 b6
        refine ⟨xs.length - (k + 1), by omega, k + 1, _, H6, some d, vs ++ [v6], us ++ [u6], ys1 ++ [dy], yr, rfl, hlast, I7, T.keep _ _ _ tk6 fun b hb o ho => (sb7.2 b (fun z => ne_fp b hb z.symm)).trans ho, mc.trans (m5.trans m6), hf6, hD6, r4.mono (m5.trans m6), ?_, rv.append (.cons rv6 .nil), (rq.mono (m5.trans m6)).append (.cons p6 .nil), eyr, by rw [eys, ← eg2, List.append_assoc]; rfl, by simp; omega⟩
        simpa using pl7
    · have hkl : k = xs.length := by omega
      have hdn := T.done X' hP hw hX'K hcal k _ s' σ' Hc (fun _ _ => False) ID (fpD hD hf) tk (G.stop k Hc mc (by omega))
      rw [hA] at hdn
      refine thn hdn fun r s1 ⟨hr, I1⟩ => ?_
      subst hr
      obtain ⟨pl1, hD1⟩ := pinD (p := []) (by rw [List.append_nil]; exact I1)
      rw [hkl, List.drop_length] at eg'
      simp only [compGo, Option.some.injEq] at eg'
      have eyf : ys = ys1 := by rw [eys, ← eg', List.append_nil]
      have IB : Un (frs X.stack) fp H2 Hc s2.heap s1.heap := by have := I1.base; rw [← hX] at this; exact this
      have neD : ∀ b o, H2 b = some o → b ≠ s2.heap.objs.size := fun b o q z => absurd (I2.hok.lt q) (by rw [z]; exact Nat.lt_irrefl _)
      have hlen1 : vs.length ≤ sizeLine := le_line (by rw [rv.length]; omega)
      have hok1 : HOk X.prog X.w (upd Hc s2.heap.objs.size (.lst vs)) s1.heap := fun b o q => by
        by_cases hb : b = s2.heap.objs.size
        · subst hb
          rw [upd_same] at q
          cases q
          exact ⟨hlen1, us, nl, rv, pl1⟩
        · rw [upd_ne hb] at q
          have hq : ObjOk X.prog X.w Hc s1.heap b o := by have := I1.hok b o q; rw [hP, hw] at this; exact this
          refine hq.stay (fun _ _ _ z => z) (fun b' z => ?_) fun b' zs z => ?_
          · rw [upd_ne (fun w => by rw [w, hD1] at z; cases z)]; exact z
          · rw [upd_ne (fun w => by rw [w, hD1] at z; cases z)]; exact z
      have UN : Un (frs X.stack) fp H2 (upd Hc s2.heap.objs.size (.lst vs)) s2.heap s1.heap :=
        ⟨IB.keep, IB.slot, fun b o q n hx => by rw [upd_ne (below b (Heap.lt_size q)).2]; exact IB.free b o q n hx, IB.there,
          fun b zs q => by rw [upd_ne (neD b _ q)]; exact IB.tups b zs q, fun b o u q => by rw [upd_ne (neD b _ q)]; exact IB.frzs b o u q,
          fun b ps q => by rw [upd_ne (neD b _ q)]; exact IB.tbls b ps q⟩
      have os1 : s1.os = s2.os := by have := I1.os; rw [← hX] at this; exact this
      have IX : Inv X pins σ (upd Hc s2.heap.objs.size (.lst vs)) s1 := I2.call' os1 UN hok1 I1.bare fun b hb => let ⟨_, a2, _, a4, a5, a6⟩ := hfp b hb; ⟨a4, a2, a5, a6⟩
      have Cfree : Hc Hx.objs.size = none := by have := I1.free; rw [henv] at this; exact this
      refine hRR _ _ s1 _ IX (mc.trans (same_new hD1 _)) (by rw [eyf]; exact rep_new_lst hD1 rq) ⟨by rw [upd_ne (Ne.symm hDC)]; exact Cfree, ?_, Nat.le_trans I2.sz hCle, fun n c h z => ?_, fun p hp z => ?_⟩ ?_
      · exact Nat.ne_of_gt (Nat.lt_of_lt_of_le I2.lt hCle)
      · obtain ⟨v, q⟩ := I2.cell n c h
        exact absurd (Nat.lt_of_lt_of_le q.lt (by rw [z]; exact hCle)) (Nat.lt_irrefl _)
      · exact absurd (Nat.lt_of_lt_of_le (Heap.lt_size (I2.pin p hp).1) (by rw [z]; exact hCle)) (Nat.lt_irrefl _)
      · obtain ⟨m, hm, _⟩ := I1.loc
        rw [henv] at hm
        exact ⟨m, hm⟩
  exact codeAny_compStart_list (loop _ rfl) (T.self X.A 0 _ _ _ t1 (loop _ rfl))
/-- the source, then the block -/
theorem comp_src {scope : Scope} {x : Str} {fr : List Str} {caps : List Nat} (S : CompSc X scope x fr caps) {elt iter c : Expr} {px : Pos} {f : FE} {t : FT} {e : FE} (hsrc : FEx X iter f) (calm : X.calm = true)
    (ht : ∀ C s₀ H₀ ex, FTx (compCx X (x :: fr) scope (clOf fr X.env) C s₀ H₀ ex) c t) (he : ∀ C s₀ H₀ ex, FEx (compCx X (x :: fr) scope (clOf fr X.env) C s₀ H₀ ex) elt e)
    {pins : List (Addr × Obj)} {s : Shared} {σ : St} {H : Hp} {ρ : En} {d : D} (I : Inv X pins σ H s) (r : RepS X.K H σ ρ) (ed : eComp f caps t e ρ = some d) {RR : Value → Addr → Result → Shared → Prop}
    (hRR : ∀ acc C s' H', Inv X pins σ H' s' → Same H H' → Rep X.K H' (.ref acc) d → CFacts X pins H' C → (∃ m, s'.heap.Ns C m) → RR (.ref acc) C (.ok .next) s') :
    wpAny (model X.prog X.w) X.A (eval iter X.env) (fun xv s₁ => wpAny (model X.prog X.w) X.A (pyIter xv) (fun it s₂ => wpAny (model X.prog X.w) X.A (newList []) (fun acc s₃ => wpAny (model X.prog X.w) X.A (newFunctionEnv scope X.env.globals (clOf fr X.env) [] X.env.qual none .none (some X.env)) (fun cenv s₄ =>
      codeAny (model X.prog X.w) X.A (.compStart (.ListComp elt [⟨.Name x px, iter, [c], 0⟩] scope pos) 0 it acc { cenv with scope := relabel scope X.env }) (RR acc cenv.locals) s₄) X.xe s₃) X.xe s₂) X.xe s₁) X.xe s := by
  simp only [eComp] at ed
  obtain ⟨xs, exs, ed⟩ := Option.bind_eq_some_iff.mp ed
  obtain ⟨dx, edx, exs⟩ := Option.bind_eq_some_iff.mp exs
  split at ed
  · rename_i hz
    have hz' : xs.length ≤ 1000 := by simpa [few] using hz
    obtain ⟨ys, eys, ed⟩ := Option.map_eq_some_iff.mp ed
    subst ed
    have hsrc2 : PI X (.Name x px) iter (fun σ H R => iList X.K (tF X.K f) σ H R ∨ iTup X.K (tF X.K f) σ H R) := PI.or' (pi_list hsrc.pe) (pi_tup hsrc.pe)
    refine thn (hsrc2 pins s σ H (fun J H1 => Same H H1 ∧ Goes X.K J H1 xs) I ?_) fun xv s1 h1 => thn h1 fun itv s2 ⟨it, fp, tn, J, H2, eit, I2, T, t0, hfp, m2, G⟩ => ?_
    · cases dx <;> simp only [seqOf] at exs <;> first | contradiction | skip
      · cases exs
        refine .inl ⟨ρ, _, r, edx, fun v H1 m1 p1 => ?_⟩
        cases p1
        rename_i a vs h q
        exact ⟨a, rfl, ⟨vs, h⟩, m1, goes_list h q⟩
      · cases exs
        refine .inr ⟨ρ, _, r, edx, fun v H1 m1 p1 => ?_⟩
        cases p1
        rename_i a vs h q
        exact ⟨a, rfl, ⟨vs, h⟩, m1, goes_tup h q⟩
    · subst eit
      exact comp_block S I2 (r.mono m2) T t0 hfp calm hz' G ht he eys fun acc C s' H' I' m' p' cf ns => hRR acc C s' H' I' (m2.trans m') p' cf ns
  · exact nomatch ed
theorem fe_comp {scope : Scope} {x : Str} {fr : List Str} {caps : List Nat} {elt iter c : Expr} {px : Pos} {f : FE} {t : FT} {e : FE} (S : CompSc X scope x fr caps) (hsrc : FEx X iter f)
    (ht : ∀ C s₀ H₀ ex, FTx (compCx X (x :: fr) scope (clOf fr X.env) C s₀ H₀ ex) c t) (he : ∀ C s₀ H₀ ex, FEx (compCx X (x :: fr) scope (clOf fr X.env) C s₀ H₀ ex) elt e)
    (calm : X.calm = true := by rfl) (hs : ∀ z, foldedSetIterable iter X.env z = pure z := by intro _; rfl) :
    FEx X (.ListComp elt [⟨.Name x px, iter, [c], 0⟩] scope pos) (eComp f caps t e) := by
  refine ⟨fun pins s σ H ρ d I r ed => ?_⟩
  rw [eval_ListComp]
  refine wpAny_comprehension_free (use := none) (g := ⟨.Name x px, iter, [c], 0⟩) (gs := []) rfl hs S.clos S.kind S.names (comp_src S hsrc calm ht he I r ed fun acc C s' H' I' m p cf ns => ?_)
  obtain ⟨m1, hm⟩ := ns
  refine ⟨m1, hm, fun h' sb => ?_⟩
  exact ⟨.ref acc, H', I'.turned (t' := s'.toks) (fun b o hb e => (sb.2 b hb).trans e) cf.free cf.ne (.inr cf.above) cf.cells cf.pins, rfl, m, p⟩
end
end FD
end
section
set_option Elab.async false
set_option linter.all false
set_option maxRecDepth 100000
set_option maxHeartbeats 4000000
namespace FD
open PySem PySem.Spec PyProof.Rows L2
theorem bt_len : bootBuiltins "len" = some (.builtin "len") := by decide +kernel
theorem bt_max : bootBuiltins "max" = some (.builtin "max") := by decide +kernel
theorem bt_isinstance : bootBuiltins "isinstance" = some (.builtin "isinstance") := by decide +kernel
theorem bt_int : bootBuiltins "int" = some (.type "int") := by decide +kernel
theorem bt_str : bootBuiltins "str" = some (.type "str") := by decide +kernel
theorem bt_list : bootBuiltins "list" = some (.type "list") := by decide +kernel
theorem bt_tuple : bootBuiltins "tuple" = some (.type "tuple") := by decide +kernel
section
variable {K : PySem.W.Frag}
theorem kit_of {T : String} {t : Ty} (h : ∀ tv ∈ ["NoneType", "bool", "int", "str", "list", "tuple"], (if (Value.type tv == Value.type T) = true then some true else if PySem.W.kitMeta T = true then (PySem.fastBuiltinMro tv).map (·.contains (Value.type T)) else none) = some (decide (tv ∈ match t with | .tup => ["tuple"] | .lst => ["list"] | .int => ["int", "bool"] | .bool => ["bool"] | .str => ["str"]))) :
    ∀ (d : D) (tv : String), plainD d = true → (tv = match d with | .none => "NoneType" | .bool _ => "bool" | .int _ => "int" | .str _ => "str" | .list _ => "list" | .tuple _ => "tuple" | .dict _ => "dict") → PySem.W.kitOne K (.type tv) (.type T) = some (isiB t d) := by
  intro d tv hp e
  have hk : ∀ tv ∈ ["NoneType", "bool", "int", "str", "list", "tuple"], PySem.W.kitOne K (.type tv) (.type T) = some (decide (tv ∈ match t with | .tup => ["tuple"] | .lst => ["list"] | .int => ["int", "bool"] | .bool => ["bool"] | .str => ["str"])) := fun tv htv => h tv htv
  cases d <;> simp only at e <;> subst e <;> first | (cases hp; done) | (rw [hk _ (by simp)]; cases t <;> rfl)
theorem kit_tup : ∀ (d : D) (tv : String), plainD d = true → (tv = match d with | .none => "NoneType" | .bool _ => "bool" | .int _ => "int" | .str _ => "str" | .list _ => "list" | .tuple _ => "tuple" | .dict _ => "dict") → PySem.W.kitOne K (.type tv) (.type "tuple") = some (isiB .tup d) := kit_of (by decide +kernel)
theorem kit_str : ∀ (d : D) (tv : String), plainD d = true → (tv = match d with | .none => "NoneType" | .bool _ => "bool" | .int _ => "int" | .str _ => "str" | .list _ => "list" | .tuple _ => "tuple" | .dict _ => "dict") → PySem.W.kitOne K (.type tv) (.type "str") = some (isiB .str d) := kit_of (by decide +kernel)
end
/-- what law(script) promises: for a list of at most 63 ints the answer is True -/
def spLaw (K : PySem.W.Frag) : Sp := fun vs H Q _ => ∃ (a : Addr) (ns : List Int), vs = [.ref a] ∧ SqL K H a (ns.map V.int) ∧ ns.length ≤ 63 ∧ ∀ H', Q (.bl true) H'
theorem reps_ints {K : PySem.W.Frag} {H : Hp} : ∀ ns : List Int, Reps K H (ns.map V.int) (ns.map PyData.int)
  | [] => .nil
  | n :: r => .cons (.int n) (reps_ints r)
theorem sp_of {K : PySem.W.Frag} {F : List D → Option D} (h : ∀ ns : List Int, F [.list (ns.map .int)] = some (.bool true)) : ∀ vs H Q E, spLaw K vs H Q E → spF K F vs H Q E := fun vs H Q E ⟨a, ns, e, hS, _, q⟩ => by
  subst e
  refine ⟨[.list (ns.map .int)], .bool true, .cons (.lst hS (reps_ints ns)) .nil, h ns, fun v H' _ p => ?_⟩
  cases p
  exact q H'
end FD
end
section
set_option Elab.async false
set_option linter.all false
set_option maxRecDepth 100000
set_option maxHeartbeats 4000000
namespace FD
open PySem PySem.Spec PyProof.Rows L2
@[simp] def eChain (g g' : D → D → Option D) (a b c : FE) : FE := fun ρ => (a ρ).bind fun x => (b ρ).bind fun y => ((g x y).bind boolOf).bind fun k => if k then (c ρ).bind fun z => g' y z else some (.bool false)
/-- a loop over range(e) -/
@[simp] def rng (n : Nat) : List D := (List.range n).map fun i => .int (i : Nat)
@[simp] def sForRng (i : Nat) (a : FE) (body : FS) : FS := fun ρ => ((a ρ).bind intOf).bind fun j => if -1000 ≤ j ∧ j ≤ 1000 then forGo i body (rng j.toNat) ρ else none
section
variable {X : Cx} {a b c : Expr} {fa fb fc : FE} {pos : Pos}
def rD (K : PySem.W.Frag) (g : D → D → Option D) : R2 := fun x y H Q => ∃ dx dy d, Rep K H x dx ∧ Rep K H y dy ∧ g dx dy = some d ∧ ∀ v H', Same H H' → Rep K H' v d → Q v H'
theorem OpD.r {f : Value → Value → Sem Value} {g : D → D → Option D} (h : OpD X f g) : OpR X f (rD X.K g) := fun pins s σ H x y u v Q I rx ry ⟨dx, dy, d, px, py, e, q⟩ =>
  thn (h pins s σ H x y u v dx dy d I rx ry px py e) fun u s' ⟨w, H', I', rw', m, p⟩ => ⟨w, H', I', rw', q w H' m p⟩
end
end FD
end
section
set_option Elab.async false
set_option linter.all false
set_option maxRecDepth 100000
set_option maxHeartbeats 4000000
namespace FD
open PySem PySem.Spec PyProof.Rows L2
def strsD : List D → Option (List Str)
  | [] => some []
  | .str x :: r => (strsD r).map (x :: ·)
  | _ => none
theorem reps_strs {K : PySem.W.Frag} {H : Hp} : ∀ {vs : List V} {ds : List D} {ss : List Str}, Reps K H vs ds → strsD ds = some ss → vs = ss.map V.str
  | _, _, _, .nil, e => by simp only [strsD] at e; cases e; rfl
  | _, _, _, .cons h r, e => by
    cases h <;> simp only [strsD] at e <;> first | contradiction | skip
    obtain ⟨ss', e', rfl⟩ := Option.map_eq_some_iff.mp e
    rw [reps_strs r e']; rfl
section
variable {X : Cx} {a b c : Expr} {fa fb fc : FE} {pos : Pos}
end
end FD
end
section
set_option Elab.async false
set_option linter.all false
set_option maxRecDepth 100000
set_option maxHeartbeats 4000000
namespace FD
open PySem PySem.Spec PyProof.Rows L2
mutual
def imm : D → Bool
  | .list _ => false
  | .dict _ => false
  | .tuple xs => immAll xs
  | _ => true
def immAll : List D → Bool
  | [] => true
  | x :: r => imm x && immAll r
end
/-- the abstract heap without the def's own lists -/
def hid (as : List Addr) (H : Hp) : Hp := fun b => if b ∈ as then none else H b
def Cells (as : List Addr) (H : Hp) : Prop := ∀ a ∈ as, ∃ vs, H a = some (.lst vs)
theorem hid_in {as : List Addr} {H : Hp} {b : Addr} (h : b ∈ as) : hid as H b = none := if_pos h
theorem hid_out {as : List Addr} {H : Hp} {b : Addr} (h : b ∉ as) : hid as H b = H b := if_neg h
theorem hid_some {as : List Addr} {H : Hp} {b : Addr} {o : HO} (h : hid as H b = some o) : b ∉ as ∧ H b = some o := by
  by_cases hb : b ∈ as
  · rw [hid_in hb] at h; cases h
  · rw [hid_out hb] at h; exact ⟨hb, h⟩
theorem hid_same (as : List Addr) (H : Hp) : Same (hid as H) H := fun b o h => (hid_some h).2
theorem hid_mono {as : List Addr} {H H' : Hp} (m : Same H H') : Same (hid as H) (hid as H') := fun b o h => by
  obtain ⟨h1, h2⟩ := hid_some h
  rw [hid_out h1]; exact m b o h2
theorem Cells.mono {as : List Addr} {H H' : Hp} (c : Cells as H) (m : Same H H') : Cells as H' := fun a ha => let ⟨vs, h⟩ := c a ha; ⟨vs, m a _ h⟩
theorem sqT_hid {K : PySem.W.Frag} {as : List Addr} {H : Hp} {a : Addr} {xs : List V} (c : Cells as H) (h : SqT K H a xs) : SqT K (hid as H) a xs := by
  have out : ∀ u, H a = some u → (∀ vs, u ≠ .lst vs) → hid as H a = some u := fun u e n => by
    rw [hid_out (fun ha => ?_)]
    · exact e
    · obtain ⟨vs, e'⟩ := c a ha
      rw [e] at e'; cases e'; exact n vs rfl
  rcases h with (h | ⟨o, h⟩) | h
  · exact .inl (.inl (out _ h (by simp)))
  · exact .inl (.inr ⟨o, out _ h (by simp)⟩)
  · exact .inr h
mutual
theorem rep_hid {K : PySem.W.Frag} {as : List Addr} {H : Hp} (c : Cells as H) : ∀ {v : V} {d : D}, Rep K H v d → imm d = true → Rep K (hid as H) v d
  | _, _, .non, _ => .non
  | _, _, .bl b, _ => .bl b
  | _, _, .int i, _ => .int i
  | _, _, .str x, _ => .str x
  | _, _, .lst _ _, e => by simp [imm] at e
  | _, _, .tup h r, e => .tup (sqT_hid c h) (reps_hid c r (by simpa [imm] using e))
theorem reps_hid {K : PySem.W.Frag} {as : List Addr} {H : Hp} (c : Cells as H) : ∀ {vs : List V} {ds : List D}, Reps K H vs ds → immAll ds = true → Reps K (hid as H) vs ds
  | _, _, .nil, _ => .nil
  | _, _, .cons h r, e => by
    simp only [immAll, Bool.and_eq_true] at e
    exact .cons (rep_hid c h e.1) (reps_hid c r e.2)
end
section
variable {X : Cx} {pins : List (Addr × Obj)} {σ : St} {H H' : Hp} {s s' : Shared} {as : List Addr}
theorem cell_nofs (I : Inv X pins σ H s) (c : Cells as H) : ∀ a ∈ as, a ∉ X.fs := fun a ha hf => by
  obtain ⟨vs, e⟩ := c a ha
  obtain ⟨hb, o, ho, _⟩ := I.ok.funs.mem hf
  have := I.base.free a o ho (I.ok.frf a hf) (fun hx => I.ok.exfs a hx hf)
  rw [e] at this; cases this
theorem hid_keep {b : Addr} {u : HO} (c : Cells as H) (e : H b = some u) (n : ∀ vs, u ≠ .lst vs) : hid as H b = some u := by
  rw [hid_out (fun ha => ?_)]
  · exact e
  · obtain ⟨vs, e'⟩ := c b ha
    rw [e] at e'; cases e'; exact n vs rfl
theorem hid_none {b : Addr} (e : H b = none) : hid as H b = none := by
  by_cases h : b ∈ as
  · exact hid_in h
  · rw [hid_out h]; exact e
theorem inv_hide (I : Inv X pins σ H s) (c : Cells as H) : Inv X (pins ++ pinsAt as s.heap) σ (hid as H) s where
  ok := I.ok
  os := I.os
  bare := I.bare
  base := ⟨I.base.keep, I.base.slot, fun b o q n hx => hid_none (I.base.free b o q n hx), I.base.there, fun b xs q => hid_keep c (I.base.tups b xs q) (by simp), fun b o u q => hid_keep c (I.base.frzs b o u q) (by simp),
    fun b ps q => let ⟨more, e⟩ := I.base.tbls b ps q; ⟨more, hid_keep c e (by simp)⟩⟩
  loc := I.loc
  cell := I.cell
  free := hid_none I.free
  freeC := fun x k e => hid_none (I.freeC x k e)
  pin := fun p hp => by
    rcases List.mem_append.mp hp with hp | hp
    · obtain ⟨h1, h2, h3⟩ := I.pin p (List.mem_append_left _ hp)
      exact ⟨h1, hid_none h2, h3⟩
    rcases List.mem_append.mp hp with hp | hp
    · obtain ⟨h1, h2, h3⟩ := I.pin p (List.mem_append_right _ hp)
      exact ⟨h1, hid_none h2, h3⟩
    · obtain ⟨h1, h2⟩ := of_pinsAt hp
      obtain ⟨vs, e⟩ := c p.1 h1
      obtain ⟨its, n, _, ho, _⟩ := I.lst e
      rw [h2] at ho
      refine ⟨h2, hid_in h1, fun z => ?_, cell_nofs I c _ h1, fun v z => ?_⟩
      · rw [z, I.free] at e; cases e
      · rw [Option.some.inj ho] at z; cases z
  hok := fun a o e => by
    obtain ⟨h1, h2⟩ := hid_some e
    exact (I.hok a o h2).stay (fun b u _ q => q) (fun b q => hid_keep c q (by simp)) fun b xs q => hid_keep c q (by simp)
  len := I.len
/-- the hidden part as it was, the rest as it is now -/
def both (as : List Addr) (H H' : Hp) : Hp := fun b => if b ∈ as then H b else H' b
theorem both_in {b : Addr} (h : b ∈ as) : both as H H' b = H b := if_pos h
theorem both_out {b : Addr} (h : b ∉ as) : both as H H' b = H' b := if_neg h
theorem inv_unhide (I : Inv X pins σ H s) (c : Cells as H) (I' : Inv X (pins ++ pinsAt as s.heap) σ H' s') (m : Same (hid as H) H') :
    Inv X pins σ (both as H H') s' ∧ Same H (both as H H') ∧ Same H' (hid as (both as H H')) := by
  have objs : ∀ a ∈ as, ∃ o, s.heap.get? a = some o ∧ s'.heap.get? a = some o ∧ H' a = none := fun a ha => by
    obtain ⟨vs, e⟩ := c a ha
    obtain ⟨its, n, _, ho, _⟩ := I.lst e
    obtain ⟨h1, h2, _⟩ := I'.pin (a, _) (List.mem_append_right _ (List.mem_append_right _ (mem_pinsAt ha ho)))
    exact ⟨_, ho, h1, h2⟩
  have up : ∀ b u, H' b = some u → both as H H' b = some u := fun b u e => by
    rw [both_out (fun ha => ?_)]
    · exact e
    · obtain ⟨o, _, _, h⟩ := objs b ha
      rw [e] at h; cases h
  have same : Same H (both as H H') := fun b o e => by
    by_cases hb : b ∈ as
    · rw [both_in hb]; exact e
    · rw [both_out hb]; exact m b o (by rw [hid_out hb]; exact e)
  have none' : ∀ b, H b = none → H' b = none → both as H H' b = none := fun b h h' => by
    by_cases hb : b ∈ as
    · rw [both_in hb]; exact h
    · rw [both_out hb]; exact h'
  refine ⟨⟨I'.ok, I'.os, I'.bare, ?_, I'.loc, I'.cell, none' _ I.free I'.free, fun x k e => none' _ (I.freeC x k e) (I'.freeC x k e), ?_, ?_, I'.len⟩, same, fun b o e => ?_⟩
  · exact ⟨I'.base.keep, I'.base.slot, fun b o q n hx => none' _ (I.base.free b o q n hx) (I'.base.free b o q n hx), I'.base.there, fun b xs q => up _ _ (I'.base.tups b xs q), fun b o u q => up _ _ (I'.base.frzs b o u q),
      fun b ps q => let ⟨more, e⟩ := I'.base.tbls b ps q; ⟨more, up _ _ e⟩⟩
  · intro p hp
    obtain ⟨h1, h2, h3⟩ := I'.pin p (by
      rcases List.mem_append.mp hp with hp | hp
      · exact List.mem_append_left _ hp
      · exact List.mem_append_right _ (List.mem_append_left _ hp))
    exact ⟨h1, none' _ (I.pin p hp).2.1 h2, h3⟩
  · intro a o e
    by_cases ha : a ∈ as
    · rw [both_in ha] at e
      obtain ⟨vs, e'⟩ := c a ha
      rw [e] at e'; cases e'
      obtain ⟨ob, h1, h2, _⟩ := objs a ha
      obtain ⟨z, its, n, r, e2⟩ := I.hok a _ e
      rw [h1] at e2
      exact ⟨z, its, n, r, by rw [h2]; exact e2⟩
    · rw [both_out ha] at e
      exact (I'.hok a o e).stay (fun b u _ q => q) (fun b q => up _ _ q) fun b xs q => up _ _ q
  · have := up b o e
    rw [hid_out (fun ha => ?_)]
    · exact this
    · obtain ⟨ob, _, _, h⟩ := objs b ha
      rw [e] at h; cases h
end
end FD
end
section
set_option Elab.async false
set_option linter.all false
set_option maxRecDepth 100000
set_option maxHeartbeats 4000000
namespace FD
open PySem PySem.Spec PyProof.Rows L2
/-- the state of a def that changes lists: its data (an own list by its contents), which slot bears which own list, how many own lists there are -/
structure MSt where
  ρ : En
  cm : List (Option Nat)
  k : Nat
@[simp] def hidR (m : MSt) : En := List.zipWith (fun (d : Option D) (c : Option Nat) => if c.isSome then none else d) m.ρ m.cm
@[simp] def MSt.set (m : MSt) (i : Nat) (d : D) : MSt := ⟨m.ρ.set i (some d), m.cm.set i none, m.k⟩
@[simp] def MSt.own (m : MSt) (i : Nat) (ds : List D) : MSt := ⟨m.ρ.set i (some (.list ds)), m.cm.set i (some m.k), m.k + 1⟩
@[simp] def MSt.put (m : MSt) (j : Nat) (ds : List D) : MSt := ⟨List.zipWith (fun (d : Option D) (c : Option Nat) => if c = some j then some (.list ds) else d) m.ρ m.cm, m.cm, m.k⟩
/-- which own list the slot bears, and its contents -/
@[simp] def MSt.cell (m : MSt) (i : Nat) : Option (Nat × List D) := match m.cm[i]?, m.ρ[i]? with
  | some (some j), some (some (.list ds)) => some (j, ds)
  | _, _ => none
structure MRep (K : PySem.W.Frag) (as : List Addr) (H : Hp) (σ : St) (m : MSt) : Prop where
  len : m.ρ.length = σ.length
  lenC : m.cm.length = σ.length
  nd : as.Nodup
  lk : as.length = m.k
  cells : Cells as H
  dat : ∀ (i : Nat) (d : D), m.cm[i]? = some none → m.ρ[i]? = some (some d) → ∃ v, σ[i]? = some (some v) ∧ Rep K (hid as H) v d
  own : ∀ (i j : Nat), m.cm[i]? = some (some j) → ∃ a ds vs, as[j]? = some a ∧ m.ρ[i]? = some (some (.list ds)) ∧ σ[i]? = some (some (.ref a)) ∧ H a = some (.lst vs) ∧ Reps K (hid as H) vs ds
section
variable {K : PySem.W.Frag} {as : List Addr} {H H' : Hp} {σ : St} {m : MSt}
theorem MRep.mono (r : MRep K as H σ m) (e : Same H H') : MRep K as H' σ m where
  len := r.len
  lenC := r.lenC
  nd := r.nd
  lk := r.lk
  cells := r.cells.mono e
  dat := fun i d h1 h2 => let ⟨v, h3, h4⟩ := r.dat i d h1 h2; ⟨v, h3, h4.mono (hid_mono e)⟩
  own := fun i j h => let ⟨a, ds, vs, h1, h2, h3, h4, h5⟩ := r.own i j h; ⟨a, ds, vs, h1, h2, h3, e _ _ h4, h5.mono (hid_mono e)⟩
theorem MRep.cmAt (r : MRep K as H σ m) {i : Nat} {o : Option D} (h : m.ρ[i]? = some o) : ∃ c, m.cm[i]? = some c := by
  have h1 : i < m.ρ.length := (List.getElem?_eq_some_iff.mp h).1
  have h2 : i < m.cm.length := by rw [r.lenC, ← r.len]; exact h1
  exact ⟨m.cm[i], by simp [h2]⟩
/-- all in sight -/
theorem MRep.vis (r : MRep K as H σ m) : RepS K H σ m.ρ := by
  refine ⟨r.len, fun i d h => ?_⟩
  obtain ⟨c, hc⟩ := r.cmAt h
  cases c with
  | none => obtain ⟨v, h1, h2⟩ := r.dat i d hc h; exact ⟨v, h1, h2.mono (hid_same _ _)⟩
  | some j =>
    obtain ⟨a, ds, vs, h1, h2, h3, h4, h5⟩ := r.own i j hc
    rw [h] at h2; cases h2
    exact ⟨_, h3, .lst (.inl (.inl h4)) (h5.mono (hid_same _ _))⟩
/-- the own lists out of sight -/
theorem MRep.hidden (r : MRep K as H σ m) : RepS K (hid as H) σ (hidR m) := by
  refine ⟨by simp [r.len, r.lenC], fun i d h => ?_⟩
  simp only [hidR, List.getElem?_zipWith] at h
  cases hr : m.ρ[i]? with
  | none => rw [hr] at h; simp at h
  | some o =>
    obtain ⟨c, hc⟩ := r.cmAt hr
    rw [hr, hc] at h
    cases c with
    | none =>
      have h' : o = some d := by simpa using h
      subst h'
      exact r.dat i d hc hr
    | some j => simp at h
theorem MRep.set (r : MRep K as H σ m) {v : V} {d : D} (p : Rep K (hid as H) v d) (i : Nat) : MRep K as H (σ.set i (some v)) (m.set i d) where
  len := by simp [r.len]
  lenC := by simp [r.lenC]
  nd := r.nd
  lk := r.lk
  cells := r.cells
  dat := fun n e h1 h2 => by
    simp only [MSt.set, List.getElem?_set] at h1 h2 ⊢
    by_cases c : i = n
    · rw [if_pos c] at h1 h2 ⊢
      by_cases hl : i < m.ρ.length
      · rw [if_pos hl] at h2
        rw [if_pos (by rw [← r.len]; exact hl)]
        simp only [Option.some.injEq] at h2
        subst h2
        exact ⟨v, rfl, p⟩
      · rw [if_neg hl] at h2; cases h2
    · rw [if_neg c] at h1 h2 ⊢
      exact r.dat n e h1 h2
  own := fun n j h => by
    simp only [MSt.set, List.getElem?_set] at h ⊢
    by_cases c : i = n
    · rw [if_pos c] at h
      split at h <;> simp at h
    · rw [if_neg c] at h ⊢
      rw [if_neg c]
      exact r.own n j h
theorem hid_new {p : Addr} {o : HO} (h : H p = none) : Same (hid as H) (hid (as ++ [p]) (upd H p o)) := fun b u e => by
  obtain ⟨h1, h2⟩ := hid_some e
  have hb : b ≠ p := ne_of_none h2 h
  rw [hid_out (by simp [h1, hb]), upd_ne hb]
  exact h2
theorem MRep.new (r : MRep K as H σ m) {p : Addr} {vs : List V} {ds : List D} (hp : H p = none) (q : Reps K (hid as H) vs ds) (i : Nat) : MRep K (as ++ [p]) (upd H p (.lst vs)) (σ.set i (some (.ref p))) (m.own i ds) where
  len := by simp [r.len]
  lenC := by simp [r.lenC]
  nd := by
    refine List.nodup_append.mpr ⟨r.nd, by simp, fun a ha b hb => ?_⟩
    have : b = p := by simpa using hb
    subst this
    rintro rfl
    obtain ⟨vs, e⟩ := r.cells a ha
    rw [hp] at e; cases e
  lk := by simp [r.lk]
  cells := fun a ha => by
    rcases List.mem_append.mp ha with ha | ha
    · obtain ⟨xs, e⟩ := r.cells a ha
      exact ⟨xs, by rw [upd_ne (ne_of_none e hp)]; exact e⟩
    · have : a = p := by simpa using ha
      subst this
      exact ⟨vs, upd_same⟩
  dat := fun n e h1 h2 => by
    simp only [MSt.own, List.getElem?_set] at h1 h2 ⊢
    by_cases c : i = n
    · rw [if_pos c] at h1
      split at h1 <;> simp at h1
    · rw [if_neg c] at h1 h2 ⊢
      obtain ⟨v, a1, a2⟩ := r.dat n e h1 h2
      exact ⟨v, a1, a2.mono (hid_new hp)⟩
  own := fun n j h => by
    simp only [MSt.own, List.getElem?_set] at h ⊢
    by_cases c : i = n
    · rw [if_pos c] at h ⊢
      by_cases hl : i < m.cm.length
      · rw [if_pos hl] at h
        simp only [Option.some.injEq] at h
        subst h
        rw [if_pos c, if_pos (show i < m.ρ.length by rw [r.len, ← r.lenC]; exact hl), if_pos (show i < σ.length by rw [← r.lenC]; exact hl)]
        exact ⟨p, ds, vs, by rw [← r.lk]; simp, rfl, rfl, upd_same, q.mono (hid_new hp)⟩
      · rw [if_neg hl] at h; cases h
    · rw [if_neg c] at h ⊢
      rw [if_neg c]
      obtain ⟨a, es, ws, h1, h2, h3, h4, h5⟩ := r.own n j h
      exact ⟨a, es, ws, by rw [List.getElem?_append_left (List.getElem?_eq_some_iff.mp h1).1]; exact h1, h2, h3, by rw [upd_ne (ne_of_none h4 hp)]; exact h4, h5.mono (hid_new hp)⟩
theorem hid_upd {a : Addr} {o : HO} (h : a ∈ as) : hid as (upd H a o) = hid as H := by
  funext b
  by_cases hb : b ∈ as
  · rw [hid_in hb, hid_in hb]
  · rw [hid_out hb, hid_out hb, upd_ne (fun e : b = a => hb (by rw [e]; exact h))]
theorem MRep.put (r : MRep K as H σ m) {j : Nat} {a : Addr} {vs : List V} {ds : List D} (ha : as[j]? = some a) (q : Reps K (hid as H) vs ds) : MRep K as (upd H a (.lst vs)) σ (m.put j ds) where
  len := by simp [r.len, r.lenC]
  lenC := r.lenC
  nd := r.nd
  lk := r.lk
  cells := fun b hb => by
    by_cases e : b = a
    · subst e; exact ⟨vs, upd_same⟩
    · rw [upd_ne e]; exact r.cells b hb
  dat := fun n e h1 h2 => by
    have hm := List.mem_of_getElem? ha
    rw [hid_upd hm]
    simp only [MSt.put] at h1 h2
    rw [List.getElem?_zipWith, h1] at h2
    cases hr : m.ρ[n]? with
    | none => rw [hr] at h2; simp at h2
    | some o =>
      rw [hr] at h2
      have h' : o = some e := by simpa using h2
      subst h'
      exact r.dat n e h1 hr
  own := fun n j' h => by
    have hm := List.mem_of_getElem? ha
    rw [hid_upd hm]
    obtain ⟨b, es, ws, h1, h2, h3, h4, h5⟩ := r.own n j' h
    simp only [MSt.put, List.getElem?_zipWith, h, h2] at h ⊢
    by_cases e : j' = j
    · subst e
      rw [ha] at h1; cases h1
      exact ⟨_, ds, vs, ha, by simp, h3, upd_same, q⟩
    · have hne : b ≠ a := by
        rintro rfl
        exact e ((List.getElem?_inj (List.getElem?_eq_some_iff.mp h1).1 r.nd).mp (h1.trans ha.symm))
      exact ⟨b, es, ws, h1, by simp [e], h3, by rw [upd_ne hne]; exact h4, h5⟩
end
end FD
end
section
set_option Elab.async false
set_option linter.all false
set_option maxRecDepth 100000
set_option maxHeartbeats 4000000
namespace FD
open PySem PySem.Spec PyProof.Rows L2
/-- an expression's datum in such a state: by the own lists unseen, or seen, if the datum holds no list -/
def ev (f : FE) (m : MSt) : Option D := match f (hidR m) with
  | some d => some d
  | none => (f m.ρ).bind fun d => if imm d then some d else none
inductive MOut where
  | nx (m : MSt) | rt (d : D) | bk (m : MSt) | ct (m : MSt)
abbrev FM := MSt → Option MOut
@[simp] def mNil : FM := fun m => some (.nx m)
@[simp] def mSeq (a b : FM) : FM := fun m => (a m).bind fun o => match o with
  | .nx m' => b m'
  | .rt d => some (.rt d)
  | .bk m' => some (.bk m')
  | .ct m' => some (.ct m')
@[simp] def mRet (f : FE) : FM := fun m => (f m.ρ).bind fun d => some (.rt d)
@[simp] def mIf (t : FT) (a b : FM) : FM := fun m => (t m.ρ).bind fun c => if c then a m else b m
@[simp] def mBrk : FM := fun m => some (.bk m)
@[simp] def mCnt : FM := fun m => some (.ct m)
@[simp] def mSet (i : Nat) (f : FE) : FM := fun m => (ev f m).bind fun d => some (.nx (m.set i d))
@[simp] def mOwn (i : Nat) (g : FA) : FM := fun m => (g m.ρ).bind fun ds => if immAll ds then some (.nx (m.own i ds)) else none
@[simp] def mApp (i : Nat) (f : FE) : FM := fun m => (m.cell i).bind fun c => (ev f m).bind fun d => if c.2.length < 1000 then some (.nx (m.put c.1 (c.2 ++ [d]))) else none
@[simp] def mPut (i : Nat) (fk f : FE) : FM := fun m => (ev f m).bind fun d => ((fk m.ρ).bind intOf).bind fun k => (m.cell i).bind fun c => (ixN c.2.length k).bind fun j => some (.nx (m.put c.1 (c.2.set j d)))
/-- name = [one, other][e] -/
@[simp] def MSt.ali (m : MSt) (i y : Nat) : MSt := ⟨m.ρ.set i (m.ρ[y]?.getD none), m.cm.set i (m.cm[y]?.getD none), m.k⟩
@[simp] def mPick (i y z : Nat) (f : FE) : FM := fun m => (m.cell y).bind fun _ => (m.cell z).bind fun _ => ((f m.ρ).bind intOf).bind fun k => if k = 0 then some (.nx (m.ali i y)) else if k = 1 then some (.nx (m.ali i z)) else none
def mforGo (i : Nat) (body : FM) : List D → MSt → Option MOut
  | [], m => some (.nx m)
  | x :: r, m => (body (m.set i x)).bind fun o => match o with
    | .nx m' => mforGo i body r m'
    | .ct m' => mforGo i body r m'
    | .bk m' => some (.nx m')
    | .rt d => some (.rt d)
@[simp] def mFor (i : Nat) (src : FE) (body : FM) : FM := fun m => ((src (hidR m)).bind seqOf).bind fun xs => mforGo i body xs m
@[simp] def mForRng (i : Nat) (a : FE) (body : FM) : FM := fun m => ((a m.ρ).bind intOf).bind fun j => if -1000 ≤ j ∧ j ≤ 1000 then mforGo i body (rng j.toNat) m else none
@[simp] def mstart (n : Nat) (ds : List D) : MSt := ⟨start n ds, List.replicate n none, 0⟩
@[simp] def mretOf : MOut → Option D
  | .rt d => some d
  | .nx _ => some .none
  | _ => none
@[simp] def bodyM (n np : Nat) (s : FM) (ds : List D) : Option D := if ds.length = np ∧ np ≤ n then (s (mstart n ds)).bind mretOf else none

def mends (K : PySem.W.Frag) (as : List Addr) (H : Hp) (o : MOut) : Ends where
  nx := fun σ' H' => ∃ m' as', o = .nx m' ∧ Same (hid as H) (hid as' H') ∧ MRep K as' H' σ' m'
  rt := fun v H' => ∃ d, o = .rt d ∧ Same (hid as H) H' ∧ Rep K H' v d
  bk := fun σ' H' => ∃ m' as', o = .bk m' ∧ Same (hid as H) (hid as' H') ∧ MRep K as' H' σ' m'
  ct := fun σ' H' => ∃ m' as', o = .ct m' ∧ Same (hid as H) (hid as' H') ∧ MRep K as' H' σ' m'
def MSxR (X : Cx) (st : Stmt) (g : FM) : Prop :=
  ∀ (pins : List (Addr × Obj)) (s : Shared) (σ : St) (H : Hp) (as : List Addr) (m : MSt) (o : MOut), Inv X pins σ H s → MRep X.K as H σ m → g m = some o → wpAny (model X.prog X.w) X.A (exec st X.env) (SP X pins (mends X.K as H o)) X.xe s
structure MSx (X : Cx) (st : Stmt) (g : FM) : Prop where
  go : MSxR X st g
def MSsR (X : Cx) (sts : List Stmt) (g : FM) : Prop :=
  ∀ (pins : List (Addr × Obj)) (s : Shared) (σ : St) (H : Hp) (as : List Addr) (m : MSt) (o : MOut), Inv X pins σ H s → MRep X.K as H σ m → g m = some o → wpAny (model X.prog X.w) X.A (execs sts X.env) (SP X pins (mends X.K as H o)) X.xe s
structure MSs (X : Cx) (sts : List Stmt) (g : FM) : Prop where
  go : MSsR X sts g
def tM (K : PySem.W.Frag) (g : FM) : TS := fun D σ H => ∃ (as : List Addr) (m : MSt) (o : MOut), MRep K as H σ m ∧ g m = some o ∧ Ent (mends K as H o) D
theorem MSs.ps {X : Cx} {sts : List Stmt} {g : FM} (h : MSs X sts g) : PSs X sts (tM X.K g) := fun pins s σ H D I ⟨as, m, o, r, e, k⟩ => thn (h.go pins s σ H as m o I r e) fun f s' q => spImp q k
theorem MSx.of {X : Cx} {st : Stmt} {g : FM} {t : TS} (h : PS X st t) (hq : ∀ σ H as m o, MRep X.K as H σ m → g m = some o → t (mends X.K as H o) σ H) : MSx X st g :=
  ⟨fun pins s σ H as m o I r e => h pins s σ H _ I (hq σ H as m o r e)⟩
/-- an expression, as it is read in such a state -/
def tE (K : PySem.W.Frag) (f : FE) : TE := fun σ H Q => ∃ (as : List Addr) (m : MSt) (d : D), MRep K as H σ m ∧ ev f m = some d ∧ ∀ v H', Same H H' → Rep K (hid as H') v d → Q v H'
def tH (K : PySem.W.Frag) (f : FE) : TE := fun σ H Q => ∃ (as : List Addr) (m : MSt) (d : D), MRep K as H σ m ∧ f (hidR m) = some d ∧ ∀ v H', Same H H' → Rep K (hid as H') v d → Q v H'
section
variable {X : Cx} {pos : Pos} {e : Expr} {f : FE}
theorem FEx.ph (h : FEx X e f) : PE X e (tH X.K f) := by
  intro pins s σ H Q I ⟨as, m, d, r, ed, q⟩
  refine thn (h _ s σ (hid as H) (hidR m) d (inv_hide I r.cells) r.hidden ed) fun u s' ⟨v, H', I', rv, mm, p⟩ => ?_
  obtain ⟨I2, sm, sm2⟩ := inv_unhide I r.cells I' mm
  exact ⟨v, _, I2, rv, q v _ sm (p.mono sm2)⟩
theorem FEx.pm (h : FEx X e f) : PE X e (tE X.K f) := by
  intro pins s σ H Q I ⟨as, m, d, r, ed, q⟩
  unfold ev at ed
  split at ed
  · rename_i d' ed'
    cases ed
    exact h.ph pins s σ H Q I ⟨as, m, d, r, ed', q⟩
  · obtain ⟨d', ed', ed⟩ := Option.bind_eq_some_iff.mp ed
    split at ed
    · rename_i hi
      cases ed
      exact thn (h pins s σ H m.ρ d I r.vis ed') fun u s' ⟨v, H', I', rv, mm, p⟩ => ⟨v, H', I', rv, q v H' mm (rep_hid (r.cells.mono mm) p hi)⟩
    · cases ed
@[simp] def gFew (g : FA) : FA := fun ρ => (g ρ).bind fun ds => if few ds then some ds else none
@[simp] def gRep (g : FA) (f : FE) : FA := fun ρ => (g ρ).bind fun ds => ((f ρ).bind intOf).bind fun k => if 0 ≤ k ∧ k ≤ 1000 ∧ ds.length * k.toNat ≤ 1000 then some (List.replicate k.toNat ds).flatten else none
theorem of_cell {K : PySem.W.Frag} {as : List Addr} {H : Hp} {σ : St} {m : MSt} {i j : Nat} {ds : List D} (r : MRep K as H σ m) (h : m.cell i = some (j, ds)) : ∃ a vs, as[j]? = some a ∧ m.cm[i]? = some (some j) ∧ m.ρ[i]? = some (some (.list ds)) ∧ σ[i]? = some (some (.ref a)) ∧ H a = some (.lst vs) ∧ Reps K (hid as H) vs ds := by
  simp only [MSt.cell] at h
  split at h
  · rename_i j' ds' h1 h2
    cases h
    obtain ⟨a, es, vs, a1, a2, a3, a4, a5⟩ := r.own i j h1
    rw [h2] at a2; cases a2
    exact ⟨a, vs, a1, h1, h2, a3, a4, a5⟩
  · cases h
theorem Reps.set {K : PySem.W.Frag} {H : Hp} {v : V} {d : D} (p : Rep K H v d) : ∀ {vs : List V} {ds : List D} (j : Nat), Reps K H vs ds → Reps K H (vs.set j v) (ds.set j d)
  | _, _, _, .nil => .nil
  | _, _, 0, .cons _ r => .cons p r
  | _, _, j + 1, .cons h r => .cons h (Reps.set p j r)
end
end FD
end
section
set_option Elab.async false
set_option linter.all false
set_option maxRecDepth 100000
set_option maxHeartbeats 4000000
namespace FD
open PySem PySem.Spec PyProof.Rows L2
theorem MRep.ali {K : PySem.W.Frag} {as : List Addr} {H : Hp} {σ : St} {m : MSt} (r : MRep K as H σ m) {i y j : Nat} {ds : List D} {a : Addr} (hc : m.cm[y]? = some (some j)) (hr : m.ρ[y]? = some (some (.list ds))) (hs : σ[y]? = some (some (.ref a))) : MRep K as H (σ.set i (some (.ref a))) (m.ali i y) where
  len := by simp [r.len]
  lenC := by simp [r.lenC]
  nd := r.nd
  lk := r.lk
  cells := r.cells
  dat := fun n e h1 h2 => by
    simp only [MSt.ali, hc, hr, Option.getD_some, List.getElem?_set] at h1 h2 ⊢
    by_cases c : i = n
    · rw [if_pos c] at h1
      split at h1 <;> simp at h1
    · rw [if_neg c] at h1 h2 ⊢
      exact r.dat n e h1 h2
  own := fun n j' h => by
    simp only [MSt.ali, hc, hr, Option.getD_some, List.getElem?_set] at h ⊢
    by_cases c : i = n
    · rw [if_pos c] at h ⊢
      by_cases hl : i < m.cm.length
      · rw [if_pos hl] at h
        simp only [Option.some.injEq] at h
        subst h
        obtain ⟨b, es, vs, a1, a2, a3, a4, a5⟩ := r.own y j hc
        rw [hr] at a2; cases a2
        rw [hs] at a3; cases a3
        rw [if_pos c, if_pos (show i < m.ρ.length by rw [r.len, ← r.lenC]; exact hl), if_pos (show i < σ.length by rw [← r.lenC]; exact hl)]
        exact ⟨_, _, vs, a1, rfl, rfl, a4, a5⟩
      · rw [if_neg hl] at h; cases h
    · rw [if_neg c] at h ⊢
      rw [if_neg c]
      exact r.own n j' h
section
variable {X : Cx} {pos : Pos} {e : Expr} {f : FE}
end
end FD
end
section
set_option Elab.async false
set_option linter.all false
set_option maxRecDepth 100000
set_option maxHeartbeats 4000000
namespace FD
open PySem PySem.Spec PyProof.Rows L2
abbrev FK := MSt → Option MSt
@[simp] def kPut (i : Nat) (fk f : FE) : FK := fun m => (ev f m).bind fun d => ((fk m.ρ).bind intOf).bind fun k => (m.cell i).bind fun c => (ixN c.2.length k).bind fun j => some (m.put c.1 (c.2.set j d))
@[simp] def kIf (t : FT) (a b : FK) : FK := fun m => (t m.ρ).bind fun c => if c then a m else b m
section
variable {X : Cx} {pos : Pos} {e : Expr} {f : FE}
end
/-- behind such a call -/
theorem MRep.swap {K : PySem.W.Frag} {as : List Addr} {H H' : Hp} {σ σ' : St} {m m' : MSt} (r : MRep K as H σ m) (r' : MRep K as H' σ' m') (s : Same (hid as H) (hid as H')) (hk : m.k = 2) {x y : List D} (h0 : m'.cell 1 = some (0, x)) (h1 : m'.cell 2 = some (1, y)) :
    MRep K as H' σ ((m.put 0 x).put 1 y) where
  len := by simp [r.len, r.lenC]
  lenC := r.lenC
  nd := r.nd
  lk := r.lk
  cells := r'.cells
  dat := fun n e h1 h2 => by
    simp only [MSt.put] at h1 h2
    rw [List.getElem?_zipWith, h1, List.getElem?_zipWith, h1] at h2
    cases hr : m.ρ[n]? with
    | none => rw [hr] at h2; simp at h2
    | some o =>
      rw [hr] at h2
      have h' : o = some e := by simpa using h2
      subst h'
      obtain ⟨v, a1, a2⟩ := r.dat n e h1 hr
      exact ⟨v, a1, a2.mono s⟩
  own := fun n j h => by
    obtain ⟨b, es, ws, a1, a2, a3, a4, a5⟩ := r.own n j h
    have hj : j < 2 := by rw [← hk, ← r.lk]; exact (List.getElem?_eq_some_iff.mp a1).1
    simp only [MSt.put, List.getElem?_zipWith, h, a2] at h ⊢
    obtain ⟨p0, v0, b1, b2, b3, b4, b5, b6⟩ := of_cell r' h0
    obtain ⟨p1, v1, c1, c2, c3, c4, c5, c6⟩ := of_cell r' h1
    rcases (by omega : j = 0 ∨ j = 1) with rfl | rfl
    · rw [a1] at b1; cases b1
      exact ⟨b, x, v0, a1, by simp, a3, b5, b6⟩
    · rw [a1] at c1; cases c1
      exact ⟨b, y, v1, a1, by simp, a3, c5, c6⟩
@[simp] def mMove (i0 i1 i2 : Nat) (g : FK) : FM := fun m => ((m.ρ[i0]?).bind id).bind fun d0 => if m.cm[i0]? = some none ∧ m.k = 2 then (m.cell i1).bind fun c1 => (m.cell i2).bind fun c2 => if c1.1 = 0 ∧ c2.1 = 1 then
    (g ⟨[some d0, some (.list c1.2), some (.list c2.2)], [none, some 0, some 1], 2⟩).bind fun m' => (m'.cell 1).bind fun e1 => (m'.cell 2).bind fun e2 => if e1.1 = 0 ∧ e2.1 = 1 then some (.nx ((m.put 0 e1.2).put 1 e2.2)) else none else none else none
section
variable {X : Cx} {pos : Pos}
end
end FD
end
section
set_option Elab.async false
set_option linter.all false
set_option maxRecDepth 100000
set_option maxHeartbeats 4000000
namespace FD
open PySem PySem.Spec PyProof.Rows L2
def kvOf (ps : List (Str × Int)) : List (Key × V) := ps.map fun p => (Sum.inr p.1, V.int p.2)
def lookD (ps : List (Str × Int)) : D → Option D
  | .str k => match valV (mergeK [] (kvOf ps)) (Sum.inr k) with
    | some (.int i) => some (.int i)
    | _ => none
  | _ => none
@[simp] def eDictIx (ps : List (Str × Int)) (f : FE) : FE := fun ρ => (f ρ).bind (lookD ps)
section
variable {X : Cx} {e : Expr} {f : FE} {pos : Pos}
end
def leS (a b : Str) : Bool := !Spec.ltCps b.cps.toList a.cps.toList
theorem leS_iff (a b : Str) : leS a b = true ↔ a.cps.toList ≤ b.cps.toList := by
  simp only [leS, ltCps_eq, Bool.not_eq_true', decide_eq_false_iff_not, List.not_lt]
theorem leS_trans (a b c : Str) (h1 : leS a b = true) (h2 : leS b c = true) : leS a c = true := by
  rw [leS_iff] at *; exact List.le_trans h1 h2
theorem leS_total (a b : Str) : (leS a b || leS b a) = true := by
  rw [Bool.or_eq_true, leS_iff, leS_iff]; exact List.le_total ..
theorem str_ext {a b : Str} (h : a.cps.toList = b.cps.toList) : a = b := by
  cases a; cases b; simp only at h; simpa [← Array.toList_inj] using h
theorem leS_antisymm {a b : Str} (h1 : leS a b = true) (h2 : leS b a = true) : a = b := by
  rw [leS_iff] at *; exact str_ext (List.le_antisymm h1 h2)
def sortS (ss : List Str) : List Str := ss.mergeSort leS
theorem pairwise_of_rising : ∀ (p : Str) (l : List Str), risingS p l = true → (p :: l).Pairwise (fun a b => leS a b = true)
  | p, [], _ => by simp
  | p, x :: r, h => by
    simp only [risingS, Bool.and_eq_true] at h
    have ih := pairwise_of_rising x r h.2
    refine List.pairwise_cons.mpr ⟨fun y hy => ?_, ih⟩
    rcases List.mem_cons.mp hy with rfl | hy
    · exact h.1
    · exact leS_trans p x y h.1 ((List.pairwise_cons.mp ih).1 y hy)
theorem sortS_unique {ss ss' : List Str} (hp : ss'.Perm ss) (hs : sortedS ss' = true) : ss' = sortS ss := by
  have h1 : ss'.Pairwise (fun a b => leS a b = true) := by
    cases ss' with
    | nil => exact .nil
    | cons x r => exact pairwise_of_rising x r hs
  exact List.Perm.eq_of_pairwise (le := fun a b => leS a b = true) (fun a b _ _ h h' => leS_antisymm h h') h1 (List.pairwise_mergeSort leS_trans leS_total ss) (hp.trans (List.mergeSort_perm ss leS).symm)
theorem strsAre_of : ∀ {ss : List Str} {us : List Value}, Vals (ss.map V.str) us → StrsAre us ss
  | [], _, r => by cases r; exact .nil
  | x :: ss, _, r => by
    cases r with
    | cons h t => obtain ⟨tk, rfl⟩ := h; exact .cons x tk (strsAre_of t)
theorem vals_of_strs : ∀ {us : List Value} {ss : List Str}, StrsAre us ss → Vals (ss.map V.str) us
  | _, _, .nil => .nil
  | _, _, .cons y t r => .cons ⟨t, rfl⟩ (vals_of_strs r)
theorem reps_of_strs {K : PySem.W.Frag} {H : Hp} : ∀ ss : List Str, Reps K H (ss.map V.str) (ss.map PyData.str)
  | [] => .nil
  | x :: r => .cons (.str x) (reps_of_strs r)
section
variable {X : Cx}
theorem cb_max (calm : X.calm = true) : CbD X (.builtin "max") maxD := CbD.of (call_max2 calm) fun H xs ds d p e => by
  cases p with
  | nil => exact nomatch e
  | cons p1 p2 =>
    cases p2 with
    | nil => cases p1 <;> exact nomatch e
    | cons p2 p3 =>
      cases p3 with
      | cons _ _ => cases p1 <;> cases p2 <;> exact nomatch e
      | nil =>
        cases p1 <;> cases p2 <;> simp only [maxD] at e <;> first | contradiction | skip
        cases e
        exact ⟨_, _, rfl, Same.refl _, .int _⟩
theorem bt_sorted : bootBuiltins "sorted" = some (.builtin "sorted") := by decide +kernel
end
end FD
end
section
set_option Elab.async false
set_option linter.all false
set_option maxRecDepth 100000
set_option maxHeartbeats 4000000
namespace FD
open PySem PySem.Spec PyProof.Rows
abbrev byT (w : World) : Bool := w.params.followText "set-order"
def txt : Value → Str
  | .str s _ => s
  | _ => ""
/-- the table of a set of texts, whose elements are these -/
structure TabT (prog : Program) (w : World) (es : Array (Int × Value)) (t : SetTable) (ss : List Str) : Prop where
  el : ElemsOf (strKind prog w) es.toList
  pm : (es.toList.map fun e => txt e.2).Perm ss
  ft : t.fits es.size = true
  ld : byT w = true ∨ t.led = true
  pl : es.size = 0 ∨ t.plain = false
def SetT (prog : Program) (w : World) (ss : List Str) (a : Addr) (h : Heap) : Prop := ∃ o es ep t, h.get? a = some o ∧ o.ExactSet ∧ o.data = .set es ep t ∧ TabT prog w es t ss
theorem TabT.size {prog : Program} {w : World} {es : Array (Int × Value)} {t : SetTable} {ss : List Str} (T : TabT prog w es t ss) : es.size = ss.length := by
  have := T.pm.length_eq
  simpa using this
theorem relay_keeps (t : SetTable) (es : Array (Int × Value)) (n : Nat) : (relayAll t es n).2.1.led = t.led ∧ (t.plain = false → (relayAll t es n).2.1.plain = false) := by
  unfold relayAll
  split
  · rename_i t' order h
    have g : t'.led = t.led ∧ t'.plain = t.plain := by
      unfold SetTable.relaid SetTable.laid at h
      obtain ⟨ow, _, h⟩ := Option.bind_eq_some_iff.mp h
      cases h
      exact ⟨rfl, rfl⟩
    dsimp only
    split
    · exact ⟨g.1, fun z => g.2.trans z⟩
    · exact ⟨rfl, fun _ => rfl⟩
  · exact ⟨rfl, fun _ => rfl⟩
theorem stand_led (t : SetTable) (n : Nat) : (t.orStandIn n).led = t.led ∧ (t.plain = false → (t.orStandIn n).plain = false) := by
  unfold SetTable.orStandIn
  split
  · exact ⟨rfl, id⟩
  · exact ⟨rfl, fun _ => rfl⟩
theorem layNew_led (t : SetTable) (es : Array (Int × Value)) (h : Int) (x : Value) : (layNew t es h x).2.1.led = t.led ∧ (t.plain = false → (layNew t es h x).2.1.plain = false) := by
  unfold layNew
  split
  · rename_i slot dm e
    exact stand_led (t.put slot).1 _
  · exact ⟨rfl, fun _ => rfl⟩
section
variable {prog : Program} {w : World} {A : Around} {E : Value → Shared → Prop} {s : Shared}
theorem txt_is {x : Str} {v : Value} (h : (strKind prog w).is x v = true) : txt v = x := by
  obtain ⟨t, rfl⟩ := Value.isStrOf_shape h
  rfl
theorem is_txt (x : Str) (t : Tok) : (strKind prog w).is x (.str x t) = true := by
  show Value.isStrOf x (.str x t) = true
  simp [Value.isStrOf]
/-- laid down, and the table made greater where it is too full -/
theorem put_tail {g : Bool → Sem Unit} (hg : ∀ (b : Bool) (z : Shared) (R : Unit → Shared → Prop), R () z → wpAny (model prog w) A (g b) R E z) {a : Addr} {o : Obj} {es0 : Array (Int × Value)} {ep : Nat} {t0 : SetTable} {es : Array (Int × Value)} {t : SetTable} {ss : List Str} {dm : Bool} {Q : Option Bool → Shared → Prop}
    (ho : s.heap.get? a = some o) (hex : o.ExactSet) (hd : o.data = .set es0 ep t0) (T : TabT prog w es t ss) (hb : es.size < scanBound) (hpl : t.plain = false)
    (k : ∀ h', Heap.SameBut a s.heap h' → SetT prog w ss a h' → Q (some true) { s with heap := h' }) :
    wpAny (model prog w) A (do
        storeSet a es t
        if (!dm && t.tooFull) = true then do
            g (relayAll t es (SetTable.grown es.size)).2.2
            storeSet a (relayAll t es (SetTable.grown es.size)).1 (relayAll t es (SetTable.grown es.size)).2.1
            pure (some true)
          else pure (some true)) Q E s := by
  have put : ∀ {h : Heap} {o' : Obj} {es1 : Array (Int × Value)} {ep1 : Nat} {t1 : SetTable} (es2 : Array (Int × Value)) (t2 : SetTable), h.get? a = some o' → o'.data = .set es1 ep1 t1 → (h.update a (Obj.putSet es2 t2)).get? a = some { o' with data := .set es2 (ep1 + 1) t2 } := fun es2 t2 e d => by
    have := Heap.get?_update_self (Obj.putSet es2 t2) e (by rw [putSet_of es2 t2 d]; rfl)
    rwa [putSet_of es2 t2 d] at this
  have g1 := put es t ho hd
  refine wpAny_bind (wpAny_storeSet_of ho hd ?_ (fits_of_scanBound hb))
  have b1 := Heap.SameBut.update s.heap a (Obj.putSet es t)
  split
  · obtain ⟨q1, q2⟩ := relay_keeps t es (SetTable.grown es.size)
    have q3 := relayAll_perm t es (SetTable.grown es.size)
    have q4 := relayAll_fits t es (SetTable.grown es.size)
    generalize relayAll t es (SetTable.grown es.size) = R at q1 q2 q3 q4 ⊢
    obtain ⟨es2, t2, gv⟩ := R
    dsimp only at q1 q2 q3 q4 ⊢
    have sz : es2.size = es.size := by simpa using q3.length_eq
    have T2 : TabT prog w es2 t2 ss := ⟨T.el.perm q3, (q3.map _).trans T.pm, q4, T.ld.imp id fun z => q1.trans z, .inr (q2 hpl)⟩
    refine wpAny_bind (hg _ _ _ (wpAny_bind (wpAny_storeSet_of g1 rfl ?_ (fits_of_scanBound (by rw [sz]; exact hb)))))
    exact wpAny_pure (k _ (b1.trans (Heap.SameBut.update _ a _)) ⟨_, _, _, _, put es2 t2 g1 rfl, hex, rfl, T2⟩)
  · exact wpAny_pure (k _ b1 ⟨_, _, _, _, g1, hex, rfl, T⟩)
theorem set_put {a : Addr} {x : Str} {tk : Tok} {ss : List Str} {Q : Bool → Shared → Prop} (S : SetT prog w ss a s.heap) (hx : x ∉ ss) (hl : ss.length < 1000)
    (k : ∀ h', Heap.SameBut a s.heap h' → SetT prog w (ss ++ [x]) a h' → Q true { s with heap := h' }) : wpAny (model prog w) A (setAddHashed a (.str x tk) ((strKind prog w).hash x)) Q E s := by
  obtain ⟨o, es, ep, t, ho, hex, hd, T⟩ := S
  have sz := T.size
  have bd : scanBound = 4096 := rfl
  have ix := is_txt (prog := prog) (w := w) x tk
  have nf : List.findIdx? (fun e => (strKind prog w).is x e.2) es.toList = none := by
    rw [List.findIdx?_eq_none_iff]
    intro e he
    cases hb : (strKind prog w).is x e.2 with
    | false => rfl
    | true => exact absurd (T.pm.mem_iff.mp (List.mem_map.mpr ⟨e, he, txt_is hb⟩)) hx
  unfold setAddHashed setAddHashedIn
  refine wpAny_holding (wpAny_bind (wpAny_setState_of ho hd T.ft ?_))
  dsimp only
  rw [byScan_of (knd := strKind prog w) (x := .str x tk) rfl (by omega) T.el, if_pos rfl]
  unfold setAddByScan
  refine wpAny_bind (wpAny_bind (wpAny_rule (wpAny_bind (wpAny_setScan_of ix ho hd T.ft T.el ?_))))
  rw [nf]
  dsimp only
  obtain ⟨l1, l2⟩ := layNew_led t es ((strKind prog w).hash x) (.str x tk)
  have l3 := layNew_perm t es ((strKind prog w).hash x) (.str x tk)
  have l4 := layNew_fits t es ((strKind prog w).hash x) (.str x tk)
  generalize layNew t es ((strKind prog w).hash x) (.str x tk) = L at l1 l2 l3 l4 ⊢
  obtain ⟨es1, t1, dm, gv⟩ := L
  dsimp only at l1 l2 l3 l4 ⊢
  rw [Array.toList_push] at l3
  have sz1 : es1.size = es.size + 1 := by simpa using l3.length_eq
  have el1 : ElemsOf (strKind prog w) es1.toList := (T.el.push ix rfl).perm l3
  have pm1 : (es1.toList.map fun e => txt e.2).Perm (ss ++ [x]) := (l3.map _).trans (by rw [List.map_append]; exact T.pm.append_right _)
  have ld1 : byT w = true ∨ t1.led = true := T.ld.imp id fun z => l1.trans z
  have hgw : ∀ (b : Bool) (z : Shared) (R : Unit → Shared → Prop), R () z → wpAny (model prog w) A (match b with | true => rule "set.scan.the-table-gave-way" | false => pure ()) R E z := fun b z R q => by
    cases b
    · exact wpAny_pure q
    · exact wpAny_rule q
  refine wpAny_bind (hgw gv _ _ ?_)
  cases hp : t1.plain with
  | true =>
    rw [if_pos rfl, hashByValue_scannable 8 (x := .str x tk) rfl]
    refine wpAny_bind (wpAny_pure ?_)
    show wpAny _ _ (do
        storeSet a es1 { t1 with plain := false }
        if (!dm && SetTable.tooFull { t1 with plain := false }) = true then _ else _) _ _ _
    exact put_tail hgw ho hex hd ⟨el1, pm1, SetTable.fits_plain_off l4, ld1, .inr rfl⟩ (by omega) rfl fun h' sb S' => wpAny_pure (k h' sb S')
  | false =>
    rw [if_neg (by simp)]
    refine wpAny_bind (wpAny_pure ?_)
    show wpAny _ _ (do
        storeSet a es1 t1
        if (!dm && SetTable.tooFull t1) = true then _ else _) _ _ _
    exact put_tail hgw ho hex hd ⟨el1, pm1, l4, ld1, .inr hp⟩ (by omega) hp fun h' sb S' => wpAny_pure (k h' sb S')
end
end FD
end
section
set_option Elab.async false
set_option linter.all false
set_option maxRecDepth 100000
set_option maxHeartbeats 4000000
namespace FD
open PySem PySem.Spec PyProof.Rows
theorem SetT.keep {prog : Program} {w : World} {ss : List Str} {a : Addr} {h h' : Heap} (S : SetT prog w ss a h) (e : ∀ o, h.get? a = some o → h'.get? a = some o) : SetT prog w ss a h' := by
  obtain ⟨o, es, ep, t, ho, r⟩ := S
  exact ⟨o, es, ep, t, e o ho, r⟩
section
variable {prog : Program} {w : World} {A : Around} {R : Result → Shared → Prop} {I : Addr} {fp wr : List Addr} {G : Array GenState → Array GenState → Prop} {n : Nat} {P : Nat → Value → Prop} {St : Nat → Shared → Prop}
/-- text by text into the set -/
theorem fill_loop (W : WalksS prog w A.in1 I fp wr G n P St) {S : Addr} (hS : S ∉ fp) {ss : List Str} (hn : n = ss.length) (nd : ss.Nodup) (hl : ss.length < 1000) (hv : ∀ i v, P i v → ∃ x t, ss[i]? = some x ∧ v = .str x t) :
    ∀ (k i : Nat) (s : Shared), n - i = k → i ≤ n → St i s → SetT prog w (ss.take i) S s.heap → (∀ s', Moved (S :: wr) G s s' → SetT prog w ss S s'.heap → R (.ok (.ret .none)) s') →
      codeAny (model prog w) A (.builtin "set.update.loop" ⟨[.ref S, .ref I], []⟩) R s := by
  have hw : S ∉ wr := fun z => hS (W.sub _ z)
  have up : ∀ b ∈ wr, b ∈ S :: wr := fun b z => List.mem_cons_of_mem _ z
  intro k
  induction k with
  | zero =>
    intro i s e1 e2 st T q
    obtain rfl : i = n := by omega
    refine codeAny_builtin F.entry_set_update_loop ?_
    rw [Around.under_plainId F.plain_set_update_loop _]
    refine wpAny_bind (m := pyNext (.ref I)) (W.done s _ _ st fun s' m => wpAny_pure (q s' (m.mono up) ?_))
    have : ss.take i = ss := by rw [hn]; exact List.take_length
    rw [this] at T
    exact T.keep fun o e => m.heap S o hw e
  | succ k ih =>
    intro i s e1 e2 st T q
    have lt : i < n := by omega
    refine codeAny_builtin F.entry_set_update_loop ?_
    rw [Around.under_plainId F.plain_set_update_loop _]
    refine wpAny_bind (m := pyNext (.ref I)) (W.item i s _ _ lt st fun v s' pv st' m => ?_)
    obtain ⟨x, tk, hx, rfl⟩ := hv i v pv
    have T' : SetT prog w (ss.take i) S s'.heap := T.keep fun o e => m.heap S o hw e
    refine wpAny_bind (m := holding [Value.str x tk] (setAdd S (.str x tk))) (wpAny_holding ?_)
    unfold setAdd
    refine wpAny_holding (wpAny_bind ((strKind prog w).pyHash (k := x) (is_txt x tk) ?_))
    have hnew : x ∉ ss.take i := fun z => by
      obtain ⟨j, hj, ej⟩ := List.mem_iff_getElem.mp z
      have hj' : j < i := by have := List.length_take_le i ss; omega
      rw [List.getElem_take] at ej
      have := (List.getElem?_inj (by omega : j < ss.length) nd).mp ((List.getElem?_eq_getElem (by omega)).trans ((congrArg some ej).trans hx.symm))
      omega
    refine set_put (s := { s' with toks := s'.toks + 1 }) T' hnew (Nat.lt_of_le_of_lt (List.length_take_le' i ss) hl) fun h' sb S' => ?_
    have e3 : ss.take i ++ [x] = ss.take (i + 1) := by rw [List.take_succ, hx]; rfl
    rw [e3] at S'
    refine wpAny_pure ⟨plainId_quiet F.plain_set_update_loop _, ih (i + 1) _ (by omega) lt (W.frame _ s' _ _ st' (Nat.le_succ _) fun b hb o e => ?_) S' fun s2 m2 S2 => ?_⟩
    · rw [sb.2 b (fun z : b = S => hS (by rw [← z]; exact hb))]; exact e
    · refine q s2 (Moved.trans W.gtrans ((m.mono up).then_heap (Nat.le_succ _) fun b o hb e => ?_) m2) S2
      rw [sb.2 b (fun z : b = S => hb (by rw [z]; exact List.mem_cons_self))]; exact e
end
section
variable {prog : Program} {w : World} {A : Around} {E : Value → Shared → Prop} {s : Shared}
abbrev emptySet (w : World) : Obj := { cls := .type "set", dict := none, data := .set #[] 0 (.fresh 0 0 (!byT w)) }
theorem new_set (a : Value) {Q : Value → Shared → Prop} (k : Q (.ref s.heap.objs.size) { s with heap := s.heap.push (emptySet w) }) :
    codeAny (model prog w) A (.call (.builtin "set.__new__") ⟨[.type "set", a], []⟩) (wants Q E) s := by
  refine codeAny_of_tree ?_
  refine wpAny_bind (m := checkBuiltinCall "set.__new__" ⟨[.type "set", a], []⟩) (wpAny_of_eq (F.newCall_set_1 a) (wpAny_pure ⟨plainId_quiet F.plain_set_new _, codeAny_builtin F.entry_set_new ?_⟩))
  rw [Around.under_plainId F.plain_set_new _]
  unfold Builtin.«set.__new__» Builtin.Frozenset.newClass
  have hsub := sub_set_self
  obtain ⟨hp, g, d, tk, os⟩ := s
  dsimp only
  wp_walk
  refine wpAny_askSetting (wpAny_pure ?_)
  dsimp only
  simp only [newObj]
  exact wpAny_bind (wpAny_alloc (wpAny_pure (wpAny_pure k)))
theorem empty_tab (prog : Program) (w : World) : TabT prog w #[] (.fresh 0 0 (!byT w)) [] := by
  refine ⟨fun e he => by simp at he, by simp, rfl, ?_, .inl rfl⟩
  cases byT w
  · exact .inr rfl
  · exact .inl rfl
theorem sub_tup_set : isSubtype (.type "tuple") (.type "set") = pure false := by rw [isSubtype_type]; kernel_rfl
theorem sub_tup_frozenset : isSubtype (.type "tuple") (.type "frozenset") = pure false := by rw [isSubtype_type]; kernel_rfl
/-- set(a tuple of texts, each once) -/
theorem set_of_tuple {l : Addr} {items : Array Value} {ss : List Str} {Q : Value → Shared → Prop} (hh : A.handled = none) (hl : s.heap.IsTuple l items) (hn : items.size = ss.length) (nd : ss.Nodup) (h1 : ss.length < 1000) (hi : ∀ (i : Nat) (v : Value), items[i]? = some v → ∃ x t, ss[i]? = some x ∧ v = Value.str x t)
    (k : ∀ (h' : Heap) (tk : Nat), SetT prog w ss s.heap.objs.size h' → (∀ b o, b < s.heap.objs.size → s.heap.get? b = some o → h'.get? b = some o) → Q (.ref s.heap.objs.size) { s with heap := h', toks := tk }) :
    wpAny (model prog w) A (call (.type "set") [.ref l]) Q E s := by
  obtain ⟨c, tl, hmro⟩ := F.called_set.mro
  have hmade := F.called_set.made
  have hsub := F.called_set.sub
  refine wpAny_call (codeAny_of_tree ?_)
  show wpAny _ _ (callAny (.type "set") _) _ _ _
  refine wpAny_pure ⟨Code.quiet_builtin _ (by decide +kernel), codeAny_builtin F.entry_type_call ?_⟩
  rw [Around.under_plain (weight_type_call_type "set" [.ref l] []) rfl]
  have t1 := F.called_set.notType
  have t2 := F.called_set.canCreate
  have t3 := F.typeCall_set_1 (.ref l)
  repeat (any_goals (first | assumption | wp_step))
  refine codeAny_mono (new_set (.ref l) (E := E) (Q := fun obj z => obj = .ref s.heap.objs.size ∧ z = { s with heap := s.heap.push (emptySet w) }) ⟨rfl, rfl⟩) fun r z hr => ?_
  cases r with
  | error e => exact hr
  | ok fl =>
    cases fl with
    | ret obj =>
      obtain ⟨rfl, rfl⟩ := hr
      have gS : (s.heap.push (emptySet w)).get? s.heap.objs.size = some (emptySet w) := Heap.get?_push_size _ rfl
      have hT : Shared.TypeIs { s with heap := s.heap.push (emptySet w) } (.ref s.heap.objs.size) "set" := ⟨_, gS, rfl⟩
      have hli := F.called_set.init.lookup
      have hbi := F.called_set.init.bind (.ref s.heap.objs.size)
      repeat (any_goals (first | assumption | wp_step))
      refine codeAny_mono (codeAny_call_builtin (R := wants (fun r z => r = .none ∧ ∃ h' tk, z = { s with heap := h', toks := tk } ∧ SetT prog w ss s.heap.objs.size h' ∧
          (∀ b o, b < s.heap.objs.size → s.heap.get? b = some o → h'.get? b = some o)) E) F.called_set.init.plain F.entry_set_init (check_set_init_1 hT ?_)) fun r₂ s₂ hr₂ => ?_
      · have hl1 : (s.heap.push (emptySet w)).IsTuple l items := hl.push _
        obtain ⟨ol, hol, hcl, nl, hdl⟩ := hl
        obtain ⟨ocls, odict, odata, oslots⟩ := ol
        simp only at hcl hdl
        subst hcl; subst hdl
        have hol' : (s.heap.push (emptySet w)).get? l = some { cls := .type "tuple", dict := odict, data := .seq items nl, slots := oslots } := Heap.get?_push_of_some _ hol
        have u1 := sub_tup_set
        have u2 := sub_tup_frozenset
        have u3 : (Value.type "tuple" == Value.type "dict") = false := by decide
        unfold Builtin.«set.__init__» noKeywords Builtin.Frozenset.updateFrom
        generalize hPI : pyIter = PI
        wp_walk
        subst hPI
        refine wpAny_pyIter_tuple hl1 (wpAny_bind (wpAny_runValue ?_))
        have lt : l < s.heap.objs.size := Heap.lt_size hol
        have c3 : A.in1.in1.in1.handled = none := by simp [hh]
        have ne1 : l ≠ (s.heap.push (emptySet w)).objs.size := by rw [Heap.size_push]; exact Nat.ne_of_lt (Nat.lt_succ_of_lt lt)
        have ne2 : s.heap.objs.size ∉ [(s.heap.push (emptySet w)).objs.size, l] := by
          rw [Heap.size_push]
          intro z
          simp only [List.mem_cons, List.not_mem_nil, or_false] at z
          exact z.elim (Nat.ne_of_lt (Nat.lt_succ_self _)) fun y => Nat.ne_of_lt lt y.symm
        refine fill_loop ((Walks.tuple c3 _ l ne1 items).toS) ne2 hn nd h1 hi (items.size - 0) 0 _ rfl (Nat.zero_le _) ⟨⟨_, Heap.get?_push_size _ rfl, rfl, rfl⟩, hl1.push _⟩ ?_ ?_
        · exact ⟨_, _, _, _, Heap.get?_push_of_some _ gS, ⟨rfl, rfl, rfl⟩, rfl, empty_tab prog w⟩
        · intro s' m S'
          obtain ⟨h', g', d', tk', os'⟩ := s'
          obtain rfl : g' = s.gens := m.gens
          obtain rfl : d' = s.drawn := m.drawn
          obtain rfl : os' = s.os := m.os
          refine wpAny_pure (wpAny_pure ⟨rfl, h', tk', rfl, S', fun b o hb e => m.heap b o ?_ (Heap.get?_push_of_some _ (Heap.get?_push_of_some _ e))⟩)
          rw [Heap.size_push]
          intro z
          simp only [List.mem_cons, List.not_mem_nil, or_false] at z
          exact z.elim (Nat.ne_of_lt hb) (Nat.ne_of_lt (Nat.lt_succ_of_lt hb))
      · cases r₂ with
        | error e => exact hr₂
        | ok fl₂ =>
          cases fl₂ with
          | ret r =>
            obtain ⟨rfl, h', tk, rfl, S', kp⟩ := hr₂
            repeat (any_goals (first | assumption | wp_step))
            exact k _ _ S' kp
          | _ => exact hr₂.elim
    | _ => exact hr.elim
end
end FD
end
section
set_option Elab.async false
set_option linter.all false
set_option maxRecDepth 100000
set_option maxHeartbeats 4000000
namespace FD
open PySem PySem.Spec PyProof.Rows
theorem slot_si_next : Slot "set_iterator" "__next__" "set_iterator.__next__" := Slot.of (owner := "set_iterator") (n := "__next__") (by rw [typeLookup_type, builtinLookup_eq_fast]; kernel_rfl) (by decide +kernel) (by decide +kernel) (by decide +kernel) (by first | exact .inl (by decide +kernel) | exact .inr (by decide +kernel)) (by rw [isSubtype_type]; kernel_rfl)
theorem slot_si_iter : Slot "set_iterator" "__iter__" "set_iterator.__iter__" := Slot.of (owner := "set_iterator") (n := "__iter__") (by rw [typeLookup_type, builtinLookup_eq_fast]; kernel_rfl) (by decide +kernel) (by decide +kernel) (by decide +kernel) (by first | exact .inl (by decide +kernel) | exact .inr (by decide +kernel)) (by rw [isSubtype_type]; kernel_rfl)
theorem entry_si_next : entryFor table "set_iterator.__next__" = some Builtin.«set_iterator.__next__» := entryFor_of_tree (by kernel_rfl)
theorem entry_si_iter : entryFor table "set_iterator.__iter__" = some Builtin.«dict_keyiterator.__iter__» := entryFor_alias (id' := "dict_keyiterator.__iter__") (by kernel_rfl) (by first | rfl | decide +kernel | (unfold String.splitOn; simp +decide [String.splitOnAux])) (by decide +kernel) (by kernel_rfl)
theorem entry_set_it : entryFor table "set.__iter__" = some Builtin.«frozenset.__iter__» := entryFor_alias (id' := "frozenset.__iter__") (by kernel_rfl) (by first | rfl | decide +kernel | (unfold String.splitOn; simp +decide [String.splitOnAux])) (by decide +kernel) (by kernel_rfl)
theorem owner_si : Manifest.owners.lookup (String.ofList ['r', 'o', 't', 'a', 'r', 'e', 't', 'i', '_', 't', 'e', 's'].reverse) = some Manifest.sig_set_iterator := by kernel_rfl
theorem args_si_next (a : Value) : argsOk "set_iterator.__next__" ⟨[a], []⟩ := by
  unfold argsOk
  rw [signature?_of (id := "set_iterator.__next__") (n := ['_', '_', 't', 'x', 'e', 'n', '_', '_']) (o := ['r', 'o', 't', 'a', 'r', 'e', 't', 'i', '_', 't', 'e', 's']) (by kernel_rfl) owner_si]
  kernel_rfl
theorem args_si_iter (a : Value) : argsOk "set_iterator.__iter__" ⟨[a], []⟩ := by
  unfold argsOk
  rw [signature?_of (id := "set_iterator.__iter__") (n := ['_', '_', 'r', 'e', 't', 'i', '_', '_']) (o := ['r', 'o', 't', 'a', 'r', 'e', 't', 'i', '_', 't', 'e', 's']) (by kernel_rfl) owner_si]
  kernel_rfl
abbrev siObj (f : Value) (i : Nat) (a : Addr) (n ep : Nat) : Obj := { cls := .type "set_iterator", dict := none, data := .fields #[f, .int i 0, .ref a, .int n 0, .int ep 0], slots := #[] }
section
variable {prog : Program} {w : World} {A : Around} {E : Value → Shared → Prop} {s : Shared} {I a tu : Addr} {f : Value} {i n ep : Nat} {o : Obj} {es : Array (Int × Value)} {t : SetTable}
theorem si_type (h : s.heap.get? I = some (siObj f i a n ep)) : s.TypeIs (.ref I) "set_iterator" := ⟨_, h, rfl⟩
theorem si_self {Q : Value → Shared → Prop} (h : s.heap.get? I = some (siObj f i a n ep)) (k : Q (.ref I) s) : wpAny (model prog w) A (pyIter (.ref I)) Q E s := by
  refine wpAny_pyIter_slot (si_type h) slot_si_iter (wpAny_call_entry slot_si_iter (si_type h) entry_si_iter ?_ (args_si_iter _))
  exact wpAny_pure ⟨_, rfl, "set_iterator", _, si_type h, slot_si_next.lookup, k⟩
theorem stop_here {α : Type} {Q : α → Shared → Prop} (calm : A.handled = none) (k : ∀ g x, (∀ b o, s.heap.get? b = some o → g.get? b = some o) → (∃ o, g.get? x = some o ∧ o.cls = .type "StopIteration") → E (.ref x) { s with heap := g }) :
    wpAny (model prog w) A (do raiseNew (← newExc (.type "StopIteration") [])) Q E s := by
  refine wpAny_bind ?_
  simp only [newExc, newTuple]
  refine wpAny_bind (wpAny_newObj_type (wpAny_bind (m := firstArgMember _ _) (wpAny_of_eq (a := Value.none) (by first | rfl | (simp only [firstArgMember]; rfl)) (wpAny_newObj_type ?_ (by size_fits)))) (by size_fits))
  simp only [raiseNew]
  refine wpAny_bind (wpAny_handled ?_)
  rw [calm]
  exact wpAny_bind (wpAny_pure (wpAny_throw (k _ _ (fun b o e => Heap.get?_push_of_some _ (Heap.get?_push_of_some _ e)) ⟨_, Heap.get?_push_size _ rfl, rfl⟩)))
/-- the next of a set's iterator, down to how the first field is read -/
theorem si_next {Q : Option Value → Shared → Prop} (hI : s.heap.get? I = some (siObj f i a es.size ep)) (ho : s.heap.get? a = some o) (hd : o.data = .set es ep t) (hf : t.fits es.size = true)
    (k : wpAny (model prog w) A.in1 (if let .int slot _ := f then do
        match ← setNext a slot.toNat i ep with
        | some (x, next) =>
          setField (.ref I) 0 (rawInt next)
          setField (.ref I) 1 (rawInt (i + 1))
          ret x
        | none => setField (.ref I) 2 .none; raiseNew (← newExc (.type "StopIteration") [])
      else do
        let some places ← seqItems? f | unsupported "internal:set_iterator"
        match places[i]? with
        | some (.int place _) =>
          let x ← setNextDrawn a place.toNat ep
          setField (.ref I) 1 (rawInt (i + 1))
          ret x
        | some _ => unsupported "internal:set_iterator"
        | none => setField (.ref I) 0 (rawInt 0); setField (.ref I) 2 .none; raiseNew (← newExc (.type "StopIteration") []))
      (fun fin s' => ∃ v, fin = .done (.ret v) ∧ Q (some v) s') (fun x s' => (∃ ob, (∃ b, x = .ref b ∧ s'.heap.get? b = some ob) ∧ ob.cls = .type "StopIteration") ∧ Q none s') s) :
    wpAny (model prog w) A (pyNext (.ref I)) Q E s := by
  unfold pyNext
  refine wpAny_bind (wpAny_attempt (wpAny_callSpecial?_slot (name := Str.ofString "__next__") (si_type hI) slot_si_next (wpAny_call_entry slot_si_next (si_type hI) entry_si_next ?_ (args_si_next _))))
  refine wpAny_bind (m := fieldsOf (.ref I)) (wpAny_fieldsOf hI rfl ?_)
  refine wpAny_bind (m := setEntries a) (wpAny_setEntries_of ho hd hf ?_)
  rw [if_neg (by simp)]
  refine wpAny_mono k (fun fin s' ⟨v, e, q⟩ => ⟨v, e, wpAny_pure q⟩) fun x s' ⟨⟨ob, ⟨b, e1, e2⟩, c⟩, q⟩ => ?_
  subst e1
  exact wpAny_bind (wpAny_isInstance (T := "StopIteration") (b := true) ⟨ob, e2, c⟩ isSubtype_stop (wpAny_pure q))
end
end FD
end
section
set_option Elab.async false
set_option linter.all false
set_option maxRecDepth 100000
set_option maxHeartbeats 4000000
namespace FD
open PySem PySem.Spec PyProof.Rows
section
variable {prog : Program} {w : World} {A : Around} {E : Value → Shared → Prop} {s : Shared} {I a tu : Addr} {f : Value} {i n ep : Nat} {o : Obj} {es : Array (Int × Value)} {t : SetTable}
theorem sd_item {ps : List Nat} {pl : Nat} {e : Int × Value} {Q : Option Value → Shared → Prop} (hI : s.heap.get? I = some (siObj (.ref tu) i a es.size ep)) (ho : s.heap.get? a = some o) (hd : o.data = .set es ep t) (hf : t.fits es.size = true) (ht : s.heap.IsTuple tu (ps.map fun j => rawInt (j : Nat)).toArray) (hp : ps[i]? = some pl) (he : es[pl]? = some e)
    (k : ∀ g, g.get? I = some (siObj (.ref tu) (i + 1) a es.size ep) → Heap.SameBut I s.heap g → Q (some e.2) { s with heap := g }) : wpAny (model prog w) A (pyNext (.ref I)) Q E s := by
  refine si_next hI ho hd hf ?_
  obtain ⟨ot, e1, -, nt, dt⟩ := ht
  refine wpAny_bind (m := seqItems? (.ref tu)) (wpAny_seqItems e1 dt ?_)
  have hq : ((ps.map fun j => rawInt (j : Nat)).toArray)[i]? = some (.int pl 0) := by simp [hp, rawInt]
  simp only [hq]
  refine wpAny_bind ?_
  unfold setNextDrawn
  refine wpAny_bind (wpAny_setState_of ho hd hf ?_)
  simp only [Int.toNat_natCast, bne_self_eq_false, Bool.false_eq_true, if_false, he]
  refine wpAny_pure (wpAny_bind (wpAny_setField_rec hI (by simp) fun g e2 sb => wpAny_pure ⟨_, rfl, k g ?_ sb⟩))
  have e3 : ((i : Int) + 1) = ((i + 1 : Nat) : Int) := by omega
  have e4 : rawInt ((i : Int) + 1) = .int ((i + 1 : Nat) : Int) 0 := by rw [← e3]; rfl
  rw [e4] at e2
  exact e2
theorem sd_end {ps : List Nat} {Q : Option Value → Shared → Prop} (calm : A.handled = none) (hI : s.heap.get? I = some (siObj (.ref tu) i a es.size ep)) (ho : s.heap.get? a = some o) (hd : o.data = .set es ep t) (hf : t.fits es.size = true) (ht : s.heap.IsTuple tu (ps.map fun j => rawInt (j : Nat)).toArray) (hp : ps[i]? = none)
    (k : ∀ g, (∀ b ob, b ≠ I → s.heap.get? b = some ob → g.get? b = some ob) → Q none { s with heap := g }) : wpAny (model prog w) A (pyNext (.ref I)) Q E s := by
  refine si_next hI ho hd hf ?_
  obtain ⟨ot, e1, -, nt, dt⟩ := ht
  refine wpAny_bind (m := seqItems? (.ref tu)) (wpAny_seqItems e1 dt ?_)
  have hq : ((ps.map fun j => rawInt (j : Nat)).toArray)[i]? = none := by simpa using hp
  simp only [hq]
  refine wpAny_bind (wpAny_setField_rec hI (by simp) fun g1 e2 b1 => wpAny_bind (wpAny_setField_rec e2 (by simp) fun g2 e3 b2 => ?_))
  exact stop_here (A := A.in1) (by simpa using calm) fun g x kp ⟨ob, ex, c⟩ => ⟨⟨ob, ⟨x, rfl, ex⟩, c⟩, k g fun b ob' nb e => kp b ob' (b2.extBut _ _ nb (b1.extBut _ _ nb e))⟩
theorem byT_is {Q : Bool → Shared → Prop} (k : Q (byT w) s) : wpAny (model prog w) A setsByText Q E s := wpAny_bind (wpAny_askSetting (wpAny_pure k))
/-- by the order of the text -/
theorem sb_next {Q : Option (Value × Nat) → Shared → Prop} (hb : byT w = true) (ho : s.heap.get? a = some o) (hd : o.data = .set es ep t) (hf : t.fits es.size = true) (slot i : Nat)
    (k : Q (((pickOrder (w.params.setOrder a ep) es)[i]?).map fun e => (e.2, slot)) s) : wpAny (model prog w) A (setNext a slot i ep) Q E s := by
  unfold setNext
  refine wpAny_bind (wpAny_setState_of ho hd hf (wpAny_bind (byT_is ?_)))
  rw [hb, if_pos rfl]
  simp only [bne_self_eq_false, Bool.false_eq_true, if_false]
  unfold setWalk
  refine wpAny_bind (wpAny_bind (wpAny_setState_of ho hd hf (wpAny_bind (byT_is ?_))))
  rw [hb, if_pos rfl]
  exact wpAny_bind (wpAny_askSetting (wpAny_pure (wpAny_pure k)))
def slotAt (t : SetTable) (i : Nat) : Nat := if i = 0 then 0 else t.place.getD 0 0 + 1
theorem below_zero {p : Array Nat} (h : p.size = 1) : SetTable.below p 0 = 0 := by
  unfold SetTable.below
  rw [h]
  simp [SetTable.below.go]
theorem below_one {p : Array Nat} (h : p.size = 1) : SetTable.below p (p.getD 0 0 + 1) = 1 := by
  unfold SetTable.below
  rw [h]
  have h0 : p[0]? = some (p[0]'(by omega)) := by simp
  simp [SetTable.below.go, h0]
/-- by the table, of one element at most -/
theorem ss_next {Q : Option (Value × Nat) → Shared → Prop} (hb : byT w = false) (h1 : es.size ≤ 1) (hl : t.led = true) (ho : s.heap.get? a = some o) (hd : o.data = .set es ep t) (hf : t.fits es.size = true) {i : Nat} (hi : i ≤ es.size)
    (k : Q ((es[i]?).map fun e => (e.2, slotAt t (i + 1))) s) : wpAny (model prog w) A (setNext a (slotAt t i) i ep) Q E s := by
  unfold setNext
  refine wpAny_bind (wpAny_setState_of ho hd hf (wpAny_bind (byT_is ?_)))
  rw [hb, if_neg (by simp)]
  split
  · rename_i h
    have h' : (!t.plain && decide (es.size > 1)) = true := h
    simp at h'; omega
  refine wpAny_bind ?_
  show wpAny _ _ (if (!t.led && !es.isEmpty) = true then unsupported "set:maker-not-led" else pure ()) _ _ _
  rw [hl, if_neg (by simp)]
  refine wpAny_pure (wpAny_pure ?_)
  have pz : t.place.size = es.size := by
    simp only [SetTable.fits, Bool.and_eq_true, beq_iff_eq] at hf
    exact hf.1
  rcases (by omega : es.size = 0 ∨ es.size = 1) with z | z
  · have e0 : ∀ j : Nat, es[j]? = none := fun j => by simp; omega
    simp only [e0] at k ⊢
    exact k
  · rcases (by omega : i = 0 ∨ i = 1) with rfl | rfl
    · have e1 : slotAt t 0 = 0 := rfl
      have p0 : t.place[0]? = some (t.place.getD 0 0) := by
        have : 0 < t.place.size := by omega
        simp [Array.getD, this]
      have s0 : ∃ e, es[0]? = some e := ⟨es[0], by simp⟩
      obtain ⟨e, s0⟩ := s0
      simp only [e1, below_zero (pz.trans z), p0, s0] at k ⊢
      exact k
    · have e1 : slotAt t 1 = t.place.getD 0 0 + 1 := rfl
      have s1 : es[1]? = none := by simp; omega
      simp only [e1, below_one (pz.trans z), s1] at k ⊢
      exact k
end
end FD
end
section
set_option Elab.async false
set_option linter.all false
set_option maxRecDepth 100000
set_option maxHeartbeats 4000000
namespace FD
open PySem PySem.Spec PyProof.Rows
theorem perm_at {α : Type} : ∀ (xs : List α) (i : Nat) (x : α), xs[i]? = some x → (x :: xs.eraseIdx i).Perm xs
  | [], i, x, h => by simp at h
  | y :: r, 0, x, h => by simp at h; subst h; simp
  | y :: r, i + 1, x, h => by
    simp only [List.getElem?_cons_succ] at h
    simp only [List.eraseIdx_cons_succ]
    exact (List.Perm.swap y x _).trans ((perm_at r i x h).cons y)
theorem pick_perm {α : Type} (next : Nat → Nat) : ∀ (n k : Nat) (xs : List α) (out : Array α), n = xs.length → (pickOrder.go next n k xs out).toList.Perm (out.toList ++ xs)
  | 0, k, xs, out, h => by
    have : xs = [] := List.eq_nil_of_length_eq_zero h.symm
    subst this
    simp [pickOrder.go]
  | n + 1, k, xs, out, h => by
    have hl : next k % xs.length < xs.length := Nat.mod_lt _ (by omega)
    have hx : xs[next k % xs.length]? = some (xs[next k % xs.length]'hl) := List.getElem?_eq_getElem hl
    simp only [pickOrder.go, hx]
    refine (pick_perm next n (k + 1) _ _ (by rw [List.length_eraseIdx, if_pos hl]; omega)).trans ?_
    rw [Array.toList_push, List.append_assoc, List.singleton_append]
    exact (perm_at xs _ _ hx).append_left _
section
variable {prog : Program} {w : World} {A : Around} {E : Value → Shared → Prop} {s : Shared}
theorem choose_any {src : Source} {n : Nat} {Q : Nat → Shared → Prop} (h : n ≠ 0) (k : ∀ i d', i < n → Q i { s with drawn := d' }) : wpAny (model prog w) A (choose src n) Q E s := fun Γ p hΓ => by
  unfold choose
  rw [Sem.wp_choose]
  exact ⟨h, wpAny_pure (M := model prog w) (A := A) (E := E) (k _ _ (Nat.mod_lt _ (Nat.pos_of_ne_zero h))) Γ p hΓ⟩
theorem draw_any {α : Type} : ∀ (n : Nat) (xs : List α) (s : Shared) {Q : List α → Shared → Prop}, n = xs.length → (∀ ys d', ys.Perm xs → Q ys { s with drawn := d' }) → wpAny (model prog w) A (drawOrder n xs) Q E s
  | 0, xs, s, Q, h, k => by
    have : xs = [] := List.eq_nil_of_length_eq_zero h.symm
    subst this
    unfold drawOrder
    exact wpAny_pure (k [] s.drawn (List.Perm.refl _))
  | n + 1, [], s, Q, h, k => by simp at h
  | n + 1, x :: r, s, Q, h, k => by
    unfold drawOrder
    refine wpAny_bind (choose_any (by simp) fun i d' hi => ?_)
    have hx : (x :: r)[i]? = some ((x :: r)[i]'hi) := List.getElem?_eq_getElem hi
    rw [hx]
    refine wpAny_bind (draw_any n _ _ (by rw [List.length_eraseIdx, if_pos hi]; omega) fun ys d2 hp => wpAny_pure (k _ d2 ?_))
    exact (hp.cons _).trans (perm_at _ _ _ hx)
/-- a set walked: its elements in some order -/
structure WalkT (prog : Program) (w : World) (A : Around) (I a n0 : Addr) (vs : List Value) (s : Shared) : Prop where
  ex : ∃ (n : Nat) (fp : List Addr) (P : Nat → Value → Prop) (St : Nat → Heap → Prop), n = vs.length ∧ Walks prog w A I fp [I] n P St ∧ St 0 s.heap ∧ (∀ b ∈ fp, b = a ∨ n0 ≤ b) ∧ (∀ i v, P i v → vs[i]? = some v)
theorem walk_drawn (calm : A.handled = none) {I a tu : Addr} {o : Obj} {es : Array (Int × Value)} {ep : Nat} {t : SetTable} {ps : List Nat} (hd : o.data = .set es ep t) (hf : t.fits es.size = true) (hp : ps.Perm (List.range es.size)) (n1 : a ≠ I) (n2 : tu ≠ I) :
    Walks prog w A I [I, a, tu] [I] es.size (fun i v => (ps.map fun j => (es.getD j (0, .none)).2)[i]? = some v) (fun i h => h.get? I = some (siObj (.ref tu) i a es.size ep) ∧ h.get? a = some o ∧ h.IsTuple tu (ps.map fun j => rawInt (j : Nat)).toArray) where
  sub := fun b hb => by simp at hb; simp [hb]
  frame := fun i h h' st k => ⟨k I (by simp) _ st.1, k a (by simp) _ st.2.1, st.2.2.at fun ob e => k tu (by simp) ob e⟩
  item := fun i s Q E hi st k => by
    have hl : ps.length = es.size := by rw [hp.length_eq, List.length_range]
    have h1 : ps[i]? = some (ps[i]'(by omega)) := List.getElem?_eq_getElem (by omega)
    have h2 : ps[i]'(by omega) < es.size := List.mem_range.mp (hp.mem_iff.mp (List.getElem_mem _))
    have h3 : es[ps[i]'(by omega)]? = some (es[ps[i]'(by omega)]'h2) := by simp [h2]
    refine sd_item st.1 st.2.1 hd hf st.2.2 h1 h3 fun g e sb => k _ g s.toks ?_ ⟨e, sb.extBut _ _ n1 st.2.1, st.2.2.extBut sb.extBut n2⟩ fun b ob hb e' => sb.extBut b ob (fun z => hb (by simp [z])) e'
    simp [h1, Array.getD, h2]
  done := fun s Q E st k => by
    have hl : ps.length = es.size := by rw [hp.length_eq, List.length_range]
    exact sd_end calm st.1 st.2.1 hd hf st.2.2 (by simp; omega) fun g kp => k g s.toks fun b ob hb e => kp b ob (fun z => hb (by simp [z])) e
  self := fun i s Q E st k => si_self st.1 k
theorem walk_field (calm : A.handled = none) {I a : Addr} {o : Obj} {es : Array (Int × Value)} {ep : Nat} {t : SetTable} {order : List Value} {sl : Nat → Nat} (hd : o.data = .set es ep t) (hf : t.fits es.size = true) (hl : order.length = es.size) (n1 : a ≠ I)
    (nx : ∀ (B : Around) (F : Value → Shared → Prop) (s : Shared) (i : Nat) (Q : Option (Value × Nat) → Shared → Prop), i ≤ es.size → s.heap.get? a = some o → Q ((order[i]?).map fun v => (v, sl (i + 1))) s → wpAny (model prog w) B (setNext a (sl i) i ep) Q F s) :
    Walks prog w A I [I, a] [I] es.size (fun i v => order[i]? = some v) (fun i h => h.get? I = some (siObj (.int (sl i) 0) i a es.size ep) ∧ h.get? a = some o) where
  sub := fun b hb => by simp at hb; simp [hb]
  frame := fun i h h' st k => ⟨k I (by simp) _ st.1, k a (by simp) _ st.2⟩
  item := fun i s Q E hi st k => by
    refine si_next st.1 st.2 hd hf ?_
    have h1 : order[i]? = some (order[i]'(by omega)) := List.getElem?_eq_getElem (by omega)
    refine wpAny_bind (nx _ _ _ _ _ (by omega) st.2 ?_)
    rw [h1]
    refine wpAny_bind (wpAny_setField_rec st.1 (by simp) fun g1 e1 b1 => wpAny_bind (wpAny_setField_rec e1 (by simp) fun g2 e2 b2 => wpAny_pure ⟨_, rfl, k _ g2 s.toks h1 ⟨?_, b2.extBut _ _ n1 (b1.extBut _ _ n1 st.2)⟩ fun b ob hb e => ?_⟩))
    · have e3 : ((i : Int) + 1) = ((i + 1 : Nat) : Int) := by omega
      have e4 : rawInt ((i : Int) + 1) = .int ((i + 1 : Nat) : Int) 0 := by rw [← e3]; rfl
      rw [e4] at e2
      exact e2
    · have nb : b ≠ I := fun z => hb (by simp [z])
      exact b2.extBut _ _ nb (b1.extBut _ _ nb e)
  done := fun s Q E st k => by
    refine si_next st.1 st.2 hd hf ?_
    have h1 : order[es.size]? = none := by simp; omega
    refine wpAny_bind (nx _ _ _ _ _ (Nat.le_refl _) st.2 ?_)
    rw [h1]
    refine wpAny_bind (wpAny_setField_rec st.1 (by simp) fun g1 e1 b1 => ?_)
    exact stop_here (A := A.in1) (by simpa using calm) fun g x kp ⟨ob, ex, c⟩ => ⟨⟨ob, ⟨x, rfl, ex⟩, c⟩, k g s.toks fun b ob' hb e => kp b ob' (b1.extBut _ _ (fun z => hb (by simp [z])) e)⟩
  self := fun i s Q E st k => si_self st.1 k
/-- iter(a set of texts) -/
theorem set_iter {a : Addr} {ss : List Str} {Q : Value → Shared → Prop} (calm : A.handled = none) (S : SetT prog w ss a s.heap) (hl : ss.length < 1000)
    (k : ∀ (I : Addr) (vs : List Value) (h' : Heap) d', s.heap.objs.size ≤ I → WalkT prog w A I a s.heap.objs.size vs { s with heap := h', drawn := d' } → (vs.map txt).Perm ss → (∀ v ∈ vs, ∃ x t, v = Value.str x t) → vs.length = ss.length → (∀ b o, s.heap.get? b = some o → h'.get? b = some o) → s.heap.objs.size ≤ h'.objs.size → Q (.ref I) { s with heap := h', drawn := d' }) :
    wpAny (model prog w) A (pyIter (.ref a)) Q E s := by
  obtain ⟨o, es, ep, t, ho, hex, hd, T⟩ := S
  have sz := T.size
  have lt := Heap.lt_size ho
  have hT : s.TypeIs (.ref a) "set" := ⟨o, ho, hex.1⟩
  have isT : ∀ v ∈ es.toList.map (·.2), ∃ x t, v = Value.str x t := fun v hv => by
    obtain ⟨e, he, rfl⟩ := List.mem_map.mp hv
    obtain ⟨⟨x, hx, _⟩, _⟩ := T.el e he
    obtain ⟨tk, h⟩ := Value.isStrOf_shape hx
    exact ⟨x, tk, h⟩
  have fin : ∀ (vs : List Value), vs.Perm (es.toList.map (·.2)) → (vs.map txt).Perm ss ∧ (∀ v ∈ vs, ∃ x t, v = Value.str x t) ∧ vs.length = ss.length := fun vs hp => by
    refine ⟨(hp.map txt).trans ?_, fun v hv => isT v (hp.mem_iff.mp hv), ?_⟩
    · rw [List.map_map]; exact T.pm
    · rw [hp.length_eq]; simp [sz]
  refine wpAny_pyIter_slot hT F.slot_set_iter (wpAny_call_entry F.slot_set_iter hT entry_set_it ?_ (F.args_set_iter_1 _))
  refine wpAny_bind (m := setEntries a >>= fun es => pure es.size) (wpAny_bind (wpAny_setEntries_of ho hd T.ft (wpAny_pure ?_)))
  refine wpAny_bind (m := setDrawn a) ?_
  unfold setDrawn
  refine wpAny_bind (wpAny_setState_of ho hd T.ft (wpAny_bind (byT_is (wpAny_pure ?_))))
  show wpAny _ _ (if (!byT w && (!t.plain && decide (es.size > 1))) = true then _ else _) _ _ _
  cases hc : (!byT w && (!t.plain && decide (es.size > 1))) with
  | true =>
    rw [if_pos rfl]
    refine wpAny_bind (draw_any es.size (List.range es.size) s (by simp) fun ps d' hp => wpAny_bind (wpAny_newTuple ?_ (by simp [hp.length_eq]; exact fits_of_scanBound (by rw [sz]; exact Nat.lt_trans hl (by decide)))))
    have g1 : (s.heap.push { cls := .type "tuple", data := .seq (ps.map fun j => rawInt (j : Nat)).toArray }).get? a = some o := Heap.get?_push_of_some _ ho
    refine wpAny_bind (wpAny_setEpoch_of g1 hd T.ft ?_)
    refine wpAny_bind (m := newFields "set_iterator" _) (wpAny_newObj_type (wpAny_pure ?_))
    have e1 : (s.heap.push { cls := .type "tuple", data := .seq (ps.map fun j => rawInt (j : Nat)).toArray }).objs.size = s.heap.objs.size + 1 := Heap.size_push ..
    have pm : (ps.map fun j => (es.getD j (0, .none)).2).Perm (es.toList.map (·.2)) := by
      refine (hp.map _).trans ?_
      have : (List.range es.size).map (fun j => (es.getD j (0, .none)).2) = es.toList.map (·.2) := by
        apply List.ext_getElem
        · simp
        · intro i h1 h2
          simp at h1
          simp [Array.getD, h1]
      rw [this]
    obtain ⟨f1, f2, f3⟩ := fin _ pm
    have n1 : a ≠ (s.heap.push { cls := .type "tuple", data := .seq (ps.map fun j => rawInt (j : Nat)).toArray }).objs.size := by rw [e1]; exact Nat.ne_of_lt (Nat.lt_succ_of_lt lt)
    have n2 : s.heap.objs.size ≠ (s.heap.push { cls := .type "tuple", data := .seq (ps.map fun j => rawInt (j : Nat)).toArray }).objs.size := by rw [e1]; exact Nat.ne_of_lt (Nat.lt_succ_self _)
    have W := walk_drawn (prog := prog) (w := w) (A := A) (o := o) calm hd T.ft hp n1 n2
    refine ⟨_, rfl, "set_iterator", _, ⟨_, Heap.get?_push_size _ rfl, rfl⟩, slot_si_next.lookup, k _ (ps.map fun j => (es.getD j (0, .none)).2) _ d' (by rw [e1]; exact Nat.le_succ _) ⟨_, _, _, _, sz.trans f3.symm, W, ⟨Heap.get?_push_size _ rfl, Heap.get?_push_of_some _ g1, ?_⟩, ?_, fun i v h => h⟩ f1 f2 f3 (fun b ob e => Heap.get?_push_of_some _ (Heap.get?_push_of_some _ e)) ?_⟩
    · exact ⟨_, Heap.get?_push_of_some _ (Heap.get?_push_size _ rfl), rfl, _, rfl⟩
    · intro b hb
      simp only [List.mem_cons, List.not_mem_nil, or_false] at hb
      rcases hb with rfl | rfl | rfl
      · rw [e1]; exact .inr (Nat.le_succ _)
      · exact .inl rfl
      · exact .inr (Nat.le_refl _)
    · rw [Heap.size_push, e1]; exact Nat.le_succ_of_le (Nat.le_succ _)
  | false =>
    rw [if_neg (by simp)]
    refine wpAny_bind (wpAny_pure (wpAny_bind (wpAny_setEpoch_of ho hd T.ft (wpAny_bind (m := newFields "set_iterator" _) (wpAny_newObj_type (wpAny_pure ?_))))))
    have n1 : a ≠ s.heap.objs.size := Nat.ne_of_lt lt
    have last : ∀ (order : List Value) (sl : Nat → Nat), sl 0 = 0 → order.Perm (es.toList.map (·.2)) →
        (∀ (B : Around) (F : Value → Shared → Prop) (s : Shared) (i : Nat) (Q : Option (Value × Nat) → Shared → Prop), i ≤ es.size → s.heap.get? a = some o → Q ((order[i]?).map fun v => (v, sl (i + 1))) s → wpAny (model prog w) B (setNext a (sl i) i ep) Q F s) →
        Q (.ref s.heap.objs.size) { s with heap := s.heap.push (siObj (.int 0 0) 0 a es.size ep) } := fun order sl s0 pm nx => by
      obtain ⟨f1, f2, f3⟩ := fin _ pm
      have W := walk_field (A := A) (o := o) (sl := sl) calm hd T.ft (f3.trans sz.symm) n1 nx
      refine k _ order _ s.drawn (Nat.le_refl _) ⟨_, _, _, _, sz.trans f3.symm, W, ⟨?_, Heap.get?_push_of_some _ ho⟩, ?_, fun i v h => h⟩ f1 f2 f3 (fun b ob e => Heap.get?_push_of_some _ e) (by rw [Heap.size_push]; exact Nat.le_succ _)
      · rw [s0]; exact Heap.get?_push_size _ rfl
      · intro b hb
        simp only [List.mem_cons, List.not_mem_nil, or_false] at hb
        rcases hb with rfl | rfl
        · exact .inr (Nat.le_refl _)
        · exact .inl rfl
    refine ⟨_, rfl, "set_iterator", _, ⟨_, Heap.get?_push_size _ rfl, rfl⟩, slot_si_next.lookup, ?_⟩
    cases hb : byT w with
    | true =>
      have pm : ((pickOrder (w.params.setOrder a ep) es).toList.map (·.2)).Perm (es.toList.map (·.2)) := by
        refine (pick_perm _ es.size 0 es.toList #[] (by simp)).map _ |>.trans ?_
        simp
      refine last _ (fun _ => 0) rfl pm fun B F z i Q' _ hz q => sb_next hb hz hd T.ft 0 i ?_
      have e9 : ((pickOrder (w.params.setOrder a ep) es).toList.map (·.2))[i]? = ((pickOrder (w.params.setOrder a ep) es)[i]?).map (·.2) := by simp
      rw [e9, Option.map_map] at q
      exact q
    | false =>
      have hled : t.led = true := T.ld.resolve_left (by rw [hb]; simp)
      have h1 : es.size ≤ 1 := by
        rw [hb] at hc
        rcases T.pl with z | z
        · omega
        · rw [z] at hc; simp at hc; exact hc
      refine last _ (slotAt t) rfl (List.Perm.refl _) fun B F z i Q' hi hz q => ss_next hb h1 hled hz hd T.ft hi ?_
      have e9 : (es.toList.map (·.2))[i]? = (es[i]?).map (·.2) := by simp
      rw [e9, Option.map_map] at q
      exact q
end
end FD
end
section
set_option Elab.async false
set_option linter.all false
set_option maxRecDepth 100000
set_option maxHeartbeats 4000000
namespace FD
open PySem PySem.Spec PyProof.Rows
theorem len_set : typeLookup (.type "set") "__len__" = pure (some (.builtin "set.__len__")) := by rw [typeLookup_type, builtinLookup_eq_fast]; kernel_rfl
section
variable {prog : Program} {w : World} {A : Around} {E : Value → Shared → Prop} {s : Shared}
theorem items_eq {P : Nat → Value → Prop} {acc : Array Value} {vs : List Value} (h : ItemsOf P acc vs.length) (hP : ∀ i v, P i v → vs[i]? = some v) : acc.toList = vs := by
  apply List.ext_getElem?
  intro i
  rw [Array.getElem?_toList]
  cases hx : acc[i]? with
  | some v => exact (hP i v (h.2 i v hx)).symm
  | none =>
    have : vs.length ≤ i := by rw [← h.1]; simpa using hx
    exact (List.getElem?_eq_none this).symm
theorem touch_at {S : Addr} {acc : Array Value} {c : Nat} {Q : Unit → Shared → Prop} (e : s.heap.get? S = some { cls := .type "list", dict := none, data := .seq acc c, slots := #[] }) (hz : acc.size ≤ 1000)
    (k : ∀ g c', g.get? S = some { cls := .type "list", dict := none, data := .seq acc c', slots := #[] } → Heap.SameBut S s.heap g → Q () { s with heap := g }) : wpAny (model prog w) A (Builtin.List.listTouch (.ref S)) Q E s := by
  have z : acc.size ≤ sizeLine := Nat.le_trans hz (by rw [sizeLine_eq]; decide)
  unfold Builtin.List.listTouch
  have e1 : (s.heap.update S (Obj.mapSeq (·.push .none))).get? S = some { cls := .type "list", dict := none, data := .seq (acc.push .none) (c + 1), slots := #[] } := by
    have := Heap.get?_update_self (Obj.mapSeq (·.push .none)) e (by rfl)
    simpa [Obj.mapSeq] using this
  have z1 : (acc.push Value.none).size ≤ sizeLine := by rw [Array.size_push, sizeLine_eq]; exact Nat.le_trans (Nat.succ_le_succ hz) (by decide)
  refine wpAny_bind (listUpdate_at e rfl (listUpdate_at e1 rfl (k _ (c + 2) ?_ ((Heap.SameBut.update ..).trans (Heap.SameBut.update ..))) z1 ?_) z ?_)
  · have := Heap.get?_update_self (Obj.mapSeq (·.pop)) e1 rfl
    simpa [Obj.mapSeq] using this
  · simp only [Array.size_pop, Array.size_push]; exact Nat.le_trans z (Nat.le_succ _)
  · exact Nat.le_trans z1 (Nat.le_succ _)
/-- all of a set, as a list of its own -/
theorem collect_set {a : Addr} {ss : List Str} {Q : List Value → Shared → Prop} (calm : A.handled = none) (S : SetT prog w ss a s.heap) (hl : ss.length < 1000)
    (k : ∀ (vs : List Value) (h' : Heap) d' tk, (vs.map txt).Perm ss → (∀ v ∈ vs, ∃ x t, v = Value.str x t) → vs.length = ss.length → (∀ b o, s.heap.get? b = some o → h'.get? b = some o) → s.heap.objs.size < h'.objs.size → Q vs { s with heap := h', drawn := d', toks := tk }) :
    wpAny (model prog w) A (collect (.ref a)) Q E s := by
  obtain ⟨o, es, ep, t, ho, hex, hd, T⟩ := id S
  have lt := Heap.lt_size ho
  have ne : s.heap.objs.size ≠ a := Nat.ne_of_gt lt
  unfold collect
  refine wpAny_bind (wpAny_runValue (codeAny_builtin F.entry_proto_collect ?_))
  rw [Around.under_plainId F.plain_proto_collect _]
  refine wpAny_bind (m := newList []) (wpAny_newList (wpAny_pure ⟨plainId_quiet F.plain_list_iadd _, codeAny_builtin F.entry_list_iadd ?_⟩))
  rw [Around.under_plainId F.plain_list_iadd _]
  show wpAny _ A.in1 (Builtin.List.listExtendWith (.ref s.heap.objs.size) (.ref a) (.ref s.heap.objs.size)) _ _ _
  unfold Builtin.List.listExtendWith
  have S1 : SetT prog w ss a (s.heap.push { cls := .type "list", data := .seq ([] : List Value).toArray }) := S.keep fun ob e => Heap.get?_push_of_some _ e
  have ty : ∀ {h' : Heap} {d' : Drawn}, (∀ b ob, (s.heap.push { cls := .type "list", data := .seq ([] : List Value).toArray }).get? b = some ob → h'.get? b = some ob) → Shared.TypeIs { s with heap := h', drawn := d' } (.ref a) "set" := fun kp => ⟨o, kp _ _ (Heap.get?_push_of_some _ ho), hex.1⟩
  have nf : Builtin.List.listSameRef (.ref s.heap.objs.size) (.ref a) = false := by simp [Builtin.List.listSameRef, ne]
  refine wpAny_bind (wpAny_typeOf (ty (d' := s.drawn) fun b ob e => e) ?_)
  rw [if_neg (by rw [nf]; decide)]
  refine wpAny_bind (set_iter (A := A.in1) (by simpa using calm) S1 hl fun I vs h' d' hI W p1 p2 p3 kp sz => ?_)
  have hT := ty (d' := d') kp
  refine wpAny_bind (wpAny_holding ?_)
  unfold Builtin.List.listLengthHint
  refine wpAny_bind (wpAny_specialOf hT len_set ?_)
  generalize hid : ("set.__len__" : String) = id0
  wp_delta
  rw [show splitId id0 = some ("set", "__len__") from by subst hid; decide +kernel]
  subst hid
  refine wpAny_bind (wpAny_isInstance (b := true) hT (by rw [isSubtype_type]; kernel_rfl) ?_)
  rw [if_neg (by simp)]
  split
  · refine wpAny_bind (wpAny_typeOf hT (wpAny_pure ?_))
    split
    · refine wpAny_bind (wpAny_rule ?_)
      have e0 : h'.get? s.heap.objs.size = some { cls := .type "list", dict := none, data := .seq #[] 0, slots := #[] } := kp _ _ (Heap.get?_push_size _ rfl)
      refine wpAny_bind (touch_at e0 (by simp) fun g c' e1 sb => ?_)
      obtain ⟨n, fp, P, St, hn, W, st, hfp, hP⟩ := W.ex
      have sf : s.heap.objs.size ∉ fp := fun z => by
        rcases hfp _ z with h | h
        · exact ne h
        · rw [Heap.size_push] at h
          exact Nat.lt_irrefl _ h
      have st' : St 0 g := W.frame 0 h' g st fun b hb ob e => sb.extBut b ob (fun z => sf (by rw [← z]; exact hb)) e
      have wI : I ≠ s.heap.objs.size := fun z => sf (by rw [← z]; exact W.sub I (by simp))
      refine wpAny_pure ⟨plainId_quiet F.plain_extend_loop _, codeAny_extend_loopS W.toS (by rw [hn, p3]; exact fits_of_scanBound (Nat.lt_trans hl (by decide))) _ sf _ n 0 _ _ _ rfl (Nat.zero_le _) st' e1 (ItemsOf.nil P) fun s' acc' c2 m e2 hacc => ?_⟩
      refine wpAny_bind (m := load s.heap.objs.size) (wpAny_load e2 (wpAny_pure ?_))
      rw [hn] at hacc
      rw [items_eq hacc hP]
      obtain ⟨h2, g2, d2, tk2, os2⟩ := s'
      obtain rfl : g2 = s.gens := m.gens
      obtain rfl : d2 = d' := m.drawn
      obtain rfl : os2 = s.os := m.os
      refine k vs h2 _ tk2 p1 p2 p3 (fun b ob e => ?_) (Heap.lt_size e2)
      have b1 : b ≠ s.heap.objs.size := Nat.ne_of_lt (Heap.lt_size e)
      by_cases b2 : b = I
      · rw [Heap.size_push] at hI
        exact absurd (Heap.lt_size e) (by rw [b2]; exact Nat.not_lt.mpr (Nat.le_of_succ_le hI))
      · refine m.heap b ob (by simp [b1, b2]) (sb.extBut b ob b1 (kp b ob (Heap.get?_push_of_some _ e)))
    · rename_i h
      exact (h (by decide +kernel)).elim
  · rename_i h
    exact (h (by decide +kernel)).elim
end
end FD
end
section
set_option Elab.async false
set_option linter.all false
set_option maxRecDepth 100000
set_option maxHeartbeats 4000000
namespace FD
open PySem PySem.Spec PyProof.Rows
theorem strsAre_txt : ∀ (vs : List Value), (∀ v ∈ vs, ∃ x t, v = Value.str x t) → StrsAre vs (vs.map txt)
  | [], _ => .nil
  | v :: r, h => by
    obtain ⟨x, t, rfl⟩ := h v (by simp)
    exact .cons x t (strsAre_txt r fun u hu => h u (by simp [hu]))
section
variable {prog : Program} {w : World} {A : Around} {E : Value → Shared → Prop} {s : Shared}
/-- sorted(a set of texts) -/
theorem sorted_set {a : Addr} {ss : List Str} {Q : Value → Shared → Prop} (calm : A.handled = none) (S : SetT prog w ss a s.heap) (hl : ss.length < 64)
    (k : ∀ (p : Addr) (out : Array Value) (ss' : List Str) (h' : Heap) d' tk e, StrsAre out.toList ss' → ss'.Perm ss → sortedS ss' = true → s.heap.objs.size ≤ p → h'.get? p = some (seqObj "list" out e) → (∀ b o, s.heap.get? b = some o → h'.get? b = some o) → Q (.ref p) { s with heap := h', drawn := d', toks := tk }) :
    wpAny (model prog w) A (call (.builtin "sorted") [.ref a]) Q E s := by
  refine Calls.call_function_entry kind_sorted plain_sorted entry_sorted (args_sorted1 _) ?_
  unfold Builtin.«sorted»
  refine wpAny_bind (m := checkCount "sorted" 1 1 _) (wpAny_pure (wpAny_bind (collect_set (A := A.in1) (by simpa using calm) S (by omega) fun vs h' d' tk p1 p2 p3 kp sz => ?_)))
  have SA := strsAre_txt vs p2
  have hv : vs.length < 64 := by omega
  refine wpAny_bind (wpAny_newList ?_ (by rw [sizeLine_eq]; omega))
  have oL : (h'.push (seqObj "list" vs.toArray 0)).get? h'.objs.size = some (seqObj "list" vs.toArray 0) := Heap.get?_push_size _ rfl
  refine wpAny_bind (wpAny_holding (wpAny_call_entry slot_list_sort ⟨_, oL, rfl⟩ entry_list_sort (list_sort_treeK strKind_oneLt (s := { s with heap := h'.push (seqObj "list" vs.toArray 0), drawn := d', toks := tk }) oL SA.keysOf (fun v₁ v₂ rest e => keyKind_strs (by rw [← e]; exact SA)) hv fun st' a1 a2 => ⟨_, rfl, ?_⟩) (args_list_sort _)))
  obtain ⟨ss', b1, b2, b3⟩ := sorted_out_str SA a1 a2
  obtain ⟨e, he⟩ := sortedHeap_at (out := (arrOf st').map (·.2)) oL
  refine wpAny_pure ⟨_, rfl, k _ _ ss' _ d' tk e b1 (b2.trans p1) b3 (Nat.le_of_lt sz) he fun b ob eb => ?_⟩
  have lb := Heap.lt_size (kp b ob eb)
  rw [sortedHeap_old (Nat.ne_of_lt lb) (by rw [Heap.size_push]; exact Nat.lt_succ_of_lt lb)]
  exact Heap.get?_push_of_some _ (kp b ob eb)
end
end FD
end
section
set_option Elab.async false
set_option linter.all false
set_option maxRecDepth 100000
set_option maxHeartbeats 4000000
namespace FD
open PySem PySem.Spec PyProof.Rows L2
def sortedSetD : D → Option D
  | .tuple xs => (strsD xs).bind fun ss => if ss.Nodup ∧ ss.length < 64 then some (.list ((sortS ss).map .str)) else none
  | _ => none
theorem strs_at : ∀ {vs : List Value} {ss : List Str}, StrsAre vs ss → ∀ (i : Nat) (v : Value), vs[i]? = some v → ∃ x t, ss[i]? = some x ∧ v = Value.str x t
  | _, _, .nil, i, v, h => by simp at h
  | _, _, .cons x t r, 0, v, h => by simp at h; exact ⟨x, t, rfl, h.symm⟩
  | _, _, .cons x t r, i + 1, v, h => by
    simp only [List.getElem?_cons_succ] at h ⊢
    exact strs_at r i v h
section
variable {X : Cx} {pos : Pos}
theorem inv_redrawn {pins : List (Addr × Obj)} {σ : St} {H : Hp} {s : Shared} (I : Inv X pins σ H s) (d' : Drawn) : Inv X pins σ H { s with drawn := d' } := ⟨I.ok, I.os, I.bare, I.base, I.loc, I.cell, I.free, I.freeC, I.pin, I.hok, I.len⟩
theorem call_setT (calm : X.calm = true) : CallR X (.type "set") (fun xs H Q => ∃ p ss, xs = [.ref p] ∧ SqT X.K H p (ss.map V.str) ∧ ss.Nodup ∧ ss.length < 64 ∧ ∀ l, H l = none → Q (.ref l) (upd H l (.ext (SetT X.prog X.w ss l)))) := by
  intro pins s σ H xs us Q I r h
  obtain ⟨p, ss, rfl, hq, nd, hl, q⟩ := h
  obtain ⟨u, rfl, rx⟩ := vals1 r
  cases rx
  obtain ⟨its, rv, T, hz⟩ := I.tuple hq
  have hlen := rv.length
  rw [List.length_map] at hlen
  have SA := strsAre_of rv
  refine set_of_tuple (I.ok.hd calm) (show s.heap.IsTuple p its.toArray from T) (by simp; omega) nd (by omega) (fun i v hv => strs_at SA i v (by simpa using hv)) fun h' tk S kp => ?_
  refine ⟨.ref s.heap.objs.size, _, I.laid (t' := tk) (fun b o e => kp b o (Heap.lt_size e) e) (Nat.le_refl _) (show ObjOk X.prog X.w _ h' _ (.ext (SetT X.prog X.w ss s.heap.objs.size)) from ⟨S, ?_, fun h1 h2 S1 e => S1.keep e⟩), rfl, q _ (I.hok.fresh (Nat.le_refl _))⟩
  obtain ⟨o, _, _, _, e, _⟩ := S
  exact ⟨o, e⟩
theorem call_sortedT (calm : X.calm = true) : CallR X (.builtin "sorted") (fun xs H Q => ∃ p ss, xs = [.ref p] ∧ H p = some (.ext (SetT X.prog X.w ss p)) ∧ ss.length < 64 ∧ ∀ l, H l = none → Q (.ref l) (upd H l (.lst ((sortS ss).map V.str)))) := by
  intro pins s σ H xs us Q I r h
  obtain ⟨p, ss, rfl, hp, hl, q⟩ := h
  obtain ⟨u, rfl, rx⟩ := vals1 r
  cases rx
  have S : SetT X.prog X.w ss p s.heap := (I.hok p _ hp).1
  refine sorted_set (I.ok.hd calm) S hl fun l out ss' h' d' tk e a1 a2 a3 sz he kp => ?_
  have e' := sortS_unique a2 a3
  subst e'
  refine ⟨.ref l, _, inv_redrawn (I.laid (t' := tk) kp sz (show ObjOk X.prog X.w _ h' l (.lst ((sortS ss).map V.str)) from ⟨?_, out.toList, e, vals_of_strs a1, ?_⟩)) d', rfl, q l (I.hok.fresh sz)⟩
  · rw [List.length_map, a2.length_eq]; exact le_line (by omega)
  · simpa [seqObj] using he
theorem bt_set : bootBuiltins "set" = some (.type "set") := by decide +kernel
theorem fe_sortedSet {e : Expr} {f : FE} {p p1 p3 : Pos} (hg : Gl X "sorted") (hm : X.mg "sorted" = none) (hg' : Gl X "set") (hm' : X.mg "set" = none) (he : FEx X e f) (calm : X.calm = true := by rfl) (hns : nostar e = true := by rfl) :
    FEx X (.Call (.Name "sorted" p) [.Call (.Name "set" p1) [e] [] p3] [] pos) (eUn sortedSetD f) := by
  refine FEx.of (pe_callB (call_sortedT calm) hg hm bt_sorted (pa_cons (pe_callTy (call_setT calm) hg' hm' bt_set (FAx.pa (fa_cons he fa_nil hns)) (by decide) (by decide) (star_no hns) rfl) pa_nil (star_no rfl)) (by decide) (by decide) (star_no rfl) rfl) fun σ H ρ d r e => ?_
  simp only [eUn] at e
  obtain ⟨dx, ed, e⟩ := Option.bind_eq_some_iff.mp e
  cases dx <;> simp only [sortedSetD] at e <;> first | contradiction | skip
  rename_i xs
  obtain ⟨ss, es, e⟩ := Option.bind_eq_some_iff.mp e
  split at e
  · rename_i hz
    cases e
    refine ⟨ρ, [.tuple xs], r, by simp [ed], fun vs H1 m1 p1 => ?_⟩
    cases p1 with
    | cons p1 p2 =>
      cases p2
      cases p1
      rename_i a ws h q
      have hv := reps_strs q es
      subst hv
      refine ⟨a, ss, rfl, h, hz.1, hz.2, fun l hl => ?_⟩
      refine ⟨l, ss, rfl, upd_same, hz.2, fun l2 hl2 => ?_⟩
      have m2 := same_new hl (.ext (SetT X.prog X.w ss l))
      exact ⟨m1.trans (m2.trans (same_new hl2 _)), rep_new_lst hl2 (reps_of_strs _)⟩
  · exact nomatch e
end
end FD
end
section
set_option Elab.async false
set_option linter.all false
set_option maxHeartbeats 1000000
namespace FD
open PySem
theorem canLay0_str (s : Str) : (PyData.str s).canLay0 = PyData.strOk s := by simp [PyData.canLay0]
theorem okEq_str {x : D} {s : Str} (hx : x.canLay0 = true) (hs : PyData.strOk s = true) : okEq x (.str s) = true := by
  simp [okEq, hx, canLay0_str, hs, PyData.depth]
theorem eqD_str {x : D} {s : Str} (hx : x.canLay0 = true) (hs : PyData.strOk s = true) : eqD x (.str s) = some (.bool (x.eqv (.str s))) := by
  simp [eqD, okEq_str hx hs]
theorem neD_str {x : D} {s : Str} (hx : x.canLay0 = true) (hs : PyData.strOk s = true) : neD x (.str s) = some (.bool (!x.eqv (.str s))) := by
  simp [neD, okEq_str hx hs]
@[simp] theorem eqD_int (i j : Int) : eqD (.int i) (.int j) = some (.bool (i == j)) := by simp [eqD, okEq, PyData.canLay0, PyData.eqv, PyData.depth]
@[simp] theorem neD_int (i j : Int) : neD (.int i) (.int j) = some (.bool (!(i == j))) := by simp [neD, okEq, PyData.canLay0, PyData.eqv, PyData.depth]
theorem ok_number : PyData.strOk "number" = true := by decide +kernel
@[simp] theorem at_0 {α : Type} (x : α) (xs : List α) : at? (x :: xs) 0 = some x := rfl
@[simp] theorem at_1 {α : Type} (x y : α) (xs : List α) : at? (x :: y :: xs) 1 = some y := rfl
@[simp] theorem at_2 {α : Type} (x y z : α) (xs : List α) : at? (x :: y :: z :: xs) 2 = some z := rfl
inductive Kd where | plus | less | times
def Kd.str : Kd → Str
  | .plus => "plus" | .less => "less" | .times => "times"
inductive Tr where
  | num (n : Int)
  | node (k : Kd) (l r : Tr)
def Tr.toD : Tr → D
  | .num n => .tuple [.str "number", .int n]
  | .node k l r => .tuple [.str k.str, l.toD, r.toD]
def Tr.leaves : Tr → Nat
  | .num _ => 1
  | .node _ l r => l.leaves + r.leaves
def Tr.dep : Tr → Nat
  | .num _ => 0
  | .node _ l r => max l.dep r.dep + 1
/-- all numbers lie within -1000 .. 1000 -/
def Tr.ok : Tr → Prop
  | .num n => -1000 ≤ n ∧ n ≤ 1000
  | .node _ l r => l.ok ∧ r.ok
theorem kd_ok (k : Kd) : PyData.strOk k.str = true := by cases k <;> decide +kernel
theorem kd_ne (k : Kd) : (k.str == ("number" : Str)) = false := by cases k <;> decide +kernel
theorem Tr.leaves_pos : ∀ t : Tr, 1 ≤ t.leaves
  | .num _ => Nat.le_refl _
  | .node _ l r => by have := l.leaves_pos; simp only [Tr.leaves]; omega
theorem Tr.dep_lt : ∀ t : Tr, t.dep < t.leaves
  | .num _ => Nat.lt_succ_self _
  | .node _ l r => by
    have := l.dep_lt; have := r.dep_lt; have := l.leaves_pos; have := r.leaves_pos
    simp only [Tr.leaves, Tr.dep]; omega
mutual
theorem eqv_refl : ∀ d : D, d.canLay0 = true → d.eqv d = true
  | .none, _ => by simp [PyData.eqv]
  | .bool _, _ => by simp [PyData.eqv]
  | .int _, _ => by simp [PyData.eqv]
  | .str _, _ => by simp [PyData.eqv]
  | .list xs, h => by simp only [PyData.canLay0] at h; simp only [PyData.eqv]; exact eqvAll_refl xs h
  | .tuple xs, h => by simp only [PyData.canLay0] at h; simp only [PyData.eqv]; exact eqvAll_refl xs h
  | .dict _, h => by simp [PyData.canLay0] at h
theorem eqvAll_refl : ∀ xs : List D, PyData.canLayAll0 xs = true → PyData.eqvAll xs xs = true
  | [], _ => by simp [PyData.eqvAll]
  | x :: r, h => by
    simp only [PyData.canLayAll0, Bool.and_eq_true] at h
    simp only [PyData.eqvAll, eqv_refl x h.1, eqvAll_refl r h.2, Bool.and_self]
end
theorem eqD_self {d : D} (h : d.canLay0 = true) (hd : d.depth ≤ 60) : eqD d d = some (.bool true) := by simp [eqD, okEq, h, hd, eqv_refl d h]
theorem neD_self {d : D} (h : d.canLay0 = true) (hd : d.depth ≤ 60) : neD d d = some (.bool false) := by simp [neD, okEq, h, hd, eqv_refl d h]
@[simp] theorem eqD_kd (k : Kd) : eqD (.str k.str) (.str "number") = some (.bool false) := by
  rw [eqD_str (by rw [canLay0_str]; exact kd_ok k) ok_number]; simp [PyData.eqv, kd_ne]
@[simp] theorem eqD_num : eqD (.str "number") (.str "number") = some (.bool true) := by
  rw [eqD_str (by rw [canLay0_str]; exact ok_number) ok_number]; simp [PyData.eqv]
@[simp] theorem pp : (Kd.plus.str == ("plus" : Str)) = true := by decide +kernel
@[simp] theorem lp : (Kd.less.str == ("plus" : Str)) = false := by decide +kernel
@[simp] theorem tp : (Kd.times.str == ("plus" : Str)) = false := by decide +kernel
@[simp] theorem pl : (Kd.plus.str == ("less" : Str)) = false := by decide +kernel
@[simp] theorem ll : (Kd.less.str == ("less" : Str)) = true := by decide +kernel
@[simp] theorem tl : (Kd.times.str == ("less" : Str)) = false := by decide +kernel
@[simp] theorem pt : (Kd.plus.str == ("times" : Str)) = false := by decide +kernel
@[simp] theorem lt' : (Kd.less.str == ("times" : Str)) = false := by decide +kernel
@[simp] theorem tt : (Kd.times.str == ("times" : Str)) = true := by decide +kernel
def part : Tr → List Nat → Option Tr
  | t, [] => some t
  | .num _, _ :: _ => none
  | .node _ l r, c :: cs => if c = 108 then part l cs else if c = 114 then part r cs else none
def partD (t : Tr) (cs : List Nat) : D := match part t cs with
  | some t' => t'.toD
  | none => .none
def valid (cs : List Nat) : Prop := ∀ c ∈ cs, c < 1114112
theorem s_l : ("l" : Str) = ⟨#[108]⟩ := by decide +kernel
theorem s_r : ("r" : Str) = ⟨#[114]⟩ := by decide +kernel
theorem s_lr : ("lr" : Str).cps = #[108, 114] := by decide +kernel
theorem s_e : ("" : Str) = ⟨#[]⟩ := by decide +kernel
theorem findD_chr (c : Nat) : findD (.str "lr") (chr1 c) = some (.int (findLR c)) := by simp [findD, chr1, s_lr]
def turn : Tr → List Nat → Tr
  | .num n, _ => .num n
  | .node k l r, [] => .node k r l
  | .node k l r, c :: cs => if c = 108 then .node k (turn l cs) r else .node k l (turn r cs)
def addrs : Tr → List Nat → List (List Nat)
  | .num _, a => [a]
  | .node _ l r, a => a :: (addrs l (a ++ [108]) ++ addrs r (a ++ [114]))
def strD' (a : List Nat) : D := .str ⟨a.toArray⟩
theorem addrs_len : ∀ (t : Tr) (a : List Nat), (addrs t a).length + 1 = 2 * t.leaves
  | .num _, a => by simp [addrs, Tr.leaves]
  | .node _ l r, a => by
    have := addrs_len l (a ++ [108]); have := addrs_len r (a ++ [114])
    simp only [addrs, Tr.leaves, List.length_cons, List.length_append]; omega
theorem addrs_form : ∀ (t : Tr) (a b : List Nat), b ∈ addrs t a → ∃ c, b = a ++ c ∧ c.length ≤ t.dep ∧ (∀ x ∈ c, x = 108 ∨ x = 114) ∧ (part t c).isSome
  | .num _, a, b, h => by
    simp only [addrs, List.mem_singleton] at h
    exact ⟨[], by simp [h], by simp, by simp, by simp [part]⟩
  | .node _ l r, a, b, h => by
    simp only [addrs, List.mem_cons, List.mem_append] at h
    rcases h with rfl | h | h
    · exact ⟨[], by simp, by simp, by simp, by simp [part]⟩
    · obtain ⟨c, e, h1, h2, h3⟩ := addrs_form l _ b h
      refine ⟨108 :: c, by simp [e], by simp only [List.length_cons, Tr.dep]; omega, ?_, by simpa [part] using h3⟩
      intro x hx
      rcases List.mem_cons.mp hx with rfl | hx
      · exact .inl rfl
      · exact h2 x hx
    · obtain ⟨c, e, h1, h2, h3⟩ := addrs_form r _ b h
      refine ⟨114 :: c, by simp [e], by simp only [List.length_cons, Tr.dep]; omega, ?_, by simpa [part] using h3⟩
      intro x hx
      rcases List.mem_cons.mp hx with rfl | hx
      · exact .inr rfl
      · exact h2 x hx
theorem app_l (a : List Nat) : (⟨a.toArray⟩ : Str) ++ ("l" : Str) = ⟨(a ++ [108]).toArray⟩ := by
  rw [s_l]; show Str.append _ _ = _; simp [Str.append]
theorem app_r (a : List Nat) : (⟨a.toArray⟩ : Str) ++ ("r" : Str) = ⟨(a ++ [114]).toArray⟩ := by
  rw [s_r]; show Str.append _ _ = _; simp [Str.append]
theorem len_l : ("l" : Str).length = 1 := by decide +kernel
theorem len_r : ("r" : Str).length = 1 := by decide +kernel
theorem addD_list {xs ys : List D} (h : xs.length + ys.length ≤ 1000) : addD (.list xs) (.list ys) = some (.list (xs ++ ys)) := by simp [addD, h]
def drawn (num k : Int) : Int :=
  let d := (num + 104729 * k + 17) * 69621 % 2147483647
  (d * d + 3 * d + k) % 2147483629
theorem okMul_r (i j : Int) (h : j.natAbs < 18446744073709551616) : okMul i j = true := by simp [okMul, h]
theorem okMul_l (i j : Int) (h : i.natAbs < 18446744073709551616) : okMul i j = true := by simp [okMul, h]
def cell (xs : List Int) (k : Nat) : Int := xs.getD k 0
def mixed (xs : List Int) (k : Nat) : Int :=
  let d := (cell xs k + 7919 * k + 1) * 48271 % 2147483647
  (d * d + 7 * d + k) % 2147483629
theorem half_cases (i : Int) : i % 2 = 0 ∨ i % 2 = 1 := by omega
theorem at_three {x y z : D} {i : Int} (h : i = 0 ∨ i = 1 ∨ i = 2) : at? [x, y, z] i = some (if i = 0 then x else if i = 1 then y else z) := by
  rcases h with rfl | rfl | rfl <;> rfl
def kdOf (i : Int) : Kd := if i = 0 then .plus else if i = 1 then .less else .times
def fine (k : Nat) (d : D) : Bool := d.canLay0 && decide (d.depth ≤ k)
theorem fine_iff {k : Nat} {d : D} : fine k d = true ↔ d.canLay0 = true ∧ d.depth ≤ k := by simp [fine]
theorem fine_mono {j k : Nat} {d : D} (h : fine j d = true) (hk : j ≤ k) : fine k d = true := by
  simp only [fine, Bool.and_eq_true, decide_eq_true_eq] at h ⊢
  exact ⟨h.1, by omega⟩
theorem depthAll_le {xs : List D} {k : Nat} (h : ∀ x ∈ xs, x.depth ≤ k) : PyData.depthAll xs ≤ k := by
  induction xs with
  | nil => simp [PyData.depthAll]
  | cons a r ih =>
    simp only [PyData.depthAll]
    have := h a (List.mem_cons_self ..)
    have := ih fun x hx => h x (List.mem_cons_of_mem _ hx)
    omega
theorem layAll_of {xs : List D} (h : ∀ x ∈ xs, x.canLay0 = true) : PyData.canLayAll0 xs = true := by
  induction xs with
  | nil => simp [PyData.canLayAll0]
  | cons a r ih =>
    simp only [PyData.canLayAll0, Bool.and_eq_true]
    exact ⟨h a (List.mem_cons_self ..), ih fun x hx => h x (List.mem_cons_of_mem _ hx)⟩
theorem fine_lst {xs : List D} {k : Nat} (h : ∀ x ∈ xs, fine k x = true) : fine (k + 1) (.list xs) = true := by
  rw [fine_iff]
  simp only [PyData.canLay0, PyData.depth]
  exact ⟨layAll_of fun x hx => (fine_iff.mp (h x hx)).1, Nat.succ_le_succ (depthAll_le fun x hx => (fine_iff.mp (h x hx)).2)⟩
theorem fine_str (s : Str) (h : PyData.strOk s = true) : fine 0 (.str s) = true := by simp [fine, canLay0_str, h, PyData.depth]
theorem seq_of {a b : FS} {ρ ρ' : En} {r : Option Out} (h1 : a ρ = some (.nx ρ')) (h2 : b ρ' = r) : sSeq a b ρ = r := by simp [h1, h2]
theorem seq_rt {a b : FS} {ρ : En} {d : D} (h1 : a ρ = some (.rt d)) : sSeq a b ρ = some (.rt d) := by simp [h1]
theorem valid_lr {cs : List Nat} (h : ∀ x ∈ cs, x = 108 ∨ x = 114) : valid cs := fun c hc => by rcases h c hc with rfl | rfl <;> decide
theorem neD_fine {d : D} (h : fine 60 d = true) : neD d d = some (.bool false) := neD_self (fine_iff.mp h).1 (fine_iff.mp h).2
theorem neD_bool (a b : Bool) : neD (.bool a) (.bool b) = some (.bool (!(a == b))) := by
  simp [neD, okEq, PyData.canLay0, PyData.eqv, PyData.depth]
theorem compGo_filter (t : FT) (caps : En) (p : D → Bool) : ∀ xs : List D, (∀ x ∈ xs, t (some x :: caps) = some (p x)) → compGo t (eVar 0) caps xs = some (xs.filter p)
  | [], _ => rfl
  | x :: r, h => by
    have h1 := h x (List.mem_cons_self ..)
    have ih := compGo_filter t caps p r fun y hy => h y (List.mem_cons_of_mem _ hy)
    simp only [compGo, h1, ih, Option.bind_some]
    cases hp : p x <;> simp [List.filter_cons, hp]
theorem sw_iff (a b : List Nat) : swS ⟨a.toArray⟩ ⟨b.toArray⟩ = decide (b <+: a) := by
  rw [Bool.eq_iff_iff]
  simp only [swS, Bool.and_eq_true, decide_eq_true_eq, beq_iff_eq, Str.length, List.size_toArray, Nat.zero_add, List.extract_toArray, List.extract_eq_drop_take, List.drop_zero, Nat.sub_zero]
  constructor
  · rintro ⟨h1, h2⟩
    have h2' : List.take b.length a = b := by simpa using h2
    have h3 := List.take_append_drop b.length a
    rw [h2'] at h3
    exact ⟨List.drop b.length a, h3⟩
  · rintro ⟨c, rfl⟩
    simp
theorem app_str (a b : List Nat) : (⟨a.toArray⟩ : Str) ++ (⟨b.toArray⟩ : Str) = ⟨(a ++ b).toArray⟩ := by
  show Str.append _ _ = _; simp [Str.append]
theorem addD_strs {a b : List Nat} (h : a.length + b.length ≤ 1000) : addD (strD' a) (strD' b) = some (strD' (a ++ b)) := by
  simp only [strD', addD, app_str]; rw [if_pos (by simpa [Str.length] using h)]
theorem filter_none : ∀ ys : List D, ys.filter (fun _ => false) = []
  | [] => rfl
  | _ :: r => by simp only [List.filter_cons, Bool.false_eq_true, if_false]; exact filter_none r
end FD
end
section
set_option Elab.async false
set_option linter.all false
set_option maxHeartbeats 1000000
namespace FD
open PySem
inductive Deed where
  | put (p : Int) (a : List Nat) | join (p : Int) (a : List Nat) (o s : Int) | shelve (pl pn : Int) | fetch (pn pl : Int)
  deriving DecidableEq
def Deed.toD : Deed → D
  | .put p a => .tuple [.str "put", .int p, strD' a]
  | .join p a o s => .tuple [.str "join", .int p, strD' a, .int o, .int s]
  | .shelve p q => .tuple [.str "shelve", .int p, .int q]
  | .fetch p q => .tuple [.str "fetch", .int p, .int q]
def okA (a : List Nat) : Prop := valid a ∧ a.length ≤ 200
def Deed.ok : Deed → Prop
  | .put _ a => okA a
  | .join _ a _ _ => okA a
  | _ => True
abbrev Row := List (Option (List Nat))
def held (row : Row) (k : Int) : Option (List Nat) := if 0 ≤ k ∧ k < row.length then (row[k.toNat]?).join else none
def Deed.at : Deed → Int
  | .put p _ => p
  | .join p _ _ _ => p
  | .shelve p _ => p
  | .fetch p _ => p
theorem okA_str {a : List Nat} (h : valid a) : PyData.strOk ⟨a.toArray⟩ = true := by
  simp only [PyData.strOk, List.all_toArray, List.all_eq_true, decide_eq_true_eq]
  exact h
theorem valid_app {a b : List Nat} (h : valid a) (h' : valid b) : valid (a ++ b) := fun c hc => (List.mem_append.mp hc).elim (h c) (h' c)
theorem str_beq (a b : List Nat) : ((⟨a.toArray⟩ : Str) == ⟨b.toArray⟩) = decide (a = b) := by
  rw [Bool.eq_iff_iff]; simp
end FD
end
section
set_option Elab.async false
set_option linter.all false
set_option maxHeartbeats 1000000
namespace FD
open PySem
def idxN (a : List Nat) : List (List Nat) → Nat
  | [] => 0
  | b :: r => if b = a then 0 else idxN a r + 1
theorem strsD_map : ∀ ys : List (List Nat), strsD (ys.map strD') = some (ys.map fun a => ⟨a.toArray⟩)
  | [] => rfl
  | a :: r => by simp [strsD, strD', strsD_map r]
end FD
end
section
set_option Elab.async false
set_option linter.all false
set_option maxHeartbeats 1000000
namespace FD
open PySem
theorem addrs_mem {t : Tr} {b : List Nat} (h : b ∈ addrs t []) : ∃ u, part t b = some u ∧ u.leaves ≤ t.leaves ∧ b.length + u.dep ≤ t.dep ∧ valid b := by
  obtain ⟨c, rfl, h1, h2, h3⟩ := addrs_form t [] b h
  obtain ⟨u, hu⟩ := Option.isSome_iff_exists.mp h3
  have key : ∀ (t : Tr) (c : List Nat) (u : Tr), part t c = some u → u.leaves ≤ t.leaves ∧ c.length + u.dep ≤ t.dep := by
    intro t c
    induction c generalizing t with
    | nil => intro u h; simp only [part, Option.some.injEq] at h; subst h; simp
    | cons x r ih =>
      intro u h
      cases t with
      | num i => simp [part] at h
      | node k l r' =>
        simp only [part] at h
        have lp := l.leaves_pos
        have rp := r'.leaves_pos
        simp only [Tr.leaves, Tr.dep, List.length_cons]
        split at h
        · obtain ⟨q1, q2⟩ := ih l u h; omega
        · split at h
          · obtain ⟨q1, q2⟩ := ih r' u h; omega
          · cases h
  exact ⟨u, hu, (key t _ u hu).1, (key t _ u hu).2, valid_lr h2⟩
def sub (t : Tr) (a : List Nat) : Tr := (part t a).getD t
end FD
end
section
set_option Elab.async false
set_option linter.all false
set_option maxHeartbeats 1000000
namespace FD
open PySem
end FD
end
section
set_option Elab.async false
set_option linter.all false
set_option maxHeartbeats 1000000
namespace FD
open PySem
def Tr.need : Tr → Nat
  | .num _ => 1
  | .node _ l r => if l.need = r.need then l.need + 1 else max l.need r.need
def Tr.spills (p : Nat) : Tr → Nat
  | .num _ => 0
  | .node _ l r => l.spills p + r.spills p + if p ≤ l.need ∧ p ≤ r.need then 1 else 0
end FD
end
section
set_option Elab.async false
set_option linter.all false
set_option maxHeartbeats 1000000
namespace FD
open PySem
def place (num : Int) (every : List (List Nat)) (b : List Nat) : Int := ((idxN b every : Nat) + num / 4096) % 41
theorem part_child {t : Tr} {a : List Nat} {k : Kd} {l r : Tr} (h : part t a = some (.node k l r)) : part t (a ++ [108]) = some l ∧ part t (a ++ [114]) = some r := by
  induction a generalizing t with
  | nil =>
    have : t = .node k l r := by cases t <;> simpa [part] using h
    subst this
    simp [part]
  | cons c cs ih =>
    cases t with
    | num i => simp [part] at h
    | node k' l' r' =>
      simp only [part, List.cons_append] at h ⊢
      split at h
      · rename_i hc; simp only [hc, if_true]; exact ih h
      · split at h
        · rename_i h1 h2; simp only [h1, h2, if_true, if_false]; exact ih h
        · cases h
end FD
end
section
set_option Elab.async false
set_option linter.all false
set_option maxHeartbeats 1000000
namespace FD
open PySem
theorem addD_l {a : List Nat} (h : a.length ≤ 900) : addD (strD' a) (.str "l") = some (strD' (a ++ [108])) := by
  rw [s_l]; exact addD_strs (a := a) (b := [108]) (by simp; omega)
theorem addD_r {a : List Nat} (h : a.length ≤ 900) : addD (strD' a) (.str "r") = some (strD' (a ++ [114])) := by
  rw [s_r]; exact addD_strs (a := a) (b := [114]) (by simp; omega)
@[simp] theorem at_3 {α : Type} (x y z u : α) (xs : List α) : at? (x :: y :: z :: u :: xs) 3 = some u := rfl
@[simp] theorem at_4 {α : Type} (x y z u v : α) (xs : List α) : at? (x :: y :: z :: u :: v :: xs) 4 = some v := rfl
theorem addD_int (i j : Int) : addD (.int i) (.int j) = some (.int (i + j)) := rfl
theorem body_of {n np : Nat} {s : FS} {ds : List D} {d : D} {ρ : En} (hl : ds.length = np) (e : start n ds = ρ) (h : s ρ = some (.rt d)) : bodyF n np s ds = some d := by
  simp only [bodyF, hl, if_true, e, h]; rfl
end FD
end
section
set_option Elab.async false
set_option linter.all false
set_option maxHeartbeats 1000000
namespace FD
open PySem
theorem max_int (a b : Nat) : (if (b : Int) > (a : Int) then (b : Int) else (a : Int)) = ((max a b : Nat) : Int) := by split <;> omega
end FD
end
section
set_option Elab.async false
set_option linter.all false
set_option maxHeartbeats 1000000
namespace FD
open PySem
inductive FTr where
  | leaf (a : List Nat) | node (a : List Nat) (l r : FTr)
def FTr.toD : FTr → D
  | .leaf a => .tuple [strD' a]
  | .node a l r => .tuple [strD' a, l.toD, r.toD]
/-- a full tree of this height within t, its address beginning so -/
def FTr.full (t : Tr) : FTr → Nat → List Nat → Prop
  | .leaf a, h, ah => h = 0 ∧ ah <+: a ∧ (part t a).isSome = true ∧ okA a
  | .node a l r, h, ah => ∃ k, h = k + 1 ∧ ah <+: a ∧ (part t a).isSome = true ∧ okA a ∧ l.full t k (a ++ [108]) ∧ r.full t k (a ++ [114])
/-- all numbers of the deed lie within 0 .. 40 -/
def Deed.num : Deed → Prop
  | .put p _ => 0 ≤ p ∧ p ≤ 40
  | .join p _ o s => (0 ≤ p ∧ p ≤ 40) ∧ (0 ≤ o ∧ o ≤ 40) ∧ (0 ≤ s ∧ s ≤ 40)
  | .shelve p q => (0 ≤ p ∧ p ≤ 40) ∧ (0 ≤ q ∧ q ≤ 40)
  | .fetch p q => (0 ≤ p ∧ p ≤ 40) ∧ (0 ≤ q ∧ q ≤ 40)
theorem se_nil : (PyData.str "" : D) = strD' [] := by rw [s_e]; rfl
end FD
end
section
set_option Elab.async false
set_option linter.all false
set_option maxHeartbeats 1000000
namespace FD
open PySem
def coreB (t : Tr) (p : Nat) (b : List Nat) : Bool := match part t b with
  | some (.node _ l r) => decide (p ≤ l.need) && decide (p ≤ r.need)
  | _ => false
def coresT (t : Tr) (p : Nat) : List (List Nat) := (addrs t []).filter (coreB t p)
/-- the same, part by part -/
def coresG (p : Nat) : Tr → List Nat → List (List Nat)
  | .num _, _ => []
  | .node _ l r, a => (if p ≤ l.need ∧ p ≤ r.need then [a] else []) ++ coresG p l (a ++ [108]) ++ coresG p r (a ++ [114])
theorem coresG_len (p : Nat) : ∀ (t : Tr) (a : List Nat), (coresG p t a).length = t.spills p
  | .num _, _ => rfl
  | .node _ l r, a => by
    simp only [coresG, Tr.spills, List.length_append, coresG_len p l, coresG_len p r]
    split <;> simp <;> omega
theorem coresG_eq (t : Tr) (p : Nat) : ∀ (u : Tr) (a : List Nat), part t a = some u → (addrs u a).filter (coreB t p) = coresG p u a
  | .num i, a, h => by simp [addrs, coresG, coreB, h]
  | .node k l r, a, h => by
    obtain ⟨hl, hr⟩ := part_child h
    have el := coresG_eq t p l _ hl
    have er := coresG_eq t p r _ hr
    simp only [addrs, coresG, List.filter_cons, List.filter_append, el, er, coreB, h]
    by_cases c : p ≤ l.need ∧ p ≤ r.need
    · simp [c]
    · rw [if_neg c, if_neg (by simpa using c)]; simp
theorem coresT_eq (t : Tr) (p : Nat) : coresT t p = coresG p t [] := coresG_eq t p t [] (by cases t <;> rfl)
theorem coresT_len (t : Tr) (p : Nat) : (coresT t p).length = t.spills p := by rw [coresT_eq, coresG_len]
theorem addrs_pre : ∀ (t : Tr) (a b : List Nat), b ∈ addrs t a → a <+: b := fun t a b h => by
  obtain ⟨c, rfl, _⟩ := addrs_form t a b h
  exact List.prefix_append a c
theorem lex_lr (a c c' : List Nat) : a ++ 108 :: c ≤ a ++ 114 :: c' := by
  have : a ++ 108 :: c < a ++ 114 :: c' := List.append_left_lt (List.cons_lt_cons_iff.mpr (.inl (by decide)))
  exact List.le_of_lt this
theorem le_app (a c : List Nat) : a ≤ a ++ c := by
  have := List.append_left_le (l₁ := a) (List.nil_le c)
  simpa using this
theorem addrs_sorted : ∀ (t : Tr) (a : List Nat), (addrs t a).Pairwise (fun x y => x ≤ y)
  | .num _, a => by simp [addrs]
  | .node k l r, a => by
    have il := addrs_sorted l (a ++ [108])
    have ir := addrs_sorted r (a ++ [114])
    simp only [addrs]
    refine List.pairwise_cons.mpr ⟨fun y hy => ?_, List.pairwise_append.mpr ⟨il, ir, fun x hx y hy => ?_⟩⟩
    · rcases List.mem_append.mp hy with hy | hy
      · obtain ⟨c, rfl⟩ := addrs_pre _ _ _ hy
        rw [List.append_assoc]; exact le_app _ _
      · obtain ⟨c, rfl⟩ := addrs_pre _ _ _ hy
        rw [List.append_assoc]; exact le_app _ _
    · obtain ⟨c, rfl⟩ := addrs_pre _ _ _ hx
      obtain ⟨c', rfl⟩ := addrs_pre _ _ _ hy
      rw [List.append_assoc, List.append_assoc]
      exact lex_lr a c c'
theorem sortS_id {ys : List (List Nat)} (h : ys.Pairwise (fun x y => x ≤ y)) : sortS (ys.map fun a => ⟨a.toArray⟩) = ys.map fun a => ⟨a.toArray⟩ := by
  refine List.mergeSort_of_pairwise ?_
  rw [List.pairwise_map]
  exact h.imp fun {x y} hxy => by rw [leS_iff]; simpa using hxy
theorem coresT_sorted (t : Tr) (p : Nat) : (coresT t p).Pairwise (fun x y => x ≤ y) := (addrs_sorted t []).sublist List.filter_sublist
end FD
end
section
set_option Elab.async false
set_option linter.all false
set_option maxHeartbeats 1000000
namespace FD
open PySem
end FD
end
section
set_option Elab.async false
set_option linter.all false
set_option maxHeartbeats 1000000
namespace FD
open PySem
end FD
end
section
set_option Elab.async false
set_option linter.all false
set_option maxRecDepth 100000
set_option maxHeartbeats 4000000
namespace FD
open PySem
def f_need (c_need : List D → Option D) : FS :=
  (sSeq (sIf (tVal (eBin eqD (eBin ixD (eVar 0) (eC (.int 0))) (eC (.str "number")))) (sRet (eC (.int 1))) sNil) (sSeq (sSet 1 (eCall c_need (aCons (eBin ixD (eVar 0) (eC (.int 1))) aNil))) (sSeq (sSet 2 (eCall c_need (aCons (eBin ixD (eVar 0) (eC (.int 2))) aNil))) (sSeq (sIf (tVal (eBin eqD (eVar 1) (eVar 2))) (sRet (eBin addD (eVar 1) (eC (.int 1)))) sNil) (sRet (eCall maxD (aCons (eVar 1) (aCons (eVar 2) aNil))))))))
def F_need : Nat → List D → Option D
  | 0, _ => none
  | n + 1, ds => bodyF 3 1 (f_need (F_need n)) ds
theorem e_need (n : Nat) (ds : List D) : F_need (n + 1) ds = bodyF 3 1 (f_need (F_need n)) ds := rfl
def f_full_within (c_need : List D → Option D) (c_full_within : List D → Option D) : FS :=
  (sSeq (sIf (tVal (eBin eqD (eVar 2) (eC (.int 0)))) (sRet (eTup (aCons (eVar 1) aNil))) sNil) (sSeq (sIf (tVal (eBin gtD (eCall c_need (aCons (eBin ixD (eVar 0) (eC (.int 1))) aNil)) (eVar 2))) (sRet (eCall c_full_within (aCons (eBin ixD (eVar 0) (eC (.int 1))) (aCons (eBin addD (eVar 1) (eC (.str "l"))) (aCons (eVar 2) aNil))))) sNil) (sSeq (sIf (tVal (eBin gtD (eCall c_need (aCons (eBin ixD (eVar 0) (eC (.int 2))) aNil)) (eVar 2))) (sRet (eCall c_full_within (aCons (eBin ixD (eVar 0) (eC (.int 2))) (aCons (eBin addD (eVar 1) (eC (.str "r"))) (aCons (eVar 2) aNil))))) sNil) (sSeq (sSet 3 (eCall c_full_within (aCons (eBin ixD (eVar 0) (eC (.int 1))) (aCons (eBin addD (eVar 1) (eC (.str "l"))) (aCons (eBin subD (eVar 2) (eC (.int 1))) aNil))))) (sSeq (sSet 4 (eCall c_full_within (aCons (eBin ixD (eVar 0) (eC (.int 2))) (aCons (eBin addD (eVar 1) (eC (.str "r"))) (aCons (eBin subD (eVar 2) (eC (.int 1))) aNil))))) (sRet (eTup (aCons (eVar 1) (aCons (eVar 3) (aCons (eVar 4) aNil))))))))))
def F_full_within : Nat → List D → Option D
  | 0, _ => none
  | n + 1, ds => bodyF 5 3 (f_full_within (F_need n) (F_full_within n)) ds
theorem e_full_within (n : Nat) (ds : List D) : F_full_within (n + 1) ds = bodyF 5 3 (f_full_within (F_need n) (F_full_within n)) ds := rfl
def f_full (c_need : List D → Option D) (c_full_within : List D → Option D) : FS :=
  (sSeq (sIf (tOr (tVal (eBin ltD (eVar 1) (eC (.int 0)))) (tVal (eBin leD (eCall c_need (aCons (eVar 0) aNil)) (eVar 1)))) (sRet (eC .none)) sNil) (sRet (eCall c_full_within (aCons (eVar 0) (aCons (eC (.str "")) (aCons (eVar 1) aNil))))))
def F_full : Nat → List D → Option D
  | 0, _ => none
  | n + 1, ds => bodyF 2 2 (f_full (F_need n) (F_full_within n)) ds
theorem e_full (n : Nat) (ds : List D) : F_full (n + 1) ds = bodyF 2 2 (f_full (F_need n) (F_full_within n)) ds := rfl
def f_is_core (c_need : List D → Option D) : FS :=
  (sRet (eAnd (eBin geD (eCall c_need (aCons (eBin ixD (eVar 0) (eC (.int 1))) aNil)) (eVar 1)) (eBin geD (eCall c_need (aCons (eBin ixD (eVar 0) (eC (.int 2))) aNil)) (eVar 1))))
def F_is_core : Nat → List D → Option D
  | 0, _ => none
  | n + 1, ds => bodyF 2 2 (f_is_core (F_need n)) ds
theorem e_is_core (n : Nat) (ds : List D) : F_is_core (n + 1) ds = bodyF 2 2 (f_is_core (F_need n)) ds := rfl
def f_cores_within (c_is_core : List D → Option D) (c_cores_within : List D → Option D) : FS :=
  (sSeq (sIf (tVal (eBin eqD (eBin ixD (eVar 0) (eC (.int 0))) (eC (.str "number")))) (sRet (eLst aNil)) sNil) (sSeq (sSet 3 (eIf (tVal (eCall c_is_core (aCons (eVar 0) (aCons (eVar 2) aNil)))) (eLst (aCons (eVar 1) aNil)) (eLst aNil))) (sRet (eBin addD (eBin addD (eVar 3) (eCall c_cores_within (aCons (eBin ixD (eVar 0) (eC (.int 1))) (aCons (eBin addD (eVar 1) (eC (.str "l"))) (aCons (eVar 2) aNil))))) (eCall c_cores_within (aCons (eBin ixD (eVar 0) (eC (.int 2))) (aCons (eBin addD (eVar 1) (eC (.str "r"))) (aCons (eVar 2) aNil))))))))
def F_cores_within : Nat → List D → Option D
  | 0, _ => none
  | n + 1, ds => bodyF 4 3 (f_cores_within (F_is_core n) (F_cores_within n)) ds
theorem e_cores_within (n : Nat) (ds : List D) : F_cores_within (n + 1) ds = bodyF 4 3 (f_cores_within (F_is_core n) (F_cores_within n)) ds := rfl
def f_cores (c_cores_within : List D → Option D) : FS :=
  (sRet (eCall tupleD (aCons (eCall c_cores_within (aCons (eVar 0) (aCons (eC (.str "")) (aCons (eVar 1) aNil)))) aNil)))
def F_cores : Nat → List D → Option D
  | 0, _ => none
  | n + 1, ds => bodyF 2 2 (f_cores (F_cores_within n)) ds
theorem e_cores (n : Nat) (ds : List D) : F_cores (n + 1) ds = bodyF 2 2 (f_cores (F_cores_within n)) ds := rfl
def f_spills (c_cores : List D → Option D) : FS :=
  (sRet (eCall lenD (aCons (eCall c_cores (aCons (eVar 0) (aCons (eVar 1) aNil))) aNil)))
def F_spills : Nat → List D → Option D
  | 0, _ => none
  | n + 1, ds => bodyF 2 2 (f_spills (F_cores n)) ds
theorem e_spills (n : Nat) (ds : List D) : F_spills (n + 1) ds = bodyF 2 2 (f_spills (F_cores n)) ds := rfl
def f__law_cell_at : FS :=
  (sSeq (sIf (tVal (eBin ltD (eVar 1) (eCall lenD (aCons (eVar 0) aNil)))) (sRet (eBin ixD (eVar 0) (eVar 1))) sNil) (sRet (eC (.int 0))))
def F__law_cell_at : Nat → List D → Option D
  | 0, _ => none
  | n + 1, ds => bodyF 2 2 (f__law_cell_at ) ds
theorem e__law_cell_at (n : Nat) (ds : List D) : F__law_cell_at (n + 1) ds = bodyF 2 2 (f__law_cell_at ) ds := rfl
def f__law_mixed (c__law_cell_at : List D → Option D) : FS :=
  (sSeq (sSet 2 (eBin modD (eBin mulD (eBin addD (eBin addD (eCall c__law_cell_at (aCons (eVar 0) (aCons (eVar 1) aNil))) (eBin mulD (eC (.int 7919)) (eVar 1))) (eC (.int 1))) (eC (.int 48271))) (eC (.int 2147483647)))) (sRet (eBin modD (eBin addD (eBin addD (eBin mulD (eVar 2) (eVar 2)) (eBin mulD (eC (.int 7)) (eVar 2))) (eVar 1)) (eC (.int 2147483629)))))
def F__law_mixed : Nat → List D → Option D
  | 0, _ => none
  | n + 1, ds => bodyF 3 2 (f__law_mixed (F__law_cell_at n)) ds
theorem e__law_mixed (n : Nat) (ds : List D) : F__law_mixed (n + 1) ds = bodyF 3 2 (f__law_mixed (F__law_cell_at n)) ds := rfl
def f__law_drawn : FS :=
  (sSeq (sSet 2 (eBin modD (eBin mulD (eBin addD (eBin addD (eVar 0) (eBin mulD (eC (.int 104729)) (eVar 1))) (eC (.int 17))) (eC (.int 69621))) (eC (.int 2147483647)))) (sRet (eBin modD (eBin addD (eBin addD (eBin mulD (eVar 2) (eVar 2)) (eBin mulD (eC (.int 3)) (eVar 2))) (eVar 1)) (eC (.int 2147483629)))))
def F__law_drawn : Nat → List D → Option D
  | 0, _ => none
  | n + 1, ds => bodyF 3 2 (f__law_drawn ) ds
theorem e__law_drawn (n : Nat) (ds : List D) : F__law_drawn (n + 1) ds = bodyF 3 2 (f__law_drawn ) ds := rfl
def f__law_tree (c__law_drawn : List D → Option D) (c__law_tree : List D → Option D) : FS :=
  (sSeq (sIf (tVal (eBin eqD (eVar 1) (eC (.int 1)))) (sRet (eTup (aCons (eC (.str "number")) (aCons (eBin subD (eBin modD (eBin fdivD (eCall c__law_drawn (aCons (eVar 0) (aCons (eC (.int 1)) aNil))) (eC (.int 8))) (eBin ixD (eTup (aCons (eC (.int 21)) (aCons (eC (.int 2001)) aNil))) (eBin modD (eBin fdivD (eVar 0) (eC (.int 16))) (eC (.int 2))))) (eBin ixD (eTup (aCons (eC (.int 10)) (aCons (eC (.int 1000)) aNil))) (eBin modD (eBin fdivD (eVar 0) (eC (.int 16))) (eC (.int 2))))) aNil)))) sNil) (sSeq (sSet 3 (eBin addD (eC (.int 1)) (eBin modD (eBin fdivD (eVar 0) (eC (.int 8))) (eBin subD (eVar 1) (eC (.int 1)))))) (sSeq (sIf (tOr (tVal (eBin eqD (eVar 2) (eC (.int 1)))) (tAnd (tVal (eBin eqD (eVar 2) (eC (.int 2)))) (tVal (eBin eqD (eBin modD (eVar 0) (eC (.int 2))) (eC (.int 1)))))) (sSet 3 (eBin fdivD (eVar 1) (eC (.int 2)))) sNil) (sSeq (sIf (tVal (eBin eqD (eVar 2) (eC (.int 3)))) (sSet 3 (eBin ixD (eLst (aCons (eC (.int 1)) (aCons (eBin subD (eVar 1) (eC (.int 1))) aNil))) (eBin modD (eBin fdivD (eVar 0) (eC (.int 8))) (eC (.int 2))))) sNil) (sSeq (sSet 4 (eCall c__law_tree (aCons (eCall c__law_drawn (aCons (eVar 0) (aCons (eC (.int 2)) aNil))) (aCons (eVar 3) (aCons (eVar 2) aNil))))) (sSeq (sSet 5 (eCall c__law_tree (aCons (eCall c__law_drawn (aCons (eVar 0) (aCons (eC (.int 3)) aNil))) (aCons (eBin subD (eVar 1) (eVar 3)) (aCons (eVar 2) aNil))))) (sRet (eTup (aCons (eBin ixD (eTup (aCons (eC (.str "plus")) (aCons (eC (.str "less")) (aCons (eC (.str "times")) aNil)))) (eBin modD (eBin fdivD (eVar 0) (eC (.int 4))) (eC (.int 3)))) (aCons (eVar 4) (aCons (eVar 5) aNil)))))))))))
def F__law_tree : Nat → List D → Option D
  | 0, _ => none
  | n + 1, ds => bodyF 6 3 (f__law_tree (F__law_drawn n) (F__law_tree n)) ds
theorem e__law_tree (n : Nat) (ds : List D) : F__law_tree (n + 1) ds = bodyF 6 3 (f__law_tree (F__law_drawn n) (F__law_tree n)) ds := rfl
def f__law_drawn_tree (c__law_tree : List D → Option D) : FS :=
  (sRet (eCall c__law_tree (aCons (eBin fdivD (eVar 0) (eC (.int 64))) (aCons (eBin ixD (eTup (aCons (eC (.int 16)) (aCons (eC (.int 8)) (aCons (eC (.int 4)) (aCons (eBin addD (eC (.int 1)) (eBin modD (eBin fdivD (eVar 0) (eC (.int 64))) (eC (.int 16)))) aNil))))) (eBin modD (eBin fdivD (eVar 0) (eC (.int 4))) (eC (.int 4)))) (aCons (eBin modD (eVar 0) (eC (.int 4))) aNil)))))
def F__law_drawn_tree : Nat → List D → Option D
  | 0, _ => none
  | n + 1, ds => bodyF 1 1 (f__law_drawn_tree (F__law_tree n)) ds
theorem e__law_drawn_tree (n : Nat) (ds : List D) : F__law_drawn_tree (n + 1) ds = bodyF 1 1 (f__law_drawn_tree (F__law_tree n)) ds := rfl
def f__law_part : FS :=
  (sSeq (sSet 2 (eVar 0)) (sSeq (sForStr 3 (eVar 1) (sSeq (sIf (tOr (tVal (eBin eqD (eBin ixD (eVar 2) (eC (.int 0))) (eC (.str "number")))) (tVal (eBin ltD (eBin findD (eC (.str "lr")) (eVar 3)) (eC (.int 0))))) (sRet (eC .none)) sNil) (sSet 2 (eBin ixD (eVar 2) (eBin addD (eBin findD (eC (.str "lr")) (eVar 3)) (eC (.int 1))))))) (sRet (eVar 2))))
def F__law_part : Nat → List D → Option D
  | 0, _ => none
  | n + 1, ds => bodyF 4 2 (f__law_part ) ds
theorem e__law_part (n : Nat) (ds : List D) : F__law_part (n + 1) ds = bodyF 4 2 (f__law_part ) ds := rfl
def f__law_addresses (c__law_addresses : List D → Option D) : FS :=
  (sSeq (sIf (tVal (eBin eqD (eBin ixD (eVar 0) (eC (.int 0))) (eC (.str "number")))) (sRet (eLst (aCons (eVar 1) aNil))) sNil) (sRet (eBin addD (eBin addD (eLst (aCons (eVar 1) aNil)) (eCall c__law_addresses (aCons (eBin ixD (eVar 0) (eC (.int 1))) (aCons (eBin addD (eVar 1) (eC (.str "l"))) aNil)))) (eCall c__law_addresses (aCons (eBin ixD (eVar 0) (eC (.int 2))) (aCons (eBin addD (eVar 1) (eC (.str "r"))) aNil))))))
def F__law_addresses : Nat → List D → Option D
  | 0, _ => none
  | n + 1, ds => bodyF 2 2 (f__law_addresses (F__law_addresses n)) ds
theorem e__law_addresses (n : Nat) (ds : List D) : F__law_addresses (n + 1) ds = bodyF 2 2 (f__law_addresses (F__law_addresses n)) ds := rfl
def f__law_is_full (c__law_part : List D → Option D) (c__law_is_full : List D → Option D) : FS :=
  (sSeq (sIf (tOr (tNot (tVal (eUn (isiD .tup) (eVar 1)))) (tOr (tVal (eBin neD (eCall lenD (aCons (eVar 1) aNil)) (eBin ixD (eLst (aCons (eC (.int 3)) (aCons (eC (.int 1)) aNil))) (eCall intD (aCons (eBin eqD (eVar 2) (eC (.int 0))) aNil))))) (tNot (tVal (eUn (isiD .str) (eBin ixD (eVar 1) (eC (.int 0)))))))) (sRet (eC (.bool false))) sNil) (sSeq (sIf (tOr (tNot (tVal (eBin swD (eBin ixD (eVar 1) (eC (.int 0))) (eVar 3)))) (tVal (eUn isND (eCall c__law_part (aCons (eVar 0) (aCons (eBin ixD (eVar 1) (eC (.int 0))) aNil)))))) (sRet (eC (.bool false))) sNil) (sSeq (sIf (tVal (eBin eqD (eVar 2) (eC (.int 0)))) (sRet (eC (.bool true))) sNil) (sSeq (sIf (tNot (tVal (eCall c__law_is_full (aCons (eVar 0) (aCons (eBin ixD (eVar 1) (eC (.int 1))) (aCons (eBin subD (eVar 2) (eC (.int 1))) (aCons (eBin addD (eBin ixD (eVar 1) (eC (.int 0))) (eC (.str "l"))) aNil))))))) (sRet (eC (.bool false))) sNil) (sRet (eCall c__law_is_full (aCons (eVar 0) (aCons (eBin ixD (eVar 1) (eC (.int 2))) (aCons (eBin subD (eVar 2) (eC (.int 1))) (aCons (eBin addD (eBin ixD (eVar 1) (eC (.int 0))) (eC (.str "r"))) aNil))))))))))
def F__law_is_full : Nat → List D → Option D
  | 0, _ => none
  | n + 1, ds => bodyF 4 4 (f__law_is_full (F__law_part n) (F__law_is_full n)) ds
theorem e__law_is_full (n : Nat) (ds : List D) : F__law_is_full (n + 1) ds = bodyF 4 4 (f__law_is_full (F__law_part n) (F__law_is_full n)) ds := rfl
def f__law_has (c_full : List D → Option D) (c__law_is_full : List D → Option D) : FS :=
  (sSeq (sSet 2 (eCall c_full (aCons (eVar 0) (aCons (eVar 1) aNil)))) (sSeq (sIf (tVal (eUn isND (eVar 2))) (sRet (eC (.bool false))) sNil) (sRet (eBin ixD (eLst (aCons (eTup aNil) (aCons (eC (.bool true)) aNil))) (eCall intD (aCons (eCall c__law_is_full (aCons (eVar 0) (aCons (eVar 2) (aCons (eVar 1) (aCons (eC (.str "")) aNil))))) aNil))))))
def F__law_has : Nat → List D → Option D
  | 0, _ => none
  | n + 1, ds => bodyF 3 2 (f__law_has (F_full n) (F__law_is_full n)) ds
theorem e__law_has (n : Nat) (ds : List D) : F__law_has (n + 1) ds = bodyF 3 2 (f__law_has (F_full n) (F__law_is_full n)) ds := rfl
def f_law (c__law_mixed : List D → Option D) (c__law_drawn_tree : List D → Option D) (c_cores : List D → Option D) (c_spills : List D → Option D) (c__law_addresses : List D → Option D) (c__law_part : List D → Option D) (c__law_has : List D → Option D) : FS :=
  (sSeq (sSet 1 (eCall c__law_drawn_tree (aCons (eCall c__law_mixed (aCons (eVar 0) (aCons (eC (.int 0)) aNil))) aNil))) (sSeq (sSet 2 (eBin addD (eC (.int 2)) (eBin modD (eCall c__law_mixed (aCons (eVar 0) (aCons (eC (.int 1)) aNil))) (eC (.int 5))))) (sSeq (sIf (tVal (eBin eqD (eBin modD (eCall c__law_mixed (aCons (eVar 0) (aCons (eC (.int 2)) aNil))) (eC (.int 2))) (eC (.int 1)))) (sSet 2 (eC (.int 2))) sNil) (sSeq (sSet 3 (eCall c_cores (aCons (eVar 1) (aCons (eVar 2) aNil)))) (sSeq (sIf (tOr (tNot (tVal (eUn (isiD .tup) (eVar 3)))) (tOr (tVal (eBin neD (eCall listD (aCons (eVar 3) aNil)) (eUn sortedSetD (eVar 3)))) (tVal (eBin neD (eCall c_spills (aCons (eVar 1) (aCons (eVar 2) aNil))) (eCall lenD (aCons (eVar 3) aNil)))))) (sRet (eC (.bool false))) sNil) (sSeq (sForSeq 4 (eCall c__law_addresses (aCons (eVar 1) (aCons (eC (.str "")) aNil))) (sSeq (sSet 5 (eCall c__law_part (aCons (eVar 1) (aCons (eVar 4) aNil)))) (sIf (tVal (eBin neD (eBin ixD (eVar 5) (eC (.int 0))) (eC (.str "number")))) (sSeq (sSet 6 (eLst (aCons (eCall c__law_has (aCons (eBin ixD (eVar 5) (eC (.int 1))) (aCons (eBin subD (eVar 2) (eC (.int 1))) aNil))) (aCons (eCall c__law_has (aCons (eBin ixD (eVar 5) (eC (.int 2))) (aCons (eBin subD (eVar 2) (eC (.int 1))) aNil))) aNil)))) (sIf (tOr (tVal (eBin inD (eTup aNil) (eVar 6))) (tVal (eBin neD (eBin inD (eVar 4) (eVar 3)) (eBin notInD (eC (.bool false)) (eVar 6))))) (sRet (eC (.bool false))) sNil)) sNil))) (sRet (eBin eqD (eComp (eVar 3) [1] (tVal (eUn isND (eCall c__law_part (aCons (eVar 1) (aCons (eVar 0) aNil))))) (eVar 0)) (eLst aNil)))))))))
def F_law : Nat → List D → Option D
  | 0, _ => none
  | n + 1, ds => bodyF 7 1 (f_law (F__law_mixed n) (F__law_drawn_tree n) (F_cores n) (F_spills n) (F__law_addresses n) (F__law_part n) (F__law_has n)) ds
theorem e_law (n : Nat) (ds : List D) : F_law (n + 1) ds = bodyF 7 1 (f_law (F__law_mixed n) (F__law_drawn_tree n) (F_cores n) (F_spills n) (F__law_addresses n) (F__law_part n) (F__law_has n)) ds := rfl
end FD
end
section
set_option Elab.async false
set_option linter.all false
set_option maxHeartbeats 1000000
namespace FD
open PySem
def qBody : FS := (sSeq (sIf (tOr (tVal (eBin eqD (eBin ixD (eVar 2) (eC (.int 0))) (eC (.str "number")))) (tVal (eBin ltD (eBin findD (eC (.str "lr")) (eVar 3)) (eC (.int 0))))) (sRet (eC .none)) sNil) (sSet 2 (eBin ixD (eVar 2) (eBin addD (eBin findD (eC (.str "lr")) (eVar 3)) (eC (.int 1))))))
theorem qLoop (t0 a : D) : ∀ (cs : List Nat) (t : Tr) (y : Option D),
    (∃ y', forGo 3 qBody (cs.map chr1) [some t0, some a, some t.toD, y] = match part t cs with
      | some t' => some (.nx [some t0, some a, some t'.toD, y'])
      | none => some (.rt .none))
  | [], t, y => ⟨y, by simp [forGo, part]⟩
  | c :: cs, .num i, y => ⟨y, by
      simp [forGo, part, qBody, Tr.toD]⟩
  | c :: cs, .node k l r, y => by
    by_cases e1 : c = 108
    · obtain ⟨y', e⟩ := qLoop t0 a cs l (some (chr1 108))
      refine ⟨y', ?_⟩
      subst e1
      simp [forGo, part, qBody, Tr.toD, findD_chr, findLR, addD] at e ⊢
      exact e
    · by_cases e2 : c = 114
      · obtain ⟨y', e⟩ := qLoop t0 a cs r (some (chr1 114))
        refine ⟨y', ?_⟩
        subst e2
        simp [forGo, part, qBody, Tr.toD, findD_chr, findLR, addD] at e ⊢
        exact e
      · exact ⟨y, by simp [forGo, part, qBody, Tr.toD, findD_chr, findLR, addD, e1, e2]⟩
theorem F_lpart (n : Nat) (t : Tr) (s : Str) : F__law_part (n + 1) [t.toD, .str s] = some (partD t s.cps.toList) := by
  obtain ⟨y, e⟩ := qLoop t.toD (.str s) s.cps.toList t none
  rw [e__law_part]
  have e' : f__law_part = sSeq (sSet 2 (eVar 0)) (sSeq (sForStr 3 (eVar 1) qBody) (sRet (eVar 2))) := rfl
  rw [e']
  simp [chars, e, partD]
  cases part t s.cps.toList <;> simp
theorem F_addrs (n : Nat) : ∀ (t : Tr) (a : List Nat), t.dep < n → t.leaves ≤ 100 → a.length + t.dep ≤ 900 → F__law_addresses n [t.toD, strD' a] = some (.list ((addrs t a).map strD')) := by
  induction n with
  | zero => intro t a h; omega
  | succ n ih =>
    intro t a hn hl ha
    rw [e__law_addresses]
    cases t with
    | num i => simp [f__law_addresses, Tr.toD, addrs]
    | node k l r =>
      simp only [Tr.dep, Tr.leaves] at hn hl ha
      have el := ih l (a ++ [108]) (by omega) (by omega) (by simp; omega)
      have er := ih r (a ++ [114]) (by omega) (by omega) (by simp; omega)
      have ll := addrs_len l (a ++ [108])
      have lr := addrs_len r (a ++ [114])
      have h1 : a.length + 1 ≤ 1000 := by omega
      have g1 : 0 + 1 + (addrs l (a ++ [108])).length ≤ 1000 := by omega
      have g2 : (addrs l (a ++ [108])).length + 1 + (addrs r (a ++ [114])).length ≤ 1000 := by omega
      have s1 : addD (strD' a) (.str "l") = some (strD' (a ++ [108])) := by
        simp only [strD', addD, app_l, len_l]; rw [if_pos (by simpa [Str.length] using h1)]
      have s2 : addD (strD' a) (.str "r") = some (strD' (a ++ [114])) := by
        simp only [strD', addD, app_r, len_r]; rw [if_pos (by simpa [Str.length] using h1)]
      simp [f__law_addresses, Tr.toD, addrs, s1, s2, el, er]
      rw [addD_list (by simp; omega)]
      simp only [Option.bind_some]
      rw [addD_list (by simp; omega)]
      simp
theorem F_drawn (n : Nat) (num k : Int) : F__law_drawn (n + 1) [.int num, .int k] = some (.int (drawn num k)) := by
  rw [e__law_drawn]
  have h1 : okMul 104729 k = true := okMul_l _ _ (by decide)
  have h2 : okMul (num + 104729 * k + 17) 69621 = true := okMul_r _ _ (by decide)
  have h3 : okMul ((num + 104729 * k + 17) * 69621 % 2147483647) ((num + 104729 * k + 17) * 69621 % 2147483647) = true := okMul_l _ _ (by omega)
  have h4 : okMul 3 ((num + 104729 * k + 17) * 69621 % 2147483647) = true := okMul_l _ _ (by decide)
  simp [f__law_drawn, addD, mulD, modD, h1, h2, h3, h4, drawn]
theorem F_cell (n : Nat) (xs : List Int) (k : Nat) : F__law_cell_at (n + 1) [.list (xs.map .int), .int k] = some (.int (cell xs k)) := by
  rw [e__law_cell_at]
  by_cases h : k < xs.length
  · have h' : (k : Int) < (xs.length : Int) := by omega
    have e : at? (xs.map PyData.int) (k : Int) = some (.int (cell xs k)) := by
      simp [at?, cell, List.getD, h]
    simp [f__law_cell_at, h', e]
  · have h' : ¬ (k : Int) < (xs.length : Int) := by omega
    have e : cell xs k = 0 := by simp [cell, List.getD, h]
    simp [f__law_cell_at, h', e]
theorem F_mixed (n : Nat) (xs : List Int) (k : Nat) : F__law_mixed (n + 2) [.list (xs.map .int), .int k] = some (.int (mixed xs k)) := by
  rw [e__law_mixed]
  have h1 : okMul 7919 (k : Int) = true := okMul_l _ _ (by decide)
  have h2 : okMul (cell xs k + 7919 * k + 1) 48271 = true := okMul_r _ _ (by decide)
  have h3 : okMul ((cell xs k + 7919 * k + 1) * 48271 % 2147483647) ((cell xs k + 7919 * k + 1) * 48271 % 2147483647) = true := okMul_l _ _ (by omega)
  have h4 : okMul 7 ((cell xs k + 7919 * k + 1) * 48271 % 2147483647) = true := okMul_l _ _ (by decide)
  simp [f__law_mixed, F_cell n xs k, addD, mulD, modD, h1, h2, h3, h4, mixed]
def treeRest (c__law_drawn c__law_tree : List D → Option D) : FS := (sSeq (sSet 4 (eCall c__law_tree (aCons (eCall c__law_drawn (aCons (eVar 0) (aCons (eC (.int 2)) aNil))) (aCons (eVar 3) (aCons (eVar 2) aNil))))) (sSeq (sSet 5 (eCall c__law_tree (aCons (eCall c__law_drawn (aCons (eVar 0) (aCons (eC (.int 3)) aNil))) (aCons (eBin subD (eVar 1) (eVar 3)) (aCons (eVar 2) aNil))))) (sRet (eTup (aCons (eBin ixD (eTup (aCons (eC (.str "plus")) (aCons (eC (.str "less")) (aCons (eC (.str "times")) aNil)))) (eBin modD (eBin fdivD (eVar 0) (eC (.int 4))) (eC (.int 3)))) (aCons (eVar 4) (aCons (eVar 5) aNil)))))))
theorem tree_first (cd ct : List D → Option D) (many : Nat) (num kind : Int) (h2 : 2 ≤ many) :
    ∃ first : Nat, 1 ≤ first ∧ first < many ∧ f__law_tree cd ct [some (.int num), some (.int many), some (.int kind), none, none, none] =
      treeRest cd ct [some (.int num), some (.int many), some (.int kind), some (.int first), none, none] := by
  have hne : ¬ ((many : Int) = 1) := by omega
  have hpos : (0 : Int) < (many : Int) - 1 := by omega
  have hpos' : (1 : Int) < (many : Int) := by omega
  by_cases k3 : kind = 3
  · subst k3
    rcases half_cases (num / 8) with hh | hh
    · refine ⟨1, Nat.le_refl _, by omega, ?_⟩
      simp only [f__law_tree, treeRest]
      simp [fdivD, modD, addD, hne, hpos', hh]
    · refine ⟨many - 1, by omega, by omega, ?_⟩
      have e : ((many - 1 : Nat) : Int) = (many : Int) - 1 := by omega
      simp only [f__law_tree, treeRest]
      simp [fdivD, modD, addD, hne, hpos', hh, e]
  · by_cases k1 : kind = 1
    · refine ⟨many / 2, by omega, by omega, ?_⟩
      simp only [f__law_tree, treeRest]
      simp [fdivD, modD, addD, hne, hpos', k1]
    · by_cases k2 : kind = 2 ∧ num % 2 = 1
      · refine ⟨many / 2, by omega, by omega, ?_⟩
        simp only [f__law_tree, treeRest]
        simp [fdivD, modD, addD, hne, hpos', k2.1, k2.2]
      · have hm := Int.emod_nonneg (num / 8) (show (many : Int) - 1 ≠ 0 by omega)
        have hl := Int.emod_lt_of_pos (num / 8) hpos
        refine ⟨(1 + num / 8 % ((many : Int) - 1)).toNat, by omega, by omega, ?_⟩
        have e : (((1 + num / 8 % ((many : Int) - 1)).toNat : Nat) : Int) = 1 + num / 8 % ((many : Int) - 1) := by omega
        rw [e]
        simp only [f__law_tree, treeRest]
        by_cases k4 : kind = 2
        · have k5 : ¬ num % 2 = 1 := fun z => k2 ⟨k4, z⟩
          subst k4
          simp [fdivD, modD, addD, hne, hpos', k5]
        · simp [fdivD, modD, addD, hne, hpos', k1, k3, k4]
theorem F_tree (m : Nat) : ∀ (many : Nat) (num kind : Int) (n : Nat), many ≤ m → 1 ≤ many → many ≤ 16 → many + 1 ≤ n →
    ∃ t : Tr, F__law_tree n [.int num, .int many, .int kind] = some t.toD ∧ t.leaves = many ∧ t.ok := by
  induction m with
  | zero => intro many num kind n h h1; omega
  | succ m ih =>
    intro many num kind n hm h1 h16 hn
    obtain ⟨n, rfl⟩ : ∃ k, n = k + 2 := ⟨n - 2, by omega⟩
    by_cases e1 : many = 1
    · subst e1
      rcases half_cases (num / 16) with hh | hh
      · refine ⟨.num (drawn num 1 / 8 % 21 - 10), ?_, rfl, ?_⟩
        · rw [e__law_tree]
          simp [f__law_tree, F_drawn n num 1, fdivD, modD, hh, Tr.toD]
        · simp only [Tr.ok]; omega
      · refine ⟨.num (drawn num 1 / 8 % 2001 - 1000), ?_, rfl, ?_⟩
        · rw [e__law_tree]
          simp [f__law_tree, F_drawn n num 1, fdivD, modD, hh, Tr.toD]
        · simp only [Tr.ok]; omega
    · obtain ⟨first, f1, f2, ef⟩ := tree_first (F__law_drawn (n + 1)) (F__law_tree (n + 1)) many num kind (by omega)
      obtain ⟨t1, e1', l1, o1⟩ := ih first (drawn num 2) kind (n + 1) (by omega) f1 (by omega) (by omega)
      obtain ⟨t2, e2', l2, o2⟩ := ih (many - first) (drawn num 3) kind (n + 1) (by omega) (by omega) (by omega) (by omega)
      refine ⟨.node (kdOf (num / 4 % 3)) t1 t2, ?_, by simp only [Tr.leaves]; omega, o1, o2⟩
      rw [e__law_tree]
      have es : ((many : Int) - (first : Int)) = ((many - first : Nat) : Int) := by omega
      have hq : num / 4 % 3 = 0 ∨ num / 4 % 3 = 1 ∨ num / 4 % 3 = 2 := by omega
      have ek : (if num / 4 % 3 = 0 then PyData.str "plus" else if num / 4 % 3 = 1 then .str "less" else .str "times") = PyData.str (kdOf (num / 4 % 3)).str := by
        rcases hq with h | h | h <;> rw [h] <;> rfl
      simp only [bodyF, start]
      simp [ef]
      simp [treeRest, F_drawn n, e1', es, e2', fdivD, modD, at_three hq, ek, Tr.toD]
theorem F_drawn_tree (n : Nat) (num : Int) (h : 18 ≤ n) : ∃ t : Tr, F__law_drawn_tree (n + 1) [.int num] = some t.toD ∧ t.leaves ≤ 16 ∧ t.ok := by
  rw [e__law_drawn_tree]
  have hq : num / 4 % 4 = 0 ∨ num / 4 % 4 = 1 ∨ num / 4 % 4 = 2 ∨ num / 4 % 4 = 3 := by omega
  have go : ∀ many : Nat, 1 ≤ many → many ≤ 16 → ∃ t : Tr, F__law_tree n [.int (num / 64), .int many, .int (num % 4)] = some t.toD ∧ t.leaves ≤ 16 ∧ t.ok := fun many h1 h2 => by
    obtain ⟨t, a, b, c⟩ := F_tree many many (num / 64) (num % 4) n (Nat.le_refl _) h1 h2 (by omega)
    exact ⟨t, a, by omega, c⟩
  rcases hq with hq | hq | hq | hq
  · obtain ⟨t, a, b⟩ := go 16 (by decide) (by decide)
    refine ⟨t, ?_, b⟩
    have a' : F__law_tree n [.int (num / 64), .int 16, .int (num % 4)] = some t.toD := a
    simp [f__law_drawn_tree, fdivD, modD, hq, addD, a']
  · obtain ⟨t, a, b⟩ := go 8 (by decide) (by decide)
    refine ⟨t, ?_, b⟩
    have a' : F__law_tree n [.int (num / 64), .int 8, .int (num % 4)] = some t.toD := a
    simp [f__law_drawn_tree, fdivD, modD, hq, addD, a']
  · obtain ⟨t, a, b⟩ := go 4 (by decide) (by decide)
    refine ⟨t, ?_, b⟩
    have a' : F__law_tree n [.int (num / 64), .int 4, .int (num % 4)] = some t.toD := a
    simp [f__law_drawn_tree, fdivD, modD, hq, addD, a']
  · obtain ⟨t, a, b⟩ := go (1 + num / 64 % 16).toNat (by omega) (by omega)
    refine ⟨t, ?_, b⟩
    have e : (((1 + num / 64 % 16).toNat : Nat) : Int) = 1 + num / 64 % 16 := by omega
    rw [e] at a
    have h3 : at? [PyData.int 16, PyData.int 8, PyData.int 4, PyData.int (1 + num / 64 % 16)] 3 = some (.int (1 + num / 64 % 16)) := rfl
    simp [f__law_drawn_tree, fdivD, modD, hq, addD, a, h3]
theorem F_lisfull (t : Tr) : ∀ (f : FTr) (n h : Nat) (ah : List Nat), f.full t h ah → h < n → F__law_is_full (n + 1) [t.toD, f.toD, .int h, strD' ah] = some (.bool true)
  | .leaf a, n, h, ah, hf, hn => by
    obtain ⟨rfl, h1, h2, h3⟩ := hf
    obtain ⟨n, rfl⟩ : ∃ m, n = m + 1 := ⟨n - 1, by omega⟩
    obtain ⟨u, hu⟩ := Option.isSome_iff_exists.mp h2
    have hp : F__law_part (n + 1) [t.toD, .str ⟨a.toArray⟩] = some u.toD := by
      have := F_lpart n t ⟨a.toArray⟩
      simp only [partD, hu] at this; exact this
    have hs : isND u.toD = some (.bool false) := by cases u <;> simp [Tr.toD]
    rw [e__law_is_full]
    refine body_of (ρ := [some t.toD, some (FTr.leaf a).toD, some (.int (0 : Nat)), some (strD' ah)]) rfl rfl ?_
    cases u <;> simp [f__law_is_full, FTr.toD, strD', swD, sw_iff, h1, hp, Tr.toD]
  | .node a l r, n, h, ah, hf, hn => by
    obtain ⟨k, rfl, h1, h2, h3, hl, hr⟩ := hf
    obtain ⟨n, rfl⟩ : ∃ m, n = m + 1 := ⟨n - 1, by omega⟩
    obtain ⟨u, hu⟩ := Option.isSome_iff_exists.mp h2
    have hp : F__law_part (n + 1) [t.toD, .str ⟨a.toArray⟩] = some u.toD := by
      have := F_lpart n t ⟨a.toArray⟩
      simp only [partD, hu] at this; exact this
    have il := F_lisfull t l n k _ hl (by omega)
    have ir := F_lisfull t r n k _ hr (by omega)
    have al : addD (.str ⟨a.toArray⟩) (.str "l") = some (strD' (a ++ [108])) := addD_l (a := a) (by have := h3.2; omega)
    have ar : addD (.str ⟨a.toArray⟩) (.str "r") = some (strD' (a ++ [114])) := addD_r (a := a) (by have := h3.2; omega)
    have k1 : ((k + 1 : Nat) : Int) - 1 = (k : Int) := by omega
    have k0 : ¬ ((k + 1 : Nat) : Int) = 0 := by omega
    rw [e__law_is_full]
    refine body_of (ρ := [some t.toD, some (FTr.node a l r).toD, some (.int ((k + 1 : Nat) : Int)), some (strD' ah)]) rfl rfl ?_
    have sd : strD' ah = .str ⟨ah.toArray⟩ := rfl
    have fd : (FTr.node a l r).toD = .tuple [.str ⟨a.toArray⟩, l.toD, r.toD] := rfl
    rw [sd, fd]
    generalize hK : ((k + 1 : Nat) : Int) = K at *
    cases u <;> simp [f__law_is_full, swD, sw_iff, h1, hp, Tr.toD, k0, k1, al, ar, il, ir]
theorem F_pneed (n : Nat) : ∀ t : Tr, t.dep < n → F_need n [t.toD] = some (.int (t.need : Nat)) := by
  induction n with
  | zero => intro t h; omega
  | succ n ih =>
    intro t h
    rw [e_need]
    cases t with
    | num i => simp [f_need, Tr.toD, Tr.need]
    | node k l r =>
      simp only [Tr.dep] at h
      have el := ih l (by omega)
      have er := ih r (by omega)
      refine body_of (ρ := [some (Tr.node k l r).toD, none, none]) rfl rfl ?_
      unfold f_need
      refine seq_of (ρ' := [some (Tr.node k l r).toD, none, none]) (by simp [Tr.toD]) ?_
      refine seq_of (ρ' := [some (Tr.node k l r).toD, some (.int (l.need : Nat)), none]) (by simp [Tr.toD, el]) ?_
      refine seq_of (ρ' := [some (Tr.node k l r).toD, some (.int (l.need : Nat)), some (.int (r.need : Nat))]) (by simp [Tr.toD, er]) ?_
      by_cases c : l.need = r.need
      · have c' : ((l.need : Int) == (r.need : Int)) = true := by simp [c]
        refine seq_rt ?_
        simp only [sIf, tVal, sRet, eBin, eVar, eC, List.getElem?_cons_succ, List.getElem?_cons_zero, Option.bind_some, id, eqD_int, boolOf, c', if_true, addD_int]
        simp only [Tr.need, if_pos c]
        rfl
      · have c' : ((l.need : Int) == (r.need : Int)) = false := by simp; omega
        refine seq_of (ρ' := [some (Tr.node k l r).toD, some (.int (l.need : Nat)), some (.int (r.need : Nat))]) ?_ ?_
        · simp only [sIf, tVal, sRet, eBin, eVar, eC, List.getElem?_cons_succ, List.getElem?_cons_zero, Option.bind_some, id, eqD_int, boolOf, c', Bool.false_eq_true, if_false, sNil]
        · simp only [sRet, eCall, aCons, aNil, eVar, List.getElem?_cons_succ, List.getElem?_cons_zero, Option.bind_some, id, maxD, max_int]
          simp only [Tr.need, if_neg c]
theorem F_pcore (n : Nat) (k : Kd) (l r : Tr) (f : Int) (h : max l.dep r.dep < n) : F_is_core (n + 1) [(Tr.node k l r).toD, .int f] = some (.bool (decide (f ≤ (l.need : Int)) && decide (f ≤ (r.need : Int)))) := by
  have nl := F_pneed n l (by omega)
  have nr := F_pneed n r (by omega)
  rw [e_is_core]
  by_cases c : f ≤ (l.need : Int)
  · simp [f_is_core, Tr.toD, nl, nr, c]
  · simp [f_is_core, Tr.toD, nl, nr, c]
theorem coresG_short (p : Nat) : ∀ (u : Tr) (a : List Nat), (coresG p u a).length < u.leaves
  | .num _, _ => by simp [coresG, Tr.leaves]
  | .node _ l r, a => by
    have h1 := coresG_short p l (a ++ [108])
    have h2 := coresG_short p r (a ++ [114])
    simp only [coresG, List.length_append, Tr.leaves]
    split <;> simp <;> omega
theorem F_pcoresG (p : Nat) (n : Nat) : ∀ (u : Tr) (a : List Nat), u.dep + 1 < n → u.leaves ≤ 16 → a.length + u.dep ≤ 200 → F_cores_within n [u.toD, strD' a, .int p] = some (.list ((coresG p u a).map strD')) := by
  induction n with
  | zero => intro u a h; omega
  | succ n ih =>
    intro u a h hl ha
    rw [e_cores_within]
    cases u with
    | num i => simp [f_cores_within, Tr.toD, coresG]
    | node k l r =>
      have l1 := l.leaves_pos
      have r1 := r.leaves_pos
      simp only [Tr.dep, Tr.leaves] at h hl ha
      obtain ⟨j, rfl⟩ : ∃ j, n = j + 1 := ⟨n - 1, by omega⟩
      have ic := F_pcore j k l r p (by omega)
      have al := addD_l (a := a) (by omega)
      have ar := addD_r (a := a) (by omega)
      have el := ih l (a ++ [108]) (by omega) (by omega) (by simp; omega)
      have er := ih r (a ++ [114]) (by omega) (by omega) (by simp; omega)
      have sl := coresG_short p l (a ++ [108])
      have sr := coresG_short p r (a ++ [114])
      refine body_of (ρ := [some (Tr.node k l r).toD, some (strD' a), some (.int p), none]) rfl rfl ?_
      unfold f_cores_within
      refine seq_of (ρ' := [some (Tr.node k l r).toD, some (strD' a), some (.int p), none]) (by simp [Tr.toD]) ?_
      refine seq_of (ρ' := [some (Tr.node k l r).toD, some (strD' a), some (.int p), some (.list ((if p ≤ l.need ∧ p ≤ r.need then [a] else []).map strD'))]) ?_ ?_
      · by_cases c : p ≤ l.need ∧ p ≤ r.need
        · have c' : (decide ((p : Int) ≤ (l.need : Int)) && decide ((p : Int) ≤ (r.need : Int))) = true := by simp; omega
          rw [c'] at ic
          rw [if_pos c]
          simp [ic]
        · have c' : (decide ((p : Int) ≤ (l.need : Int)) && decide ((p : Int) ≤ (r.need : Int))) = false := by
            rw [Bool.and_eq_false_iff]; simp only [decide_eq_false_iff_not]; omega
          rw [c'] at ic
          rw [if_neg c]
          simp [ic]
      · have l0 : (if p ≤ l.need ∧ p ≤ r.need then [a] else []).length ≤ 1 := by split <;> simp
        have a1 := addD_list (xs := (if p ≤ l.need ∧ p ≤ r.need then [a] else []).map strD') (ys := (coresG p l (a ++ [108])).map strD') (by simp only [List.length_map]; omega)
        have a2 := addD_list (xs := (if p ≤ l.need ∧ p ≤ r.need then [a] else []).map strD' ++ (coresG p l (a ++ [108])).map strD') (ys := (coresG p r (a ++ [114])).map strD') (by simp only [List.length_map, List.length_append]; omega)
        have t1 : ixD (Tr.node k l r).toD (.int 1) = some l.toD := rfl
        have t2 : ixD (Tr.node k l r).toD (.int 2) = some r.toD := rfl
        simp only [sRet, eBin, eCall, aCons, aNil, eVar, eC, List.getElem?_cons_succ, List.getElem?_cons_zero, Option.bind_some, id, t1, t2, al, ar, el, er, a1, a2]
        simp only [coresG, List.map_append]
theorem F_pcores (m : Nat) (hm : 50 ≤ m) (t : Tr) (p : Nat) (tl : t.leaves ≤ 16) : F_cores m [t.toD, .int p] = some (.tuple ((coresT t p).map strD')) := by
  obtain ⟨n, rfl⟩ : ∃ k, m = k + 1 := ⟨m - 1, by omega⟩
  have td := t.dep_lt
  have e := F_pcoresG p n t [] (by omega) tl (by simp; omega)
  rw [e_cores, coresT_eq]
  refine body_of (ρ := [some t.toD, some (.int p)]) rfl rfl ?_
  simp [f_cores, se_nil, e]
theorem F_pspills (m : Nat) (hm : 51 ≤ m) (t : Tr) (p : Nat) (tl : t.leaves ≤ 16) : F_spills m [t.toD, .int p] = some (.int (t.spills p : Nat)) := by
  obtain ⟨n, rfl⟩ : ∃ k, m = k + 1 := ⟨m - 1, by omega⟩
  have e := F_pcores n (by omega) t p tl
  rw [e_spills]
  refine body_of (ρ := [some t.toD, some (.int p)]) rfl rfl ?_
  simp [f_spills, e, coresT_len]
theorem FTr.weaken {t : Tr} {a b : List Nat} (h : a <+: b) : ∀ {f : FTr} {k : Nat}, f.full t k b → f.full t k a
  | .leaf c, k, ⟨h1, h2, h3⟩ => ⟨h1, h.trans h2, h3⟩
  | .node c l r, k, ⟨j, h1, h2, h3⟩ => ⟨j, h1, h.trans h2, h3⟩
theorem F_pwithin (t : Tr) (n : Nat) : ∀ (u : Tr) (a : List Nat) (h : Nat), part t a = some u → valid a → a.length + u.dep ≤ 200 → u.dep < n → h < u.need → ∃ f : FTr, F_full_within n [u.toD, strD' a, .int h] = some f.toD ∧ f.full t h a := by
  induction n with
  | zero => intro u a h _ _ _ hn; omega
  | succ n ih =>
    intro u a h hp va la hn hh
    rw [e_full_within]
    cases h with
    | zero =>
      refine ⟨.leaf a, ?_, rfl, List.prefix_rfl, by rw [hp]; rfl, va, by omega⟩
      refine body_of (ρ := [some u.toD, some (strD' a), some (.int 0), none, none]) rfl rfl ?_
      simp [f_full_within, FTr.toD]
    | succ k =>
      cases u with
      | num i => simp only [Tr.need] at hh; omega
      | node kd l r =>
        simp only [Tr.dep] at la hn
        obtain ⟨pl, pr⟩ := part_child hp
        have vl : valid (a ++ [108]) := valid_app va (fun x hx => by simp at hx; omega)
        have vr : valid (a ++ [114]) := valid_app va (fun x hx => by simp at hx; omega)
        have nl := F_pneed n l (by omega)
        have nr := F_pneed n r (by omega)
        have al := addD_l (a := a) (by omega)
        have ar := addD_r (a := a) (by omega)
        have ll : (a ++ [108]).length + l.dep ≤ 200 := by simp; omega
        have lr : (a ++ [114]).length + r.dep ≤ 200 := by simp; omega
        have k0 : (((k + 1 : Nat) : Int) == 0) = false := by simp; omega
        have k1 : ((k + 1 : Nat) : Int) - 1 = (k : Nat) := by omega
        generalize hK : ((k + 1 : Nat) : Int) = K at *
        have s0 : ∀ rest : FS, ∀ o, rest [some (Tr.node kd l r).toD, some (strD' a), some (.int K), none, none] = o → sSeq (sIf (tVal (eBin eqD (eVar 2) (eC (.int 0)))) (sRet (eTup (aCons (eVar 1) aNil))) sNil) rest [some (Tr.node kd l r).toD, some (strD' a), some (.int K), none, none] = o := fun rest o e => seq_of (by simp [k0]) e
        by_cases c1 : k + 1 < l.need
        · obtain ⟨f, e, hf⟩ := ih l (a ++ [108]) (k + 1) pl vl ll (by omega) c1
          rw [hK] at e
          refine ⟨f, ?_, FTr.weaken ⟨_, rfl⟩ hf⟩
          have g : K < (l.need : Int) := by omega
          refine body_of (ρ := [some (Tr.node kd l r).toD, some (strD' a), some (.int K), none, none]) rfl rfl ?_
          unfold f_full_within
          refine s0 _ _ (seq_rt ?_)
          simp [Tr.toD, nl, g, al, e]
        · have g : ¬ K < (l.need : Int) := by omega
          by_cases c2 : k + 1 < r.need
          · obtain ⟨f, e, hf⟩ := ih r (a ++ [114]) (k + 1) pr vr lr (by omega) c2
            rw [hK] at e
            refine ⟨f, ?_, FTr.weaken ⟨_, rfl⟩ hf⟩
            have g2 : K < (r.need : Int) := by omega
            refine body_of (ρ := [some (Tr.node kd l r).toD, some (strD' a), some (.int K), none, none]) rfl rfl ?_
            unfold f_full_within
            refine s0 _ _ (seq_of (ρ' := [some (Tr.node kd l r).toD, some (strD' a), some (.int K), none, none]) (by simp [Tr.toD, nl, g]) (seq_rt ?_))
            simp [Tr.toD, nr, g2, ar, e]
          · have g2 : ¬ K < (r.need : Int) := by omega
            have hb : l.need = k + 1 ∧ r.need = k + 1 := by
              simp only [Tr.need] at hh
              split at hh <;> omega
            obtain ⟨f1, e1, h1⟩ := ih l (a ++ [108]) k pl vl ll (by omega) (by omega)
            obtain ⟨f2, e2, h2⟩ := ih r (a ++ [114]) k pr vr lr (by omega) (by omega)
            refine ⟨.node a f1 f2, ?_, k, rfl, List.prefix_rfl, by rw [hp]; rfl, ⟨va, by omega⟩, h1, h2⟩
            refine body_of (ρ := [some (Tr.node kd l r).toD, some (strD' a), some (.int K), none, none]) rfl rfl ?_
            unfold f_full_within
            refine s0 _ _ (seq_of (ρ' := [some (Tr.node kd l r).toD, some (strD' a), some (.int K), none, none]) (by simp [Tr.toD, nl, g]) (seq_of (ρ' := [some (Tr.node kd l r).toD, some (strD' a), some (.int K), none, none]) (by simp [Tr.toD, nr, g2]) ?_))
            refine seq_of (ρ' := [some (Tr.node kd l r).toD, some (strD' a), some (.int K), some f1.toD, none]) (by simp [Tr.toD, al, k1, e1]) ?_
            refine seq_of (ρ' := [some (Tr.node kd l r).toD, some (strD' a), some (.int K), some f1.toD, some f2.toD]) (by simp [Tr.toD, ar, k1, e2]) ?_
            simp [FTr.toD]
theorem F_pfull (m : Nat) (hm : 60 ≤ m) (t : Tr) (h : Nat) (tl : t.leaves ≤ 16) (h8 : h ≤ 8) : (t.need ≤ h → F_full m [t.toD, .int h] = some .none) ∧ (h < t.need → ∃ f : FTr, F_full m [t.toD, .int h] = some f.toD ∧ f.full t h []) := by
  obtain ⟨n, rfl⟩ : ∃ k, m = k + 1 := ⟨m - 1, by omega⟩
  have td := t.dep_lt
  have nt := F_pneed n t (by omega)
  have h0 : ¬ (h : Int) < 0 := by omega
  refine ⟨fun c => ?_, fun c => ?_⟩
  · rw [e_full]
    have c' : (t.need : Int) ≤ (h : Int) := by omega
    refine body_of (ρ := [some t.toD, some (.int h)]) rfl rfl ?_
    unfold f_full
    refine seq_rt ?_
    simp [h0, nt, c']
  · obtain ⟨f, e, hf⟩ := F_pwithin t n t [] h (by cases t <;> rfl) (fun c hc => nomatch hc) (by simp; omega) (by omega) c
    refine ⟨f, ?_, hf⟩
    rw [e_full]
    have c' : ¬ (t.need : Int) ≤ (h : Int) := by omega
    refine body_of (ρ := [some t.toD, some (.int h)]) rfl rfl ?_
    unfold f_full
    refine seq_of (ρ' := [some t.toD, some (.int h)]) (by simp [h0, nt, c']) ?_
    simp [se_nil, e]
theorem addrs_nodup : ∀ (t : Tr) (a : List Nat), (addrs t a).Nodup
  | .num _, a => by simp [addrs]
  | .node k l r, a => by
    have pl : ∀ b ∈ addrs l (a ++ [108]), ∃ c, b = a ++ 108 :: c := fun b hb => by
      obtain ⟨c, rfl, _⟩ := addrs_form l _ b hb
      exact ⟨c, by simp⟩
    have pr : ∀ b ∈ addrs r (a ++ [114]), ∃ c, b = a ++ 114 :: c := fun b hb => by
      obtain ⟨c, rfl, _⟩ := addrs_form r _ b hb
      exact ⟨c, by simp⟩
    simp only [addrs, List.nodup_cons, List.nodup_append, List.mem_append]
    refine ⟨fun h => ?_, addrs_nodup l _, addrs_nodup r _, fun b hb c hc e => ?_⟩
    · rcases h with h | h
      · obtain ⟨c, e⟩ := pl a h
        have := congrArg List.length e
        simp at this
      · obtain ⟨c, e⟩ := pr a h
        have := congrArg List.length e
        simp at this
    · obtain ⟨x, rfl⟩ := pl b hb
      obtain ⟨y, rfl⟩ := pr c hc
      have := List.append_cancel_left e
      simp at this
theorem inD_strs {b : List Nat} {ys : List (List Nat)} (vb : valid b) (vy : ∀ y ∈ ys, valid y) : inD (strD' b) (.tuple (ys.map strD')) = some (.bool (decide (b ∈ ys))) := by
  have ok : okIn (strD' b) (ys.map strD') = true := by
    have h1 : (strD' b).canLay0 = true := by simp only [strD', canLay0_str]; exact okA_str vb
    have h2 : PyData.canLayAll0 (ys.map strD') = true := layAll_of fun x hx => by
      obtain ⟨y, hy, rfl⟩ := List.mem_map.mp hx
      simp only [strD', canLay0_str]; exact okA_str (vy y hy)
    have h3 : (strD' b).depth ≤ 60 := by simp [strD', PyData.depth]
    simp [okIn, h1, h2, h3]
  have an : (ys.map strD').any (fun z => PyData.eqv z (strD' b)) = decide (b ∈ ys) := by
    rw [List.any_map, Bool.eq_iff_iff, List.any_eq_true, decide_eq_true_eq]
    refine ⟨fun ⟨y, hy, e⟩ => ?_, fun h => ⟨b, h, ?_⟩⟩
    · have : y = b := by simpa [strD', PyData.eqv, str_beq] using e
      rw [← this]; exact hy
    · simp [strD', PyData.eqv]
  simp only [inD, seqOf, Option.bind_some, ok, if_true, an]
theorem in_unit (x y : Bool) : inD (.tuple []) (.list [.bool x, .bool y]) = some (.bool false) := by
  cases x <;> cases y <;> simp [inD, okIn, PyData.canLay0, PyData.canLayAll0, PyData.depth, PyData.depthAll, PyData.eqv]
theorem notin_false (x y : Bool) : notInD (.bool false) (.list [.bool x, .bool y]) = some (.bool (x && y)) := by
  cases x <;> cases y <;> simp [notInD, okIn, PyData.canLay0, PyData.canLayAll0, PyData.depth, PyData.eqv]
theorem F_lhas (n : Nat) (u : Tr) (h : Nat)
    (hfull : (u.need ≤ h → F_full n [u.toD, .int h] = some .none) ∧ (h < u.need → ∃ f : FTr, F_full n [u.toD, .int h] = some f.toD ∧ f.full u h [])) (hn : h + 1 < n) : F__law_has (n + 1) [u.toD, .int h] = some (.bool (decide (h < u.need))) := by
  rw [e__law_has]
  by_cases c : h < u.need
  · obtain ⟨f, e, hf⟩ := hfull.2 c
    obtain ⟨m, rfl⟩ : ∃ m, n = m + 1 := ⟨n - 1, by omega⟩
    have ef := F_lisfull u f m h [] hf (by omega)
    have nn : isND f.toD = some (.bool false) := by cases f <;> rfl
    refine body_of (ρ := [some u.toD, some (.int h), none]) rfl rfl ?_
    unfold f__law_has
    refine seq_of (ρ' := [some u.toD, some (.int h), some f.toD]) (by simp [e]) ?_
    refine seq_of (ρ' := [some u.toD, some (.int h), some f.toD]) ?_ ?_
    · simp only [sIf, tVal, eUn, eVar, List.getElem?_cons_succ, List.getElem?_cons_zero, Option.bind_some, id, nn, boolOf, Bool.false_eq_true, if_false, sNil]
    · rw [decide_eq_true c]
      simp [se_nil, ef]
  · have e := hfull.1 (by omega)
    rw [decide_eq_false c]
    simp [f__law_has, e]
theorem sif_t {t : FT} {a b : FS} {ρ : En} (h : t ρ = some true) : sIf t a b ρ = a ρ := by simp only [sIf, h, Option.bind_some, if_true]
theorem sif_f {t : FT} {a b : FS} {ρ : En} (h : t ρ = some false) : sIf t a b ρ = b ρ := by simp only [sIf, h, Option.bind_some, Bool.false_eq_true, if_false]
def coBody (c_part c_has : List D → Option D) : FS := (sSeq (sSet 5 (eCall c_part (aCons (eVar 1) (aCons (eVar 4) aNil)))) (sIf (tVal (eBin neD (eBin ixD (eVar 5) (eC (.int 0))) (eC (.str "number")))) (sSeq (sSet 6 (eLst (aCons (eCall c_has (aCons (eBin ixD (eVar 5) (eC (.int 1))) (aCons (eBin subD (eVar 2) (eC (.int 1))) aNil))) (aCons (eCall c_has (aCons (eBin ixD (eVar 5) (eC (.int 2))) (aCons (eBin subD (eVar 2) (eC (.int 1))) aNil))) aNil)))) (sIf (tOr (tVal (eBin inD (eTup aNil) (eVar 6))) (tVal (eBin neD (eBin inD (eVar 4) (eVar 3)) (eBin notInD (eC (.bool false)) (eVar 6))))) (sRet (eC (.bool false))) sNil)) sNil))
theorem coTurn (n : Nat) (S : D) (t : Tr) (p : Nat) (b : List Nat) (x5 x6 : Option D) (p1 : 1 ≤ p) (hb : b ∈ addrs t [])
    (hhas : ∀ u : Tr, u.leaves ≤ t.leaves → F__law_has (n + 1) [u.toD, .int ((p - 1 : Nat) : Int)] = some (.bool (decide (p - 1 < u.need)))) :
    ∃ y5 y6, coBody (F__law_part (n + 1)) (F__law_has (n + 1)) [some S, some t.toD, some (.int p), some (.tuple ((coresT t p).map strD')), some (strD' b), x5, x6] = some (.nx [some S, some t.toD, some (.int p), some (.tuple ((coresT t p).map strD')), some (strD' b), y5, y6]) := by
  obtain ⟨u, hu, hlv, hde, vb⟩ := addrs_mem hb
  have hp : F__law_part (n + 1) [t.toD, strD' b] = some u.toD := by
    have := F_lpart n t ⟨b.toArray⟩
    simp only [partD, hu] at this; exact this
  unfold coBody
  cases u with
  | num i =>
    refine ⟨some (Tr.num i).toD, x6, ?_⟩
    have nn : neD (.str "number") (.str "number") = some (.bool false) := by rw [neD_str (by rw [canLay0_str]; exact ok_number) ok_number]; simp [PyData.eqv]
    refine seq_of (ρ' := [some S, some t.toD, some (.int p), some (.tuple ((coresT t p).map strD')), some (strD' b), some (Tr.num i).toD, x6]) (by simp [hp]) ?_
    simp [Tr.toD, nn]
  | node k l r =>
    have l1 := l.leaves_pos
    have r1 := r.leaves_pos
    simp only [Tr.leaves] at hlv
    have nk : neD (.str k.str) (.str "number") = some (.bool true) := by rw [neD_str (by rw [canLay0_str]; exact kd_ok k) ok_number]; simp [PyData.eqv, kd_ne k]
    have hl := hhas l (by omega)
    have hr := hhas r (by omega)
    have pc : (p : Int) - 1 = ((p - 1 : Nat) : Int) := by omega
    have cb : decide (b ∈ coresT t p) = (decide (p - 1 < l.need) && decide (p - 1 < r.need)) := by
      have : b ∈ coresT t p ↔ coreB t p b = true := by simp [coresT, hb]
      rw [Bool.eq_iff_iff, decide_eq_true_eq, this]
      simp only [coreB, hu, Bool.and_eq_true, decide_eq_true_eq]
      omega
    have ib := inD_strs (b := b) (ys := coresT t p) vb (fun y hy => by
      obtain ⟨u, _, _, _, v⟩ := addrs_mem (List.mem_filter.mp hy).1
      exact v)
    rw [cb] at ib
    refine ⟨some (Tr.node k l r).toD, some (.list [.bool (decide (p - 1 < l.need)), .bool (decide (p - 1 < r.need))]), ?_⟩
    refine seq_of (ρ' := [some S, some t.toD, some (.int p), some (.tuple ((coresT t p).map strD')), some (strD' b), some (Tr.node k l r).toD, x6]) (by simp [hp]) ?_
    have t0 : (tVal (eBin neD (eBin ixD (eVar 5) (eC (.int 0))) (eC (.str "number")))) [some S, some t.toD, some (.int p), some (.tuple ((coresT t p).map strD')), some (strD' b), some (Tr.node k l r).toD, x6] = some true := by simp [Tr.toD, nk]
    rw [sif_t t0]
    refine seq_of (ρ' := [some S, some t.toD, some (.int p), some (.tuple ((coresT t p).map strD')), some (strD' b), some (Tr.node k l r).toD, some (.list [.bool (decide (p - 1 < l.need)), .bool (decide (p - 1 < r.need))])]) ?_ ?_
    · have g1 : ixD (Tr.node k l r).toD (.int 1) = some l.toD := rfl
      have g2 : ixD (Tr.node k l r).toD (.int 2) = some r.toD := rfl
      simp only [sSet, eLst, aCons, aNil, eCall, eBin, eVar, eC, List.getElem?_cons_succ, List.getElem?_cons_zero, Option.bind_some, id, g1, g2, subD, pc, hl, hr, few]
      rfl
    · have u1 := in_unit (decide (p - 1 < l.need)) (decide (p - 1 < r.need))
      have u2 := notin_false (decide (p - 1 < l.need)) (decide (p - 1 < r.need))
      have u3 := neD_bool (decide (p - 1 < l.need) && decide (p - 1 < r.need)) (decide (p - 1 < l.need) && decide (p - 1 < r.need))
      have c1 : (tVal (eBin inD (eTup aNil) (eVar 6))) [some S, some t.toD, some (.int p), some (.tuple ((coresT t p).map strD')), some (strD' b), some (Tr.node k l r).toD, some (.list [.bool (decide (p - 1 < l.need)), .bool (decide (p - 1 < r.need))])] = some false := by
        have tu : (eTup aNil) [some S, some t.toD, some (.int p), some (.tuple ((coresT t p).map strD')), some (strD' b), some (Tr.node k l r).toD, some (.list [.bool (decide (p - 1 < l.need)), .bool (decide (p - 1 < r.need))])] = some (.tuple []) := rfl
        simp only [tVal, eBin, tu, eVar, List.getElem?_cons_succ, List.getElem?_cons_zero, Option.bind_some, id, u1, boolOf]
      have c2 : (tVal (eBin neD (eBin inD (eVar 4) (eVar 3)) (eBin notInD (eC (.bool false)) (eVar 6)))) [some S, some t.toD, some (.int p), some (.tuple ((coresT t p).map strD')), some (strD' b), some (Tr.node k l r).toD, some (.list [.bool (decide (p - 1 < l.need)), .bool (decide (p - 1 < r.need))])] = some false := by
        simp only [tVal, eBin, eVar, eC, List.getElem?_cons_succ, List.getElem?_cons_zero, Option.bind_some, id, ib, u2, u3, boolOf]
        simp
      rw [sif_f (by simp only [tOr, c1, c2, Option.bind_some, Bool.false_eq_true, if_false])]
      rfl
theorem coLoop (n : Nat) (S : D) (t : Tr) (p : Nat) (p1 : 1 ≤ p)
    (hhas : ∀ u : Tr, u.leaves ≤ t.leaves → F__law_has (n + 1) [u.toD, .int ((p - 1 : Nat) : Int)] = some (.bool (decide (p - 1 < u.need)))) : ∀ (bs : List (List Nat)) (x4 x5 x6 : Option D), (∀ b ∈ bs, b ∈ addrs t []) →
    ∃ y4 y5 y6, forGo 4 (coBody (F__law_part (n + 1)) (F__law_has (n + 1))) (bs.map strD') [some S, some t.toD, some (.int p), some (.tuple ((coresT t p).map strD')), x4, x5, x6] = some (.nx [some S, some t.toD, some (.int p), some (.tuple ((coresT t p).map strD')), y4, y5, y6])
  | [], x4, x5, x6, _ => ⟨x4, x5, x6, rfl⟩
  | b :: bs, x4, x5, x6, h => by
    obtain ⟨y5, y6, e1⟩ := coTurn n S t p b x5 x6 p1 (h b (by simp)) hhas
    obtain ⟨z4, z5, z6, e2⟩ := coLoop n S t p p1 hhas bs (some (strD' b)) y5 y6 (fun c hc => h c (by simp [hc]))
    refine ⟨z4, z5, z6, ?_⟩
    simp only [List.map_cons, forGo]
    show ((coBody _ _ [some S, some t.toD, some (.int p), some (.tuple ((coresT t p).map strD')), some (strD' b), x5, x6]).bind _) = _
    rw [e1]
    exact e2
theorem k22_true (xs : List Int) (m : Nat) (hm : 60 ≤ m)
    (hsp : ∀ (t : Tr) (p : Nat), t.leaves ≤ 16 → 2 ≤ p → p ≤ 8 → F_spills m [t.toD, .int p] = some (.int (t.spills p : Nat)))
    (hcores : ∀ (t : Tr) (p : Nat), t.leaves ≤ 16 → 2 ≤ p → p ≤ 8 → F_cores m [t.toD, .int p] = some (.tuple ((coresT t p).map strD')))
    (hfull : ∀ (t : Tr) (h : Nat), t.leaves ≤ 16 → h ≤ 8 → (t.need ≤ h → F_full (m - 1) [t.toD, .int h] = some .none) ∧ (h < t.need → ∃ f : FTr, F_full (m - 1) [t.toD, .int h] = some f.toD ∧ f.full t h [])) :
    F_law (m + 1) [.list (xs.map .int)] = some (.bool true) := by
  obtain ⟨n, rfl⟩ : ∃ k, m = k + 3 := ⟨m - 3, by omega⟩
  obtain ⟨t, et, tl, tok⟩ := F_drawn_tree (n + 2) (mixed xs 0) (by omega)
  have mx : ∀ k : Nat, F__law_mixed (n + 3) [.list (xs.map .int), .int k] = some (.int (mixed xs k)) := fun k => F_mixed (n + 1) xs k
  have m0 : F__law_mixed (n + 3) [.list (xs.map .int), .int 0] = some (.int (mixed xs 0)) := mx 0
  have m1 : F__law_mixed (n + 3) [.list (xs.map .int), .int 1] = some (.int (mixed xs 1)) := mx 1
  have m2 : F__law_mixed (n + 3) [.list (xs.map .int), .int 2] = some (.int (mixed xs 2)) := mx 2
  have tdep := t.dep_lt
  obtain ⟨q, hq⟩ : ∃ q : Nat, (q : Int) = 2 + mixed xs 1 % 5 := ⟨(2 + mixed xs 1 % 5).toNat, by omega⟩
  obtain ⟨p, hp, p2, p8⟩ : ∃ p : Nat, p = (if mixed xs 2 % 2 = 1 then 2 else q) ∧ 2 ≤ p ∧ p ≤ 8 := by
    refine ⟨_, rfl, ?_, ?_⟩ <;> split <;> omega
  obtain ⟨S, hS⟩ : ∃ S : D, S = .list (xs.map .int) := ⟨_, rfl⟩
  rw [← hS] at m0 m1 m2 ⊢
  have eco := hcores t p tl p2 p8
  have esp := hsp t p tl p2 p8
  have cl : (coresT t p).length = t.spills p := coresT_len t p
  have al := addrs_len t []
  have cl64 : (coresT t p).length < 64 := by
    have : (coresT t p).length ≤ (addrs t []).length := List.length_filter_le _ _
    omega
  have vc : ∀ b ∈ coresT t p, ∃ u, part t b = some u ∧ valid b := fun b hb => by
    obtain ⟨u, hu, _, _, v⟩ := addrs_mem (List.mem_filter.mp hb).1
    exact ⟨u, hu, v⟩
  rw [e_law]
  refine body_of (ρ := [some S, none, none, none, none, none, none]) rfl rfl ?_
  unfold f_law
  refine seq_of (ρ' := [some S, some t.toD, none, none, none, none, none]) (by simp [m0, et]) ?_
  refine seq_of (ρ' := [some S, some t.toD, some (.int q), none, none, none, none]) (by simp [m1, modD, addD_int, hq]) ?_
  refine seq_of (ρ' := [some S, some t.toD, some (.int p), none, none, none, none]) ?_ ?_
  · by_cases c : mixed xs 2 % 2 = 1
    · rw [if_pos c] at hp
      rw [hp]
      simp [m2, modD, c]
    · rw [if_neg c] at hp
      rw [hp]
      simp [m2, modD, c]
  refine seq_of (ρ' := [some S, some t.toD, some (.int p), some (.tuple ((coresT t p).map strD')), none, none, none]) (by simp [eco]) ?_
  refine seq_of (ρ' := [some S, some t.toD, some (.int p), some (.tuple ((coresT t p).map strD')), none, none, none]) ?_ ?_
  · have nd : ((coresT t p).map fun a => (⟨a.toArray⟩ : Str)).Nodup := by
      have h := (addrs_nodup t []).sublist (List.filter_sublist (p := coreB t p))
      refine List.Pairwise.map _ (fun a b hab e => hab ?_) h
      have := congrArg Str.cps e
      simpa using this
    have so : sortedSetD (.tuple ((coresT t p).map strD')) = some (.list ((coresT t p).map strD')) := by
      simp only [sortedSetD, strsD_map, Option.bind_some]
      rw [if_pos ⟨nd, by simpa using cl64⟩, sortS_id (coresT_sorted t p), List.map_map]
      rfl
    have fc : fine 60 (.list ((coresT t p).map strD')) = true := by
      refine fine_mono (fine_lst (k := 0) fun x hx => ?_) (by decide)
      obtain ⟨b, hb, rfl⟩ := List.mem_map.mp hx
      obtain ⟨u, _, vb⟩ := vc b hb
      exact fine_str _ (okA_str vb)
    have nf := neD_fine fc
    have c1 : (tNot (tVal (eUn (isiD .tup) (eVar 3)))) [some S, some t.toD, some (.int p), some (.tuple ((coresT t p).map strD')), none, none, none] = some false := by simp
    have c2 : (tVal (eBin neD (eCall listD (aCons (eVar 3) aNil)) (eUn sortedSetD (eVar 3)))) [some S, some t.toD, some (.int p), some (.tuple ((coresT t p).map strD')), none, none, none] = some false := by
      simp only [tVal, eBin, eCall, aCons, aNil, eUn, eVar, List.getElem?_cons_succ, List.getElem?_cons_zero, Option.bind_some, id, listD, so, nf, boolOf]
    have c3 : (tVal (eBin neD (eCall (F_spills (n + 3)) (aCons (eVar 1) (aCons (eVar 2) aNil))) (eCall lenD (aCons (eVar 3) aNil)))) [some S, some t.toD, some (.int p), some (.tuple ((coresT t p).map strD')), none, none, none] = some false := by
      simp [esp, cl]
    simp only [sIf, tOr, c1, c2, c3, Option.bind_some, Bool.false_eq_true, if_false, sNil]
  have ea : F__law_addresses (n + 3) [t.toD, strD' []] = some (.list ((addrs t []).map strD')) := F_addrs (n + 3) t [] (by omega) (by omega) (by simp; omega)
  have hhas : ∀ u : Tr, u.leaves ≤ t.leaves → F__law_has (n + 2 + 1) [u.toD, .int ((p - 1 : Nat) : Int)] = some (.bool (decide (p - 1 < u.need))) := fun u hu => F_lhas (n + 2) u (p - 1) (hfull u (p - 1) (by omega) (by omega)) (by omega)
  obtain ⟨y4, y5, y6, el⟩ := coLoop (n + 2) S t p (by omega) hhas (addrs t []) none none none (fun b hb => hb)
  refine seq_of (ρ' := [some S, some t.toD, some (.int p), some (.tuple ((coresT t p).map strD')), y4, y5, y6]) ?_ ?_
  · have src : (eCall (F__law_addresses (n + 3)) (aCons (eVar 1) (aCons (eC (.str "")) aNil))) [some S, some t.toD, some (.int p), some (.tuple ((coresT t p).map strD')), none, none, none] = some (.list ((addrs t []).map strD')) := by
      simp [se_nil, ea]
    simp only [sForSeq, src, Option.bind_some, seqOf]
    exact el
  · have cmp : (eComp (eVar 3) [1] (tVal (eUn isND (eCall (F__law_part (n + 3)) (aCons (eVar 1) (aCons (eVar 0) aNil))))) (eVar 0)) [some S, some t.toD, some (.int p), some (.tuple ((coresT t p).map strD')), y4, y5, y6] = some (.list []) := by
      have hf : few ((coresT t p).map strD') = true := by simp; omega
      unfold eComp
      show (if few ((coresT t p).map strD') = true then (compGo _ _ _ ((coresT t p).map strD')).map PyData.list else none) = _
      rw [if_pos hf, compGo_filter _ _ (fun _ => false)]
      · rw [filter_none]; rfl
      · intro x hx
        obtain ⟨b, hb, rfl⟩ := List.mem_map.mp hx
        obtain ⟨u, hu, vb⟩ := vc b hb
        have hp : F__law_part (n + 3) [t.toD, strD' b] = some u.toD := by
          have := F_lpart (n + 2) t ⟨b.toArray⟩
          simp only [partD, hu] at this; exact this
        have nn : isND u.toD = some (.bool false) := by cases u <;> rfl
        show (tVal (eUn isND (eCall (F__law_part (n + 3)) (aCons (eVar 1) (aCons (eVar 0) aNil))))) [some (strD' b), some t.toD] = _
        simp only [tVal, eUn, eCall, aCons, aNil, eVar, List.getElem?_cons_succ, List.getElem?_cons_zero, Option.bind_some, id, hp, nn, boolOf]
    have ee : eqD (.list []) (.list []) = some (.bool true) := eqD_self (by simp [PyData.canLay0, PyData.canLayAll0]) (by simp [PyData.depth, PyData.depthAll])
    simp only [sRet, eBin, cmp, eLst, aNil, few, Option.bind_some]
    simp [ee]
theorem law_true (xs : List Int) (m : Nat) (hm : 100 ≤ m) : F_law (m + 1) [.list (xs.map .int)] = some (.bool true) :=
  k22_true xs m (by omega) (fun t p tl _ _ => F_pspills m (by omega) t p tl) (fun t p tl _ _ => F_pcores m (by omega) t p tl) (fun t h tl h8 => F_pfull (m - 1) (by omega) t h tl h8)
end FD
end
set_option Elab.async false
set_option linter.all false
set_option maxRecDepth 100000
set_option maxHeartbeats 4000000
namespace FD
open PySem PySem.Spec PyProof.Rows L2
abbrev FUEL1 : Nat := 100
abbrev FUEL : Nat := 101
theorem law_sp {K : PySem.W.Frag} : ∀ vs H Q E, spLaw K vs H Q E → spF K (F_law FUEL) vs H Q E := sp_of fun ns => law_true ns FUEL1 (Nat.le_refl _)
def top (i : Nat) : Stmt := PySem.Challenge.pw_fewpans_k22_whole_cores_are_full.main.body.getD i (.Pass ⟨0, 0, 0, 0⟩)
section
variable {P : Program} {w : World} {K : PySem.W.Frag} {mg : Str → Option Value} {base : Heap} {f : Addr} {fd : FuncData} {n : Nat}
abbrev st_need : Stmt := top 1
abbrev st_full_within : Stmt := top 3
abbrev st_full : Stmt := top 2
abbrev st_is_core : Stmt := top 8
abbrev st_cores_within : Stmt := top 7
abbrev st_cores : Stmt := top 6
abbrev st_spills : Stmt := top 5
abbrev st__law_cell_at : Stmt := top 10
abbrev st__law_mixed : Stmt := top 11
abbrev st__law_drawn : Stmt := top 12
abbrev st__law_tree : Stmt := top 13
abbrev st__law_drawn_tree : Stmt := top 14
abbrev st__law_part : Stmt := top 15
abbrev st__law_addresses : Stmt := top 16
abbrev st__law_is_full : Stmt := top 17
abbrev st__law_has : Stmt := top 18
abbrev st_law : Stmt := top 19
theorem sc_need : FnScope ["tree", "one", "other"] ["tree"] (defScope st_need) := ⟨rfl, rfl, rfl, by decide +kernel, rfl, by decide +kernel, by decide +kernel⟩
set_option maxHeartbeats 40000000 in
theorem ok_need (F : Fun K "need" "need" st_need f fd) (k_need : Kn P w K mg base n "need" ["tree"] (F_need n)) (z_max : mg "max" = none) : FnOk P w K mg base CX0 (n + 1) f fd ["tree"] (spF K (F_need (n + 1))) := by
  have e : F_need (n + 1) = bodyF 3 1 (f_need (F_need n)) := funext (e_need n)
  rw [e]
  refine okF F sc_need fun cdv A outer s H E hr => ?_
  have hu := hr.units
  have nd := sc_need.nd
  exact (fs_cons (fs_if (ft_cmp (op_eqD hu) (fe_ix (fe_var 0) fe_int (fun _ _ => rfl)) fe_str (nomark _))
    (fs_one (fs_ret fe_int))
    fs_nil) (fs_cons (fs_set (i := 1) nd rfl (by first | exact Or.inl rfl | exact Or.inr rfl) (fe_call k_need hr rfl (fa_cons (fe_ix (fe_var 0) fe_int (fun _ _ => rfl)) fa_nil))) (fs_cons (fs_set (i := 2) nd rfl (by first | exact Or.inl rfl | exact Or.inr rfl) (fe_call k_need hr rfl (fa_cons (fe_ix (fe_var 0) fe_int (fun _ _ => rfl)) fa_nil))) (fs_cons (fs_if (ft_cmp (op_eqD hu) (fe_var 1) (fe_var 2) (nomark _))
    (fs_one (fs_ret (fe_op op_addD (fe_var 1) fe_int)))
    fs_nil) (fs_one (fs_ret (fe_blt (cb_max rfl) rfl z_max bt_max (fa_cons (fe_var 1) (fa_cons (fe_var 2) fa_nil)))))))))
theorem sc_full_within : FnScope ["part", "address", "height", "first", "second"] ["part", "address", "height"] (defScope st_full_within) := ⟨rfl, rfl, rfl, by decide +kernel, rfl, by decide +kernel, by decide +kernel⟩
set_option maxHeartbeats 40000000 in
theorem ok_full_within (F : Fun K "full_within" "full_within" st_full_within f fd) (k_need : Kn P w K mg base n "need" ["tree"] (F_need n)) (k_full_within : Kn P w K mg base n "full_within" ["part", "address", "height"] (F_full_within n)) : FnOk P w K mg base CX0 (n + 1) f fd ["part", "address", "height"] (spF K (F_full_within (n + 1))) := by
  have e : F_full_within (n + 1) = bodyF 5 3 (f_full_within (F_need n) (F_full_within n)) := funext (e_full_within n)
  rw [e]
  refine okF F sc_full_within fun cdv A outer s H E hr => ?_
  have hu := hr.units
  have nd := sc_full_within.nd
  exact (fs_cons (fs_if (ft_cmp (op_eqD hu) (fe_var 2) fe_int (nomark _))
    (fs_one (fs_ret (fe_tup (fa_cons (fe_var 1) fa_nil))))
    fs_nil) (fs_cons (fs_if (ft_cmp (op_gtD) (fe_call k_need hr rfl (fa_cons (fe_ix (fe_var 0) fe_int (fun _ _ => rfl)) fa_nil)) (fe_var 2) (nomark _))
    (fs_one (fs_ret (fe_call k_full_within hr rfl (fa_cons (fe_ix (fe_var 0) fe_int (fun _ _ => rfl)) (fa_cons (fe_op op_addD (fe_var 1) fe_str) (fa_cons (fe_var 2) fa_nil))))))
    fs_nil) (fs_cons (fs_if (ft_cmp (op_gtD) (fe_call k_need hr rfl (fa_cons (fe_ix (fe_var 0) fe_int (fun _ _ => rfl)) fa_nil)) (fe_var 2) (nomark _))
    (fs_one (fs_ret (fe_call k_full_within hr rfl (fa_cons (fe_ix (fe_var 0) fe_int (fun _ _ => rfl)) (fa_cons (fe_op op_addD (fe_var 1) fe_str) (fa_cons (fe_var 2) fa_nil))))))
    fs_nil) (fs_cons (fs_set (i := 3) nd rfl (by first | exact Or.inl rfl | exact Or.inr rfl) (fe_call k_full_within hr rfl (fa_cons (fe_ix (fe_var 0) fe_int (fun _ _ => rfl)) (fa_cons (fe_op op_addD (fe_var 1) fe_str) (fa_cons (fe_op op_subD (fe_var 2) fe_int) fa_nil))))) (fs_cons (fs_set (i := 4) nd rfl (by first | exact Or.inl rfl | exact Or.inr rfl) (fe_call k_full_within hr rfl (fa_cons (fe_ix (fe_var 0) fe_int (fun _ _ => rfl)) (fa_cons (fe_op op_addD (fe_var 1) fe_str) (fa_cons (fe_op op_subD (fe_var 2) fe_int) fa_nil))))) (fs_one (fs_ret (fe_tup (fa_cons (fe_var 1) (fa_cons (fe_var 3) (fa_cons (fe_var 4) fa_nil)))))))))))
theorem sc_full : FnScope ["tree", "height"] ["tree", "height"] (defScope st_full) := ⟨rfl, rfl, rfl, by decide +kernel, rfl, by decide +kernel, by decide +kernel⟩
set_option maxHeartbeats 40000000 in
theorem ok_full (F : Fun K "full" "full" st_full f fd) (k_need : Kn P w K mg base n "need" ["tree"] (F_need n)) (k_full_within : Kn P w K mg base n "full_within" ["part", "address", "height"] (F_full_within n)) : FnOk P w K mg base CX0 (n + 1) f fd ["tree", "height"] (spF K (F_full (n + 1))) := by
  have e : F_full (n + 1) = bodyF 2 2 (f_full (F_need n) (F_full_within n)) := funext (e_full n)
  rw [e]
  refine okF F sc_full fun cdv A outer s H E hr => ?_
  have hu := hr.units
  have nd := sc_full.nd
  exact (fs_cons (fs_if (FWx.pt (fw_or (ft_cmp (op_ltD) (fe_var 1) fe_int (nomark _)) (fw_or1 (ft_cmp (op_leD) (fe_call k_need hr rfl (fa_cons (fe_var 0) fa_nil)) (fe_var 1) (nomark _)))))
    (fs_one (fs_ret fe_non))
    fs_nil) (fs_one (fs_ret (fe_call k_full_within hr rfl (fa_cons (fe_var 0) (fa_cons fe_str (fa_cons (fe_var 1) fa_nil)))))))
theorem sc_is_core : FnScope ["part", "pans"] ["part", "pans"] (defScope st_is_core) := ⟨rfl, rfl, rfl, by decide +kernel, rfl, by decide +kernel, by decide +kernel⟩
set_option maxHeartbeats 40000000 in
theorem ok_is_core (F : Fun K "is_core" "is_core" st_is_core f fd) (k_need : Kn P w K mg base n "need" ["tree"] (F_need n)) : FnOk P w K mg base CX0 (n + 1) f fd ["part", "pans"] (spF K (F_is_core (n + 1))) := by
  have e : F_is_core (n + 1) = bodyF 2 2 (f_is_core (F_need n)) := funext (e_is_core n)
  rw [e]
  refine okF F sc_is_core fun cdv A outer s H E hr => ?_
  have hu := hr.units
  have nd := sc_is_core.nd
  exact (fs_one (fs_ret (fe_and (fe_cmp (op_geD) (fe_call k_need hr rfl (fa_cons (fe_ix (fe_var 0) fe_int (fun _ _ => rfl)) fa_nil)) (fe_var 1) (nomark _)) (fe_one (fe_cmp (op_geD) (fe_call k_need hr rfl (fa_cons (fe_ix (fe_var 0) fe_int (fun _ _ => rfl)) fa_nil)) (fe_var 1) (nomark _))))))
theorem sc_cores_within : FnScope ["part", "address", "pans", "here"] ["part", "address", "pans"] (defScope st_cores_within) := ⟨rfl, rfl, rfl, by decide +kernel, rfl, by decide +kernel, by decide +kernel⟩
set_option maxHeartbeats 40000000 in
theorem ok_cores_within (F : Fun K "cores_within" "cores_within" st_cores_within f fd) (k_is_core : Kn P w K mg base n "is_core" ["part", "pans"] (F_is_core n)) (k_cores_within : Kn P w K mg base n "cores_within" ["part", "address", "pans"] (F_cores_within n)) : FnOk P w K mg base CX0 (n + 1) f fd ["part", "address", "pans"] (spF K (F_cores_within (n + 1))) := by
  have e : F_cores_within (n + 1) = bodyF 4 3 (f_cores_within (F_is_core n) (F_cores_within n)) := funext (e_cores_within n)
  rw [e]
  refine okF F sc_cores_within fun cdv A outer s H E hr => ?_
  have hu := hr.units
  have nd := sc_cores_within.nd
  exact (fs_cons (fs_if (ft_cmp (op_eqD hu) (fe_ix (fe_var 0) fe_int (fun _ _ => rfl)) fe_str (nomark _))
    (fs_one (fs_ret (fe_lst fa_nil)))
    fs_nil) (fs_cons (fs_set (i := 3) nd rfl (by first | exact Or.inl rfl | exact Or.inr rfl) (fe_ifExp (ft_val (fe_call k_is_core hr rfl (fa_cons (fe_var 0) (fa_cons (fe_var 2) fa_nil)))) (fe_lst (fa_cons (fe_var 1) fa_nil)) (fe_lst fa_nil))) (fs_one (fs_ret (fe_op op_addD (fe_op op_addD (fe_var 3) (fe_call k_cores_within hr rfl (fa_cons (fe_ix (fe_var 0) fe_int (fun _ _ => rfl)) (fa_cons (fe_op op_addD (fe_var 1) fe_str) (fa_cons (fe_var 2) fa_nil))))) (fe_call k_cores_within hr rfl (fa_cons (fe_ix (fe_var 0) fe_int (fun _ _ => rfl)) (fa_cons (fe_op op_addD (fe_var 1) fe_str) (fa_cons (fe_var 2) fa_nil)))))))))
theorem sc_cores : FnScope ["tree", "pans"] ["tree", "pans"] (defScope st_cores) := ⟨rfl, rfl, rfl, by decide +kernel, rfl, by decide +kernel, by decide +kernel⟩
set_option maxHeartbeats 40000000 in
theorem ok_cores (F : Fun K "cores" "cores" st_cores f fd) (k_cores_within : Kn P w K mg base n "cores_within" ["part", "address", "pans"] (F_cores_within n)) (z_tuple : mg "tuple" = none) : FnOk P w K mg base CX0 (n + 1) f fd ["tree", "pans"] (spF K (F_cores (n + 1))) := by
  have e : F_cores (n + 1) = bodyF 2 2 (f_cores (F_cores_within n)) := funext (e_cores n)
  rw [e]
  refine okF F sc_cores fun cdv A outer s H E hr => ?_
  have hu := hr.units
  have nd := sc_cores.nd
  exact (fs_one (fs_ret (fe_typ cb_tuple rfl z_tuple bt_tuple (fa_cons (fe_call k_cores_within hr rfl (fa_cons (fe_var 0) (fa_cons fe_str (fa_cons (fe_var 1) fa_nil)))) fa_nil))))
theorem sc_spills : FnScope ["tree", "pans"] ["tree", "pans"] (defScope st_spills) := ⟨rfl, rfl, rfl, by decide +kernel, rfl, by decide +kernel, by decide +kernel⟩
set_option maxHeartbeats 40000000 in
theorem ok_spills (F : Fun K "spills" "spills" st_spills f fd) (k_cores : Kn P w K mg base n "cores" ["tree", "pans"] (F_cores n)) (z_len : mg "len" = none) : FnOk P w K mg base CX0 (n + 1) f fd ["tree", "pans"] (spF K (F_spills (n + 1))) := by
  have e : F_spills (n + 1) = bodyF 2 2 (f_spills (F_cores n)) := funext (e_spills n)
  rw [e]
  refine okF F sc_spills fun cdv A outer s H E hr => ?_
  have hu := hr.units
  have nd := sc_spills.nd
  exact (fs_one (fs_ret (fe_blt cb_len rfl z_len bt_len (fa_cons (fe_call k_cores hr rfl (fa_cons (fe_var 0) (fa_cons (fe_var 1) fa_nil))) fa_nil))))
theorem sc__law_cell_at : FnScope ["_law_script", "_law_k"] ["_law_script", "_law_k"] (defScope st__law_cell_at) := ⟨rfl, rfl, rfl, by decide +kernel, rfl, by decide +kernel, by decide +kernel⟩
set_option maxHeartbeats 40000000 in
theorem ok__law_cell_at (F : Fun K "_law_cell_at" "_law_cell_at" st__law_cell_at f fd) (z_len : mg "len" = none) : FnOk P w K mg base CX0 (n + 1) f fd ["_law_script", "_law_k"] (spF K (F__law_cell_at (n + 1))) := by
  have e : F__law_cell_at (n + 1) = bodyF 2 2 (f__law_cell_at ) := funext (e__law_cell_at n)
  rw [e]
  refine okF F sc__law_cell_at fun cdv A outer s H E hr => ?_
  have hu := hr.units
  have nd := sc__law_cell_at.nd
  exact (fs_cons (fs_if (ft_cmp (op_ltD) (fe_var 1) (fe_blt cb_len rfl z_len bt_len (fa_cons (fe_var 0) fa_nil)) (nomark _))
    (fs_one (fs_ret (fe_ix (fe_var 0) (fe_var 1) (fun _ _ => rfl))))
    fs_nil) (fs_one (fs_ret fe_int)))
theorem sc__law_mixed : FnScope ["_law_script", "_law_k", "_law_drawn_here"] ["_law_script", "_law_k"] (defScope st__law_mixed) := ⟨rfl, rfl, rfl, by decide +kernel, rfl, by decide +kernel, by decide +kernel⟩
set_option maxHeartbeats 40000000 in
theorem ok__law_mixed (F : Fun K "_law_mixed" "_law_mixed" st__law_mixed f fd) (k__law_cell_at : Kn P w K mg base n "_law_cell_at" ["_law_script", "_law_k"] (F__law_cell_at n)) : FnOk P w K mg base CX0 (n + 1) f fd ["_law_script", "_law_k"] (spF K (F__law_mixed (n + 1))) := by
  have e : F__law_mixed (n + 1) = bodyF 3 2 (f__law_mixed (F__law_cell_at n)) := funext (e__law_mixed n)
  rw [e]
  refine okF F sc__law_mixed fun cdv A outer s H E hr => ?_
  have hu := hr.units
  have nd := sc__law_mixed.nd
  exact (fs_cons (fs_set (i := 2) nd rfl (by first | exact Or.inl rfl | exact Or.inr rfl) (fe_op op_modD (fe_op op_mulD (fe_op op_addD (fe_op op_addD (fe_call k__law_cell_at hr rfl (fa_cons (fe_var 0) (fa_cons (fe_var 1) fa_nil))) (fe_op op_mulD fe_int (fe_var 1))) fe_int) fe_int) fe_int)) (fs_one (fs_ret (fe_op op_modD (fe_op op_addD (fe_op op_addD (fe_op op_mulD (fe_var 2) (fe_var 2)) (fe_op op_mulD fe_int (fe_var 2))) (fe_var 1)) fe_int))))
theorem sc__law_drawn : FnScope ["_law_number", "_law_k", "_law_drawn_here"] ["_law_number", "_law_k"] (defScope st__law_drawn) := ⟨rfl, rfl, rfl, by decide +kernel, rfl, by decide +kernel, by decide +kernel⟩
set_option maxHeartbeats 40000000 in
theorem ok__law_drawn (F : Fun K "_law_drawn" "_law_drawn" st__law_drawn f fd)  : FnOk P w K mg base CX0 (n + 1) f fd ["_law_number", "_law_k"] (spF K (F__law_drawn (n + 1))) := by
  have e : F__law_drawn (n + 1) = bodyF 3 2 (f__law_drawn ) := funext (e__law_drawn n)
  rw [e]
  refine okF F sc__law_drawn fun cdv A outer s H E hr => ?_
  have hu := hr.units
  have nd := sc__law_drawn.nd
  exact (fs_cons (fs_set (i := 2) nd rfl (by first | exact Or.inl rfl | exact Or.inr rfl) (fe_op op_modD (fe_op op_mulD (fe_op op_addD (fe_op op_addD (fe_var 0) (fe_op op_mulD fe_int (fe_var 1))) fe_int) fe_int) fe_int)) (fs_one (fs_ret (fe_op op_modD (fe_op op_addD (fe_op op_addD (fe_op op_mulD (fe_var 2) (fe_var 2)) (fe_op op_mulD fe_int (fe_var 2))) (fe_var 1)) fe_int))))
theorem sc__law_tree : FnScope ["_law_number", "_law_many", "_law_kind", "_law_first", "_law_one", "_law_other"] ["_law_number", "_law_many", "_law_kind"] (defScope st__law_tree) := ⟨rfl, rfl, rfl, by decide +kernel, rfl, by decide +kernel, by decide +kernel⟩
set_option maxHeartbeats 40000000 in
theorem ok__law_tree (F : Fun K "_law_tree" "_law_tree" st__law_tree f fd) (k__law_drawn : Kn P w K mg base n "_law_drawn" ["_law_number", "_law_k"] (F__law_drawn n)) (k__law_tree : Kn P w K mg base n "_law_tree" ["_law_number", "_law_many", "_law_kind"] (F__law_tree n)) : FnOk P w K mg base CX0 (n + 1) f fd ["_law_number", "_law_many", "_law_kind"] (spF K (F__law_tree (n + 1))) := by
  have e : F__law_tree (n + 1) = bodyF 6 3 (f__law_tree (F__law_drawn n) (F__law_tree n)) := funext (e__law_tree n)
  rw [e]
  refine okF F sc__law_tree fun cdv A outer s H E hr => ?_
  have hu := hr.units
  have nd := sc__law_tree.nd
  exact (fs_cons (fs_if (ft_cmp (op_eqD hu) (fe_var 1) fe_int (nomark _))
    (fs_one (fs_ret (fe_tup (fa_cons fe_str (fa_cons (fe_op op_subD (fe_op op_modD (fe_op op_fdivD (fe_call k__law_drawn hr rfl (fa_cons (fe_var 0) (fa_cons fe_int fa_nil))) fe_int) (fe_ix (fe_tup (fa_cons fe_int (fa_cons fe_int fa_nil))) (fe_op op_modD (fe_op op_fdivD (fe_var 0) fe_int) fe_int) (fun _ _ => rfl))) (fe_ix (fe_tup (fa_cons fe_int (fa_cons fe_int fa_nil))) (fe_op op_modD (fe_op op_fdivD (fe_var 0) fe_int) fe_int) (fun _ _ => rfl))) fa_nil)))))
    fs_nil) (fs_cons (fs_set (i := 3) nd rfl (by first | exact Or.inl rfl | exact Or.inr rfl) (fe_op op_addD fe_int (fe_op op_modD (fe_op op_fdivD (fe_var 0) fe_int) (fe_op op_subD (fe_var 1) fe_int)))) (fs_cons (fs_if (FWx.pt (fw_or (ft_cmp (op_eqD hu) (fe_var 2) fe_int (nomark _)) (fw_or1 (FWx.pt (fw_and (ft_cmp (op_eqD hu) (fe_var 2) fe_int (nomark _)) (fw_and1 (ft_cmp (op_eqD hu) (fe_op op_modD (fe_var 0) fe_int) fe_int (nomark _))))))))
    (fs_one (fs_set (i := 3) nd rfl (by first | exact Or.inl rfl | exact Or.inr rfl) (fe_op op_fdivD (fe_var 1) fe_int)))
    fs_nil) (fs_cons (fs_if (ft_cmp (op_eqD hu) (fe_var 2) fe_int (nomark _))
    (fs_one (fs_set (i := 3) nd rfl (by first | exact Or.inl rfl | exact Or.inr rfl) (fe_ix (fe_lst (fa_cons fe_int (fa_cons (fe_op op_subD (fe_var 1) fe_int) fa_nil))) (fe_op op_modD (fe_op op_fdivD (fe_var 0) fe_int) fe_int) (fun _ _ => rfl))))
    fs_nil) (fs_cons (fs_set (i := 4) nd rfl (by first | exact Or.inl rfl | exact Or.inr rfl) (fe_call k__law_tree hr rfl (fa_cons (fe_call k__law_drawn hr rfl (fa_cons (fe_var 0) (fa_cons fe_int fa_nil))) (fa_cons (fe_var 3) (fa_cons (fe_var 2) fa_nil))))) (fs_cons (fs_set (i := 5) nd rfl (by first | exact Or.inl rfl | exact Or.inr rfl) (fe_call k__law_tree hr rfl (fa_cons (fe_call k__law_drawn hr rfl (fa_cons (fe_var 0) (fa_cons fe_int fa_nil))) (fa_cons (fe_op op_subD (fe_var 1) (fe_var 3)) (fa_cons (fe_var 2) fa_nil))))) (fs_one (fs_ret (fe_tup (fa_cons (fe_ix (fe_tup (fa_cons fe_str (fa_cons fe_str (fa_cons fe_str fa_nil)))) (fe_op op_modD (fe_op op_fdivD (fe_var 0) fe_int) fe_int) (fun _ _ => rfl)) (fa_cons (fe_var 4) (fa_cons (fe_var 5) fa_nil))))))))))))
theorem sc__law_drawn_tree : FnScope ["_law_number"] ["_law_number"] (defScope st__law_drawn_tree) := ⟨rfl, rfl, rfl, by decide +kernel, rfl, by decide +kernel, by decide +kernel⟩
set_option maxHeartbeats 40000000 in
theorem ok__law_drawn_tree (F : Fun K "_law_drawn_tree" "_law_drawn_tree" st__law_drawn_tree f fd) (k__law_tree : Kn P w K mg base n "_law_tree" ["_law_number", "_law_many", "_law_kind"] (F__law_tree n)) : FnOk P w K mg base CX0 (n + 1) f fd ["_law_number"] (spF K (F__law_drawn_tree (n + 1))) := by
  have e : F__law_drawn_tree (n + 1) = bodyF 1 1 (f__law_drawn_tree (F__law_tree n)) := funext (e__law_drawn_tree n)
  rw [e]
  refine okF F sc__law_drawn_tree fun cdv A outer s H E hr => ?_
  have hu := hr.units
  have nd := sc__law_drawn_tree.nd
  exact (fs_one (fs_ret (fe_call k__law_tree hr rfl (fa_cons (fe_op op_fdivD (fe_var 0) fe_int) (fa_cons (fe_ix (fe_tup (fa_cons fe_int (fa_cons fe_int (fa_cons fe_int (fa_cons (fe_op op_addD fe_int (fe_op op_modD (fe_op op_fdivD (fe_var 0) fe_int) fe_int)) fa_nil))))) (fe_op op_modD (fe_op op_fdivD (fe_var 0) fe_int) fe_int) (fun _ _ => rfl)) (fa_cons (fe_op op_modD (fe_var 0) fe_int) fa_nil))))))
theorem sc__law_part : FnScope ["_law_tree_here", "_law_address", "_law_here", "_law_sign"] ["_law_tree_here", "_law_address"] (defScope st__law_part) := ⟨rfl, rfl, rfl, by decide +kernel, rfl, by decide +kernel, by decide +kernel⟩
set_option maxHeartbeats 40000000 in
theorem ok__law_part (F : Fun K "_law_part" "_law_part" st__law_part f fd)  : FnOk P w K mg base CX0 (n + 1) f fd ["_law_tree_here", "_law_address"] (spF K (F__law_part (n + 1))) := by
  have e : F__law_part (n + 1) = bodyF 4 2 (f__law_part ) := funext (e__law_part n)
  rw [e]
  refine okF F sc__law_part fun cdv A outer s H E hr => ?_
  have hu := hr.units
  have nd := sc__law_part.nd
  exact (fs_cons (fs_set (i := 2) nd rfl (by first | exact Or.inl rfl | exact Or.inr rfl) (fe_var 0)) (fs_cons (fs_forStr (i := 3) nd rfl (by first | exact Or.inl rfl | exact Or.inr rfl) (fe_var 1)
    (fs_cons (fs_if (FWx.pt (fw_or (ft_cmp (op_eqD hu) (fe_ix (fe_var 2) fe_int (fun _ _ => rfl)) fe_str (nomark _)) (fw_or1 (ft_cmp (op_ltD) (fe_find fe_str (fe_var 3)) fe_int (nomark _)))))
    (fs_one (fs_ret fe_non))
    fs_nil) (fs_one (fs_set (i := 2) nd rfl (by first | exact Or.inl rfl | exact Or.inr rfl) (fe_ix (fe_var 2) (fe_op op_addD (fe_find fe_str (fe_var 3)) fe_int) (fun _ _ => rfl)))))) (fs_one (fs_ret (fe_var 2)))))
theorem sc__law_addresses : FnScope ["_law_tree_here", "_law_address"] ["_law_tree_here", "_law_address"] (defScope st__law_addresses) := ⟨rfl, rfl, rfl, by decide +kernel, rfl, by decide +kernel, by decide +kernel⟩
set_option maxHeartbeats 40000000 in
theorem ok__law_addresses (F : Fun K "_law_addresses" "_law_addresses" st__law_addresses f fd) (k__law_addresses : Kn P w K mg base n "_law_addresses" ["_law_tree_here", "_law_address"] (F__law_addresses n)) : FnOk P w K mg base CX0 (n + 1) f fd ["_law_tree_here", "_law_address"] (spF K (F__law_addresses (n + 1))) := by
  have e : F__law_addresses (n + 1) = bodyF 2 2 (f__law_addresses (F__law_addresses n)) := funext (e__law_addresses n)
  rw [e]
  refine okF F sc__law_addresses fun cdv A outer s H E hr => ?_
  have hu := hr.units
  have nd := sc__law_addresses.nd
  exact (fs_cons (fs_if (ft_cmp (op_eqD hu) (fe_ix (fe_var 0) fe_int (fun _ _ => rfl)) fe_str (nomark _))
    (fs_one (fs_ret (fe_lst (fa_cons (fe_var 1) fa_nil))))
    fs_nil) (fs_one (fs_ret (fe_op op_addD (fe_op op_addD (fe_lst (fa_cons (fe_var 1) fa_nil)) (fe_call k__law_addresses hr rfl (fa_cons (fe_ix (fe_var 0) fe_int (fun _ _ => rfl)) (fa_cons (fe_op op_addD (fe_var 1) fe_str) fa_nil)))) (fe_call k__law_addresses hr rfl (fa_cons (fe_ix (fe_var 0) fe_int (fun _ _ => rfl)) (fa_cons (fe_op op_addD (fe_var 1) fe_str) fa_nil)))))))
theorem sc__law_is_full : FnScope ["_law_tree_here", "_law_thing", "_law_height", "_law_ahead"] ["_law_tree_here", "_law_thing", "_law_height", "_law_ahead"] (defScope st__law_is_full) := ⟨rfl, rfl, rfl, by decide +kernel, rfl, by decide +kernel, by decide +kernel⟩
set_option maxHeartbeats 40000000 in
theorem ok__law_is_full (F : Fun K "_law_is_full" "_law_is_full" st__law_is_full f fd) (k__law_part : Kn P w K mg base n "_law_part" ["_law_tree_here", "_law_address"] (F__law_part n)) (k__law_is_full : Kn P w K mg base n "_law_is_full" ["_law_tree_here", "_law_thing", "_law_height", "_law_ahead"] (F__law_is_full n)) (z_isinstance : mg "isinstance" = none) (z_tuple : mg "tuple" = none) (z_len : mg "len" = none) (z_int : mg "int" = none) (z_str : mg "str" = none) : FnOk P w K mg base CX0 (n + 1) f fd ["_law_tree_here", "_law_thing", "_law_height", "_law_ahead"] (spF K (F__law_is_full (n + 1))) := by
  have e : F__law_is_full (n + 1) = bodyF 4 4 (f__law_is_full (F__law_part n) (F__law_is_full n)) := funext (e__law_is_full n)
  rw [e]
  refine okF F sc__law_is_full fun cdv A outer s H E hr => ?_
  have hu := hr.units
  have nd := sc__law_is_full.nd
  exact (fs_cons (fs_if (FWx.pt (fw_or (ft_not (ft_val (fe_isi kit_tup bt_isinstance bt_tuple rfl z_isinstance rfl z_tuple (fe_var 1) (by decide) (by decide) (by decide) (by decide) rfl rfl rfl))) (fw_or (ft_cmp (op_neD hu) (fe_blt cb_len rfl z_len bt_len (fa_cons (fe_var 1) fa_nil)) (fe_ix (fe_lst (fa_cons fe_int (fa_cons fe_int fa_nil))) (fe_typ cb_int rfl z_int bt_int (fa_cons (fe_cmp (op_eqD hu) (fe_var 2) fe_int (nomark _)) fa_nil)) (fun _ _ => rfl)) (nomark _)) (fw_or1 (ft_not (ft_val (fe_isi kit_str bt_isinstance bt_str rfl z_isinstance rfl z_str (fe_ix (fe_var 1) fe_int (fun _ _ => rfl)) (by decide) (by decide) (by decide) (by decide) rfl rfl rfl)))))))
    (fs_one (fs_ret fe_bl))
    fs_nil) (fs_cons (fs_if (FWx.pt (fw_or (ft_not (ft_val (fe_startswith (fe_ix (fe_var 1) fe_int (fun _ _ => rfl)) (fe_var 3)))) (fw_or1 (ft_isN (fe_call k__law_part hr rfl (fa_cons (fe_var 0) (fa_cons (fe_ix (fe_var 1) fe_int (fun _ _ => rfl)) fa_nil)))))))
    (fs_one (fs_ret fe_bl))
    fs_nil) (fs_cons (fs_if (ft_cmp (op_eqD hu) (fe_var 2) fe_int (nomark _))
    (fs_one (fs_ret fe_bl))
    fs_nil) (fs_cons (fs_if (ft_not (ft_val (fe_call k__law_is_full hr rfl (fa_cons (fe_var 0) (fa_cons (fe_ix (fe_var 1) fe_int (fun _ _ => rfl)) (fa_cons (fe_op op_subD (fe_var 2) fe_int) (fa_cons (fe_op op_addD (fe_ix (fe_var 1) fe_int (fun _ _ => rfl)) fe_str) fa_nil)))))))
    (fs_one (fs_ret fe_bl))
    fs_nil) (fs_one (fs_ret (fe_call k__law_is_full hr rfl (fa_cons (fe_var 0) (fa_cons (fe_ix (fe_var 1) fe_int (fun _ _ => rfl)) (fa_cons (fe_op op_subD (fe_var 2) fe_int) (fa_cons (fe_op op_addD (fe_ix (fe_var 1) fe_int (fun _ _ => rfl)) fe_str) fa_nil)))))))))))
theorem sc__law_has : FnScope ["_law_tree_here", "_law_height", "_law_some"] ["_law_tree_here", "_law_height"] (defScope st__law_has) := ⟨rfl, rfl, rfl, by decide +kernel, rfl, by decide +kernel, by decide +kernel⟩
set_option maxHeartbeats 40000000 in
theorem ok__law_has (F : Fun K "_law_has" "_law_has" st__law_has f fd) (k_full : Kn P w K mg base n "full" ["tree", "height"] (F_full n)) (k__law_is_full : Kn P w K mg base n "_law_is_full" ["_law_tree_here", "_law_thing", "_law_height", "_law_ahead"] (F__law_is_full n)) (z_int : mg "int" = none) : FnOk P w K mg base CX0 (n + 1) f fd ["_law_tree_here", "_law_height"] (spF K (F__law_has (n + 1))) := by
  have e : F__law_has (n + 1) = bodyF 3 2 (f__law_has (F_full n) (F__law_is_full n)) := funext (e__law_has n)
  rw [e]
  refine okF F sc__law_has fun cdv A outer s H E hr => ?_
  have hu := hr.units
  have nd := sc__law_has.nd
  exact (fs_cons (fs_set (i := 2) nd rfl (by first | exact Or.inl rfl | exact Or.inr rfl) (fe_call k_full hr rfl (fa_cons (fe_var 0) (fa_cons (fe_var 1) fa_nil)))) (fs_cons (fs_if (ft_isN (fe_var 2))
    (fs_one (fs_ret fe_bl))
    fs_nil) (fs_one (fs_ret (fe_ix (fe_lst (fa_cons (fe_tup fa_nil) (fa_cons fe_bl fa_nil))) (fe_typ cb_int rfl z_int bt_int (fa_cons (fe_call k__law_is_full hr rfl (fa_cons (fe_var 0) (fa_cons (fe_var 2) (fa_cons (fe_var 1) (fa_cons fe_str fa_nil))))) fa_nil)) (fun _ _ => rfl))))))
theorem sc_law : FnScope ["_law_script", "_law_tree_here", "_law_pans", "_law_some", "_law_address", "_law_part_here", "_law_both"] ["_law_script"] (defScope st_law) := ⟨rfl, rfl, rfl, by decide +kernel, rfl, by decide +kernel, by decide +kernel⟩
set_option maxHeartbeats 40000000 in
theorem ok_law (F : Fun K "law" "law" st_law f fd) (k__law_mixed : Kn P w K mg base n "_law_mixed" ["_law_script", "_law_k"] (F__law_mixed n)) (k__law_drawn_tree : Kn P w K mg base n "_law_drawn_tree" ["_law_number"] (F__law_drawn_tree n)) (k_cores : Kn P w K mg base n "cores" ["tree", "pans"] (F_cores n)) (k_spills : Kn P w K mg base n "spills" ["tree", "pans"] (F_spills n)) (k__law_addresses : Kn P w K mg base n "_law_addresses" ["_law_tree_here", "_law_address"] (F__law_addresses n)) (k__law_part : Kn P w K mg base n "_law_part" ["_law_tree_here", "_law_address"] (F__law_part n)) (k__law_has : Kn P w K mg base n "_law_has" ["_law_tree_here", "_law_height"] (F__law_has n)) (z_isinstance : mg "isinstance" = none) (z_tuple : mg "tuple" = none) (z_list : mg "list" = none) (z_sorted : mg "sorted" = none) (z_set : mg "set" = none) (z_len : mg "len" = none) : FnOk P w K mg base CX0 (n + 1) f fd ["_law_script"] (spF K (F_law (n + 1))) := by
  have e : F_law (n + 1) = bodyF 7 1 (f_law (F__law_mixed n) (F__law_drawn_tree n) (F_cores n) (F_spills n) (F__law_addresses n) (F__law_part n) (F__law_has n)) := funext (e_law n)
  rw [e]
  refine okF F sc_law fun cdv A outer s H E hr => ?_
  have hu := hr.units
  have nd := sc_law.nd
  exact (fs_cons (fs_set (i := 1) nd rfl (by first | exact Or.inl rfl | exact Or.inr rfl) (fe_call k__law_drawn_tree hr rfl (fa_cons (fe_call k__law_mixed hr rfl (fa_cons (fe_var 0) (fa_cons fe_int fa_nil))) fa_nil))) (fs_cons (fs_set (i := 2) nd rfl (by first | exact Or.inl rfl | exact Or.inr rfl) (fe_op op_addD fe_int (fe_op op_modD (fe_call k__law_mixed hr rfl (fa_cons (fe_var 0) (fa_cons fe_int fa_nil))) fe_int))) (fs_cons (fs_if (ft_cmp (op_eqD hu) (fe_op op_modD (fe_call k__law_mixed hr rfl (fa_cons (fe_var 0) (fa_cons fe_int fa_nil))) fe_int) fe_int (nomark _))
    (fs_one (fs_set (i := 2) nd rfl (by first | exact Or.inl rfl | exact Or.inr rfl) fe_int))
    fs_nil) (fs_cons (fs_set (i := 3) nd rfl (by first | exact Or.inl rfl | exact Or.inr rfl) (fe_call k_cores hr rfl (fa_cons (fe_var 1) (fa_cons (fe_var 2) fa_nil)))) (fs_cons (fs_if (FWx.pt (fw_or (ft_not (ft_val (fe_isi kit_tup bt_isinstance bt_tuple rfl z_isinstance rfl z_tuple (fe_var 3) (by decide) (by decide) (by decide) (by decide) rfl rfl rfl))) (fw_or (ft_cmp (op_neD hu) (fe_typ cb_list rfl z_list bt_list (fa_cons (fe_var 3) fa_nil)) (fe_sortedSet rfl z_sorted rfl z_set (fe_var 3)) (nomark _)) (fw_or1 (ft_cmp (op_neD hu) (fe_call k_spills hr rfl (fa_cons (fe_var 1) (fa_cons (fe_var 2) fa_nil))) (fe_blt cb_len rfl z_len bt_len (fa_cons (fe_var 3) fa_nil)) (nomark _))))))
    (fs_one (fs_ret fe_bl))
    fs_nil) (fs_cons (fs_forSeq (i := 4) nd rfl (by first | exact Or.inl rfl | exact Or.inr rfl) (fe_call k__law_addresses hr rfl (fa_cons (fe_var 1) (fa_cons fe_str fa_nil)))
    (fs_cons (fs_set (i := 5) nd rfl (by first | exact Or.inl rfl | exact Or.inr rfl) (fe_call k__law_part hr rfl (fa_cons (fe_var 1) (fa_cons (fe_var 4) fa_nil)))) (fs_one (fs_if (ft_cmp (op_neD hu) (fe_ix (fe_var 5) fe_int (fun _ _ => rfl)) fe_str (nomark _))
    (fs_cons (fs_set (i := 6) nd rfl (by first | exact Or.inl rfl | exact Or.inr rfl) (fe_lst (fa_cons (fe_call k__law_has hr rfl (fa_cons (fe_ix (fe_var 5) fe_int (fun _ _ => rfl)) (fa_cons (fe_op op_subD (fe_var 2) fe_int) fa_nil))) (fa_cons (fe_call k__law_has hr rfl (fa_cons (fe_ix (fe_var 5) fe_int (fun _ _ => rfl)) (fa_cons (fe_op op_subD (fe_var 2) fe_int) fa_nil))) fa_nil)))) (fs_one (fs_if (FWx.pt (fw_or (ft_cmp (op_inD hu) (fe_tup fa_nil) (fe_var 6) (by with_unfolding_all rfl)) (fw_or1 (ft_cmp (op_neD hu) (fe_cmp (op_inD hu) (fe_var 4) (fe_var 3) (by with_unfolding_all rfl)) (fe_cmp (op_notInD hu) fe_bl (fe_var 6) (by with_unfolding_all rfl)) (nomark _)))))
    (fs_one (fs_ret fe_bl))
    fs_nil)))
    fs_nil)))) (fs_one (fs_ret (fe_cmp (op_eqD hu) (fe_comp (x := "_law_address") (fr := ["_law_tree_here"]) (caps := [1]) ⟨rfl, by decide +kernel, by decide +kernel, rfl, rfl, rfl, rfl, rfl, by decide +kernel, by with_unfolding_all rfl⟩ (fe_var 3) (fun C s₀ H₀ ex => (ft_isN (fe_call k__law_part hr rfl (fa_cons (fe_var 1) (fa_cons (fe_var 0) fa_nil))))) (fun C s₀ H₀ ex => (fe_var 0))) (fe_lst fa_nil) (nomark _))))))))))
/-- a def of the text as it stands behind the top -/
structure Df (K : PySem.W.Frag) (mg : Str → Option Value) (x : Str) (st : Stmt) (ps : List Str) : Prop where
  ex : ∃ (f : Addr) (fd : FuncData), Fun K x x st f fd ∧ mg x = some (.ref f) ∧ Binds K fd ps []
structure Lv (P : Program) (w : World) (K : PySem.W.Frag) (mg : Str → Option Value) (base : Heap) (n : Nat) : Prop where
  k_need : Kn P w K mg base n "need" ["tree"] (F_need n)
  k_full_within : Kn P w K mg base n "full_within" ["part", "address", "height"] (F_full_within n)
  k_full : Kn P w K mg base n "full" ["tree", "height"] (F_full n)
  k_is_core : Kn P w K mg base n "is_core" ["part", "pans"] (F_is_core n)
  k_cores_within : Kn P w K mg base n "cores_within" ["part", "address", "pans"] (F_cores_within n)
  k_cores : Kn P w K mg base n "cores" ["tree", "pans"] (F_cores n)
  k_spills : Kn P w K mg base n "spills" ["tree", "pans"] (F_spills n)
  k__law_cell_at : Kn P w K mg base n "_law_cell_at" ["_law_script", "_law_k"] (F__law_cell_at n)
  k__law_mixed : Kn P w K mg base n "_law_mixed" ["_law_script", "_law_k"] (F__law_mixed n)
  k__law_drawn : Kn P w K mg base n "_law_drawn" ["_law_number", "_law_k"] (F__law_drawn n)
  k__law_tree : Kn P w K mg base n "_law_tree" ["_law_number", "_law_many", "_law_kind"] (F__law_tree n)
  k__law_drawn_tree : Kn P w K mg base n "_law_drawn_tree" ["_law_number"] (F__law_drawn_tree n)
  k__law_part : Kn P w K mg base n "_law_part" ["_law_tree_here", "_law_address"] (F__law_part n)
  k__law_addresses : Kn P w K mg base n "_law_addresses" ["_law_tree_here", "_law_address"] (F__law_addresses n)
  k__law_is_full : Kn P w K mg base n "_law_is_full" ["_law_tree_here", "_law_thing", "_law_height", "_law_ahead"] (F__law_is_full n)
  k__law_has : Kn P w K mg base n "_law_has" ["_law_tree_here", "_law_height"] (F__law_has n)
  k_law : Kn P w K mg base n "law" ["_law_script"] (F_law n)
theorem kn0 {x : Str} {ps : List Str} {st : Stmt} {F : List D → Option D} (d : Df K mg x st ps) (h : ∀ ds, F ds = none) : Kn P w K mg base 0 x ps F := by
  obtain ⟨f, fd, G, hm, hb⟩ := d.ex
  have no : ∀ vs H Q E, ¬ spF K F vs H Q E := fun vs H Q E h' => by
    obtain ⟨ds, d, _, e, _⟩ := h'
    rw [h ds] at e; cases e
  exact ⟨f, fd, ⟨fun vs H Q E h => absurd h (no vs H Q E), fun A outer s H args us vs Q E _ _ _ _ h => absurd h (no vs H Q E)⟩, hm, G.kp, hb⟩
theorem lv (d_need : Df K mg "need" st_need ["tree"]) (d_full_within : Df K mg "full_within" st_full_within ["part", "address", "height"]) (d_full : Df K mg "full" st_full ["tree", "height"]) (d_is_core : Df K mg "is_core" st_is_core ["part", "pans"]) (d_cores_within : Df K mg "cores_within" st_cores_within ["part", "address", "pans"]) (d_cores : Df K mg "cores" st_cores ["tree", "pans"]) (d_spills : Df K mg "spills" st_spills ["tree", "pans"]) (d__law_cell_at : Df K mg "_law_cell_at" st__law_cell_at ["_law_script", "_law_k"]) (d__law_mixed : Df K mg "_law_mixed" st__law_mixed ["_law_script", "_law_k"]) (d__law_drawn : Df K mg "_law_drawn" st__law_drawn ["_law_number", "_law_k"]) (d__law_tree : Df K mg "_law_tree" st__law_tree ["_law_number", "_law_many", "_law_kind"]) (d__law_drawn_tree : Df K mg "_law_drawn_tree" st__law_drawn_tree ["_law_number"]) (d__law_part : Df K mg "_law_part" st__law_part ["_law_tree_here", "_law_address"]) (d__law_addresses : Df K mg "_law_addresses" st__law_addresses ["_law_tree_here", "_law_address"]) (d__law_is_full : Df K mg "_law_is_full" st__law_is_full ["_law_tree_here", "_law_thing", "_law_height", "_law_ahead"]) (d__law_has : Df K mg "_law_has" st__law_has ["_law_tree_here", "_law_height"]) (d_law : Df K mg "law" st_law ["_law_script"]) (z_max : mg "max" = none) (z_tuple : mg "tuple" = none) (z_len : mg "len" = none) (z_isinstance : mg "isinstance" = none) (z_int : mg "int" = none) (z_str : mg "str" = none) (z_list : mg "list" = none) (z_sorted : mg "sorted" = none) (z_set : mg "set" = none) : ∀ n, Lv P w K mg base n
  | 0 => ⟨kn0 d_need fun _ => rfl, kn0 d_full_within fun _ => rfl, kn0 d_full fun _ => rfl, kn0 d_is_core fun _ => rfl, kn0 d_cores_within fun _ => rfl, kn0 d_cores fun _ => rfl, kn0 d_spills fun _ => rfl, kn0 d__law_cell_at fun _ => rfl, kn0 d__law_mixed fun _ => rfl, kn0 d__law_drawn fun _ => rfl, kn0 d__law_tree fun _ => rfl, kn0 d__law_drawn_tree fun _ => rfl, kn0 d__law_part fun _ => rfl, kn0 d__law_addresses fun _ => rfl, kn0 d__law_is_full fun _ => rfl, kn0 d__law_has fun _ => rfl, kn0 d_law fun _ => rfl⟩
  | n + 1 => by
    have ih := lv d_need d_full_within d_full d_is_core d_cores_within d_cores d_spills d__law_cell_at d__law_mixed d__law_drawn d__law_tree d__law_drawn_tree d__law_part d__law_addresses d__law_is_full d__law_has d_law z_max z_tuple z_len z_isinstance z_int z_str z_list z_sorted z_set n
    obtain ⟨a_need, b_need, u_need, m_need, w_need⟩ := d_need.ex
    obtain ⟨a_full_within, b_full_within, u_full_within, m_full_within, w_full_within⟩ := d_full_within.ex
    obtain ⟨a_full, b_full, u_full, m_full, w_full⟩ := d_full.ex
    obtain ⟨a_is_core, b_is_core, u_is_core, m_is_core, w_is_core⟩ := d_is_core.ex
    obtain ⟨a_cores_within, b_cores_within, u_cores_within, m_cores_within, w_cores_within⟩ := d_cores_within.ex
    obtain ⟨a_cores, b_cores, u_cores, m_cores, w_cores⟩ := d_cores.ex
    obtain ⟨a_spills, b_spills, u_spills, m_spills, w_spills⟩ := d_spills.ex
    obtain ⟨a__law_cell_at, b__law_cell_at, u__law_cell_at, m__law_cell_at, w__law_cell_at⟩ := d__law_cell_at.ex
    obtain ⟨a__law_mixed, b__law_mixed, u__law_mixed, m__law_mixed, w__law_mixed⟩ := d__law_mixed.ex
    obtain ⟨a__law_drawn, b__law_drawn, u__law_drawn, m__law_drawn, w__law_drawn⟩ := d__law_drawn.ex
    obtain ⟨a__law_tree, b__law_tree, u__law_tree, m__law_tree, w__law_tree⟩ := d__law_tree.ex
    obtain ⟨a__law_drawn_tree, b__law_drawn_tree, u__law_drawn_tree, m__law_drawn_tree, w__law_drawn_tree⟩ := d__law_drawn_tree.ex
    obtain ⟨a__law_part, b__law_part, u__law_part, m__law_part, w__law_part⟩ := d__law_part.ex
    obtain ⟨a__law_addresses, b__law_addresses, u__law_addresses, m__law_addresses, w__law_addresses⟩ := d__law_addresses.ex
    obtain ⟨a__law_is_full, b__law_is_full, u__law_is_full, m__law_is_full, w__law_is_full⟩ := d__law_is_full.ex
    obtain ⟨a__law_has, b__law_has, u__law_has, m__law_has, w__law_has⟩ := d__law_has.ex
    obtain ⟨a_law, b_law, u_law, m_law, w_law⟩ := d_law.ex
    exact ⟨⟨a_need, b_need, ok_need u_need ih.k_need z_max, m_need, u_need.kp, w_need⟩, ⟨a_full_within, b_full_within, ok_full_within u_full_within ih.k_need ih.k_full_within, m_full_within, u_full_within.kp, w_full_within⟩, ⟨a_full, b_full, ok_full u_full ih.k_need ih.k_full_within, m_full, u_full.kp, w_full⟩, ⟨a_is_core, b_is_core, ok_is_core u_is_core ih.k_need, m_is_core, u_is_core.kp, w_is_core⟩, ⟨a_cores_within, b_cores_within, ok_cores_within u_cores_within ih.k_is_core ih.k_cores_within, m_cores_within, u_cores_within.kp, w_cores_within⟩, ⟨a_cores, b_cores, ok_cores u_cores ih.k_cores_within z_tuple, m_cores, u_cores.kp, w_cores⟩, ⟨a_spills, b_spills, ok_spills u_spills ih.k_cores z_len, m_spills, u_spills.kp, w_spills⟩, ⟨a__law_cell_at, b__law_cell_at, ok__law_cell_at u__law_cell_at z_len, m__law_cell_at, u__law_cell_at.kp, w__law_cell_at⟩, ⟨a__law_mixed, b__law_mixed, ok__law_mixed u__law_mixed ih.k__law_cell_at, m__law_mixed, u__law_mixed.kp, w__law_mixed⟩, ⟨a__law_drawn, b__law_drawn, ok__law_drawn u__law_drawn , m__law_drawn, u__law_drawn.kp, w__law_drawn⟩, ⟨a__law_tree, b__law_tree, ok__law_tree u__law_tree ih.k__law_drawn ih.k__law_tree, m__law_tree, u__law_tree.kp, w__law_tree⟩, ⟨a__law_drawn_tree, b__law_drawn_tree, ok__law_drawn_tree u__law_drawn_tree ih.k__law_tree, m__law_drawn_tree, u__law_drawn_tree.kp, w__law_drawn_tree⟩, ⟨a__law_part, b__law_part, ok__law_part u__law_part , m__law_part, u__law_part.kp, w__law_part⟩, ⟨a__law_addresses, b__law_addresses, ok__law_addresses u__law_addresses ih.k__law_addresses, m__law_addresses, u__law_addresses.kp, w__law_addresses⟩, ⟨a__law_is_full, b__law_is_full, ok__law_is_full u__law_is_full ih.k__law_part ih.k__law_is_full z_isinstance z_tuple z_len z_int z_str, m__law_is_full, u__law_is_full.kp, w__law_is_full⟩, ⟨a__law_has, b__law_has, ok__law_has u__law_has ih.k_full ih.k__law_is_full z_int, m__law_has, u__law_has.kp, w__law_has⟩, ⟨a_law, b_law, ok_law u_law ih.k__law_mixed ih.k__law_drawn_tree ih.k_cores ih.k_spills ih.k__law_addresses ih.k__law_part ih.k__law_has z_isinstance z_tuple z_list z_sorted z_set z_len, m_law, u_law.kp, w_law⟩⟩
end
theorem all_mk {l : PySem.W.OpenLaw} {w : World} {K : PySem.W.Frag} {h : Heap} {mg : Str → Option Value} {fa : Addr} (X : K.In h) (G : h.Ns mainGlobals mg) (hfa : mg "law" = some (.ref fa))
    {f0 : Addr} {od0 an0 : Option Addr} {sl0 : Array (Option Value)} {oc0 kV0 dc0 pm0 cd0 ct0 : Value} {f1 : Addr} {od1 an1 : Option Addr} {sl1 : Array (Option Value)} {oc1 kV1 dc1 pm1 cd1 ct1 : Value} {f2 : Addr} {od2 an2 : Option Addr} {sl2 : Array (Option Value)} {oc2 kV2 dc2 pm2 cd2 ct2 : Value} {f3 : Addr} {od3 an3 : Option Addr} {sl3 : Array (Option Value)} {oc3 kV3 dc3 pm3 cd3 ct3 : Value} {f4 : Addr} {od4 an4 : Option Addr} {sl4 : Array (Option Value)} {oc4 kV4 dc4 pm4 cd4 ct4 : Value} {f5 : Addr} {od5 an5 : Option Addr} {sl5 : Array (Option Value)} {oc5 kV5 dc5 pm5 cd5 ct5 : Value} {f6 : Addr} {od6 an6 : Option Addr} {sl6 : Array (Option Value)} {oc6 kV6 dc6 pm6 cd6 ct6 : Value} {f7 : Addr} {od7 an7 : Option Addr} {sl7 : Array (Option Value)} {oc7 kV7 dc7 pm7 cd7 ct7 : Value} {f8 : Addr} {od8 an8 : Option Addr} {sl8 : Array (Option Value)} {oc8 kV8 dc8 pm8 cd8 ct8 : Value} {f9 : Addr} {od9 an9 : Option Addr} {sl9 : Array (Option Value)} {oc9 kV9 dc9 pm9 cd9 ct9 : Value} {f10 : Addr} {od10 an10 : Option Addr} {sl10 : Array (Option Value)} {oc10 kV10 dc10 pm10 cd10 ct10 : Value} {f11 : Addr} {od11 an11 : Option Addr} {sl11 : Array (Option Value)} {oc11 kV11 dc11 pm11 cd11 ct11 : Value} {f12 : Addr} {od12 an12 : Option Addr} {sl12 : Array (Option Value)} {oc12 kV12 dc12 pm12 cd12 ct12 : Value} {f13 : Addr} {od13 an13 : Option Addr} {sl13 : Array (Option Value)} {oc13 kV13 dc13 pm13 cd13 ct13 : Value} {f14 : Addr} {od14 an14 : Option Addr} {sl14 : Array (Option Value)} {oc14 kV14 dc14 pm14 cd14 ct14 : Value} {f15 : Addr} {od15 an15 : Option Addr} {sl15 : Array (Option Value)} {oc15 kV15 dc15 pm15 cd15 ct15 : Value} {f16 : Addr} {od16 an16 : Option Addr} {sl16 : Array (Option Value)} {oc16 kV16 dc16 pm16 cd16 ct16 : Value}
    (a0 : PySem.W.nsIn K mainGlobals "need" = some (some (.ref f0))) (l0 : K.lookup f0 = some ⟨oc0, od0, .func (PySem.W.fnOf "need" "need" (defArgs st_need) (defBody st_need) (defScope st_need) .none kV0 dc0 pm0 an0 cd0 ct0), sl0⟩) (c0 : PySem.W.codeIn K cd0 "need" = true) (k0 : PySem.W.keepIn K (.ref f0) = true)
    (a1 : PySem.W.nsIn K mainGlobals "full_within" = some (some (.ref f1))) (l1 : K.lookup f1 = some ⟨oc1, od1, .func (PySem.W.fnOf "full_within" "full_within" (defArgs st_full_within) (defBody st_full_within) (defScope st_full_within) .none kV1 dc1 pm1 an1 cd1 ct1), sl1⟩) (c1 : PySem.W.codeIn K cd1 "full_within" = true) (k1 : PySem.W.keepIn K (.ref f1) = true)
    (a2 : PySem.W.nsIn K mainGlobals "full" = some (some (.ref f2))) (l2 : K.lookup f2 = some ⟨oc2, od2, .func (PySem.W.fnOf "full" "full" (defArgs st_full) (defBody st_full) (defScope st_full) .none kV2 dc2 pm2 an2 cd2 ct2), sl2⟩) (c2 : PySem.W.codeIn K cd2 "full" = true) (k2 : PySem.W.keepIn K (.ref f2) = true)
    (a3 : PySem.W.nsIn K mainGlobals "is_core" = some (some (.ref f3))) (l3 : K.lookup f3 = some ⟨oc3, od3, .func (PySem.W.fnOf "is_core" "is_core" (defArgs st_is_core) (defBody st_is_core) (defScope st_is_core) .none kV3 dc3 pm3 an3 cd3 ct3), sl3⟩) (c3 : PySem.W.codeIn K cd3 "is_core" = true) (k3 : PySem.W.keepIn K (.ref f3) = true)
    (a4 : PySem.W.nsIn K mainGlobals "cores_within" = some (some (.ref f4))) (l4 : K.lookup f4 = some ⟨oc4, od4, .func (PySem.W.fnOf "cores_within" "cores_within" (defArgs st_cores_within) (defBody st_cores_within) (defScope st_cores_within) .none kV4 dc4 pm4 an4 cd4 ct4), sl4⟩) (c4 : PySem.W.codeIn K cd4 "cores_within" = true) (k4 : PySem.W.keepIn K (.ref f4) = true)
    (a5 : PySem.W.nsIn K mainGlobals "cores" = some (some (.ref f5))) (l5 : K.lookup f5 = some ⟨oc5, od5, .func (PySem.W.fnOf "cores" "cores" (defArgs st_cores) (defBody st_cores) (defScope st_cores) .none kV5 dc5 pm5 an5 cd5 ct5), sl5⟩) (c5 : PySem.W.codeIn K cd5 "cores" = true) (k5 : PySem.W.keepIn K (.ref f5) = true)
    (a6 : PySem.W.nsIn K mainGlobals "spills" = some (some (.ref f6))) (l6 : K.lookup f6 = some ⟨oc6, od6, .func (PySem.W.fnOf "spills" "spills" (defArgs st_spills) (defBody st_spills) (defScope st_spills) .none kV6 dc6 pm6 an6 cd6 ct6), sl6⟩) (c6 : PySem.W.codeIn K cd6 "spills" = true) (k6 : PySem.W.keepIn K (.ref f6) = true)
    (a7 : PySem.W.nsIn K mainGlobals "_law_cell_at" = some (some (.ref f7))) (l7 : K.lookup f7 = some ⟨oc7, od7, .func (PySem.W.fnOf "_law_cell_at" "_law_cell_at" (defArgs st__law_cell_at) (defBody st__law_cell_at) (defScope st__law_cell_at) .none kV7 dc7 pm7 an7 cd7 ct7), sl7⟩) (c7 : PySem.W.codeIn K cd7 "_law_cell_at" = true) (k7 : PySem.W.keepIn K (.ref f7) = true)
    (a8 : PySem.W.nsIn K mainGlobals "_law_mixed" = some (some (.ref f8))) (l8 : K.lookup f8 = some ⟨oc8, od8, .func (PySem.W.fnOf "_law_mixed" "_law_mixed" (defArgs st__law_mixed) (defBody st__law_mixed) (defScope st__law_mixed) .none kV8 dc8 pm8 an8 cd8 ct8), sl8⟩) (c8 : PySem.W.codeIn K cd8 "_law_mixed" = true) (k8 : PySem.W.keepIn K (.ref f8) = true)
    (a9 : PySem.W.nsIn K mainGlobals "_law_drawn" = some (some (.ref f9))) (l9 : K.lookup f9 = some ⟨oc9, od9, .func (PySem.W.fnOf "_law_drawn" "_law_drawn" (defArgs st__law_drawn) (defBody st__law_drawn) (defScope st__law_drawn) .none kV9 dc9 pm9 an9 cd9 ct9), sl9⟩) (c9 : PySem.W.codeIn K cd9 "_law_drawn" = true) (k9 : PySem.W.keepIn K (.ref f9) = true)
    (a10 : PySem.W.nsIn K mainGlobals "_law_tree" = some (some (.ref f10))) (l10 : K.lookup f10 = some ⟨oc10, od10, .func (PySem.W.fnOf "_law_tree" "_law_tree" (defArgs st__law_tree) (defBody st__law_tree) (defScope st__law_tree) .none kV10 dc10 pm10 an10 cd10 ct10), sl10⟩) (c10 : PySem.W.codeIn K cd10 "_law_tree" = true) (k10 : PySem.W.keepIn K (.ref f10) = true)
    (a11 : PySem.W.nsIn K mainGlobals "_law_drawn_tree" = some (some (.ref f11))) (l11 : K.lookup f11 = some ⟨oc11, od11, .func (PySem.W.fnOf "_law_drawn_tree" "_law_drawn_tree" (defArgs st__law_drawn_tree) (defBody st__law_drawn_tree) (defScope st__law_drawn_tree) .none kV11 dc11 pm11 an11 cd11 ct11), sl11⟩) (c11 : PySem.W.codeIn K cd11 "_law_drawn_tree" = true) (k11 : PySem.W.keepIn K (.ref f11) = true)
    (a12 : PySem.W.nsIn K mainGlobals "_law_part" = some (some (.ref f12))) (l12 : K.lookup f12 = some ⟨oc12, od12, .func (PySem.W.fnOf "_law_part" "_law_part" (defArgs st__law_part) (defBody st__law_part) (defScope st__law_part) .none kV12 dc12 pm12 an12 cd12 ct12), sl12⟩) (c12 : PySem.W.codeIn K cd12 "_law_part" = true) (k12 : PySem.W.keepIn K (.ref f12) = true)
    (a13 : PySem.W.nsIn K mainGlobals "_law_addresses" = some (some (.ref f13))) (l13 : K.lookup f13 = some ⟨oc13, od13, .func (PySem.W.fnOf "_law_addresses" "_law_addresses" (defArgs st__law_addresses) (defBody st__law_addresses) (defScope st__law_addresses) .none kV13 dc13 pm13 an13 cd13 ct13), sl13⟩) (c13 : PySem.W.codeIn K cd13 "_law_addresses" = true) (k13 : PySem.W.keepIn K (.ref f13) = true)
    (a14 : PySem.W.nsIn K mainGlobals "_law_is_full" = some (some (.ref f14))) (l14 : K.lookup f14 = some ⟨oc14, od14, .func (PySem.W.fnOf "_law_is_full" "_law_is_full" (defArgs st__law_is_full) (defBody st__law_is_full) (defScope st__law_is_full) .none kV14 dc14 pm14 an14 cd14 ct14), sl14⟩) (c14 : PySem.W.codeIn K cd14 "_law_is_full" = true) (k14 : PySem.W.keepIn K (.ref f14) = true)
    (a15 : PySem.W.nsIn K mainGlobals "_law_has" = some (some (.ref f15))) (l15 : K.lookup f15 = some ⟨oc15, od15, .func (PySem.W.fnOf "_law_has" "_law_has" (defArgs st__law_has) (defBody st__law_has) (defScope st__law_has) .none kV15 dc15 pm15 an15 cd15 ct15), sl15⟩) (c15 : PySem.W.codeIn K cd15 "_law_has" = true) (k15 : PySem.W.keepIn K (.ref f15) = true)
    (a16 : PySem.W.nsIn K mainGlobals "law" = some (some (.ref f16))) (l16 : K.lookup f16 = some ⟨oc16, od16, .func (PySem.W.fnOf "law" "law" (defArgs st_law) (defBody st_law) (defScope st_law) .none kV16 dc16 pm16 an16 cd16 ct16), sl16⟩) (c16 : PySem.W.codeIn K cd16 "law" = true) (k16 : PySem.W.keepIn K (.ref f16) = true)
    (z0 : PySem.W.nsIn K mainGlobals "max" = some none)
    (z1 : PySem.W.nsIn K mainGlobals "tuple" = some none)
    (z2 : PySem.W.nsIn K mainGlobals "len" = some none)
    (z3 : PySem.W.nsIn K mainGlobals "isinstance" = some none)
    (z4 : PySem.W.nsIn K mainGlobals "int" = some none)
    (z5 : PySem.W.nsIn K mainGlobals "str" = some none)
    (z6 : PySem.W.nsIn K mainGlobals "list" = some none)
    (z7 : PySem.W.nsIn K mainGlobals "sorted" = some none)
    (z8 : PySem.W.nsIn K mainGlobals "set" = some none) :
    ∃ fd : FuncData, (∀ (s : Shared) (v : Value), BindsTo s fd ⟨[v], []⟩ [("_law_script", v)]) ∧ ∀ base : Heap, K.In base → base.Ns mainGlobals mg → FnOk l.prog w K mg base CX0 FUEL fa fd ["_law_script"] (spLaw K) := by
  have e := hfa.symm.trans (PySem.W.mg_of X G a16)
  cases e
  have D0 : Df K mg "need" st_need ["tree"] := ⟨_, _, fun_mk (st := st_need) l0 c0 k0, PySem.W.mg_of X G a0, (fun_mk (st := st_need) l0 c0 k0).binds (ps := ["tree"]) fun _ _ _ _ _ _ us hl => match us, hl with | [_], _ => rfl⟩
  have D1 : Df K mg "full_within" st_full_within ["part", "address", "height"] := ⟨_, _, fun_mk (st := st_full_within) l1 c1 k1, PySem.W.mg_of X G a1, (fun_mk (st := st_full_within) l1 c1 k1).binds (ps := ["part", "address", "height"]) fun _ _ _ _ _ _ us hl => match us, hl with | [_, _, _], _ => rfl⟩
  have D2 : Df K mg "full" st_full ["tree", "height"] := ⟨_, _, fun_mk (st := st_full) l2 c2 k2, PySem.W.mg_of X G a2, (fun_mk (st := st_full) l2 c2 k2).binds (ps := ["tree", "height"]) fun _ _ _ _ _ _ us hl => match us, hl with | [_, _], _ => rfl⟩
  have D3 : Df K mg "is_core" st_is_core ["part", "pans"] := ⟨_, _, fun_mk (st := st_is_core) l3 c3 k3, PySem.W.mg_of X G a3, (fun_mk (st := st_is_core) l3 c3 k3).binds (ps := ["part", "pans"]) fun _ _ _ _ _ _ us hl => match us, hl with | [_, _], _ => rfl⟩
  have D4 : Df K mg "cores_within" st_cores_within ["part", "address", "pans"] := ⟨_, _, fun_mk (st := st_cores_within) l4 c4 k4, PySem.W.mg_of X G a4, (fun_mk (st := st_cores_within) l4 c4 k4).binds (ps := ["part", "address", "pans"]) fun _ _ _ _ _ _ us hl => match us, hl with | [_, _, _], _ => rfl⟩
  have D5 : Df K mg "cores" st_cores ["tree", "pans"] := ⟨_, _, fun_mk (st := st_cores) l5 c5 k5, PySem.W.mg_of X G a5, (fun_mk (st := st_cores) l5 c5 k5).binds (ps := ["tree", "pans"]) fun _ _ _ _ _ _ us hl => match us, hl with | [_, _], _ => rfl⟩
  have D6 : Df K mg "spills" st_spills ["tree", "pans"] := ⟨_, _, fun_mk (st := st_spills) l6 c6 k6, PySem.W.mg_of X G a6, (fun_mk (st := st_spills) l6 c6 k6).binds (ps := ["tree", "pans"]) fun _ _ _ _ _ _ us hl => match us, hl with | [_, _], _ => rfl⟩
  have D7 : Df K mg "_law_cell_at" st__law_cell_at ["_law_script", "_law_k"] := ⟨_, _, fun_mk (st := st__law_cell_at) l7 c7 k7, PySem.W.mg_of X G a7, (fun_mk (st := st__law_cell_at) l7 c7 k7).binds (ps := ["_law_script", "_law_k"]) fun _ _ _ _ _ _ us hl => match us, hl with | [_, _], _ => rfl⟩
  have D8 : Df K mg "_law_mixed" st__law_mixed ["_law_script", "_law_k"] := ⟨_, _, fun_mk (st := st__law_mixed) l8 c8 k8, PySem.W.mg_of X G a8, (fun_mk (st := st__law_mixed) l8 c8 k8).binds (ps := ["_law_script", "_law_k"]) fun _ _ _ _ _ _ us hl => match us, hl with | [_, _], _ => rfl⟩
  have D9 : Df K mg "_law_drawn" st__law_drawn ["_law_number", "_law_k"] := ⟨_, _, fun_mk (st := st__law_drawn) l9 c9 k9, PySem.W.mg_of X G a9, (fun_mk (st := st__law_drawn) l9 c9 k9).binds (ps := ["_law_number", "_law_k"]) fun _ _ _ _ _ _ us hl => match us, hl with | [_, _], _ => rfl⟩
  have D10 : Df K mg "_law_tree" st__law_tree ["_law_number", "_law_many", "_law_kind"] := ⟨_, _, fun_mk (st := st__law_tree) l10 c10 k10, PySem.W.mg_of X G a10, (fun_mk (st := st__law_tree) l10 c10 k10).binds (ps := ["_law_number", "_law_many", "_law_kind"]) fun _ _ _ _ _ _ us hl => match us, hl with | [_, _, _], _ => rfl⟩
  have D11 : Df K mg "_law_drawn_tree" st__law_drawn_tree ["_law_number"] := ⟨_, _, fun_mk (st := st__law_drawn_tree) l11 c11 k11, PySem.W.mg_of X G a11, (fun_mk (st := st__law_drawn_tree) l11 c11 k11).binds (ps := ["_law_number"]) fun _ _ _ _ _ _ us hl => match us, hl with | [_], _ => rfl⟩
  have D12 : Df K mg "_law_part" st__law_part ["_law_tree_here", "_law_address"] := ⟨_, _, fun_mk (st := st__law_part) l12 c12 k12, PySem.W.mg_of X G a12, (fun_mk (st := st__law_part) l12 c12 k12).binds (ps := ["_law_tree_here", "_law_address"]) fun _ _ _ _ _ _ us hl => match us, hl with | [_, _], _ => rfl⟩
  have D13 : Df K mg "_law_addresses" st__law_addresses ["_law_tree_here", "_law_address"] := ⟨_, _, fun_mk (st := st__law_addresses) l13 c13 k13, PySem.W.mg_of X G a13, (fun_mk (st := st__law_addresses) l13 c13 k13).binds (ps := ["_law_tree_here", "_law_address"]) fun _ _ _ _ _ _ us hl => match us, hl with | [_, _], _ => rfl⟩
  have D14 : Df K mg "_law_is_full" st__law_is_full ["_law_tree_here", "_law_thing", "_law_height", "_law_ahead"] := ⟨_, _, fun_mk (st := st__law_is_full) l14 c14 k14, PySem.W.mg_of X G a14, (fun_mk (st := st__law_is_full) l14 c14 k14).binds (ps := ["_law_tree_here", "_law_thing", "_law_height", "_law_ahead"]) fun _ _ _ _ _ _ us hl => match us, hl with | [_, _, _, _], _ => rfl⟩
  have D15 : Df K mg "_law_has" st__law_has ["_law_tree_here", "_law_height"] := ⟨_, _, fun_mk (st := st__law_has) l15 c15 k15, PySem.W.mg_of X G a15, (fun_mk (st := st__law_has) l15 c15 k15).binds (ps := ["_law_tree_here", "_law_height"]) fun _ _ _ _ _ _ us hl => match us, hl with | [_, _], _ => rfl⟩
  have D16 : Df K mg "law" st_law ["_law_script"] := ⟨_, _, fun_mk (st := st_law) l16 c16 k16, PySem.W.mg_of X G a16, (fun_mk (st := st_law) l16 c16 k16).binds (ps := ["_law_script"]) fun _ _ _ _ _ _ us hl => match us, hl with | [_], _ => rfl⟩
  refine ⟨PySem.W.fnOf "law" "law" (defArgs st_law) (defBody st_law) (defScope st_law) .none kV16 dc16 pm16 an16 cd16 ct16, fun s v => .of_eq rfl, fun base _ _ => ?_⟩
  have L := lv (P := l.prog) (w := w) (base := base) D0 D1 D2 D3 D4 D5 D6 D7 D8 D9 D10 D11 D12 D13 D14 D15 D16 (PySem.W.mg_none_of X G z0) (PySem.W.mg_none_of X G z1) (PySem.W.mg_none_of X G z2) (PySem.W.mg_none_of X G z3) (PySem.W.mg_none_of X G z4) (PySem.W.mg_none_of X G z5) (PySem.W.mg_none_of X G z6) (PySem.W.mg_none_of X G z7) (PySem.W.mg_none_of X G z8) FUEL1
  exact (ok_law (n := FUEL1) (fun_mk (st := st_law) l16 c16 k16) L.k__law_mixed L.k__law_drawn_tree L.k_cores L.k_spills L.k__law_addresses L.k__law_part L.k__law_has (PySem.W.mg_none_of X G z3) (PySem.W.mg_none_of X G z1) (PySem.W.mg_none_of X G z6) (PySem.W.mg_none_of X G z7) (PySem.W.mg_none_of X G z8) (PySem.W.mg_none_of X G z2)).imp law_sp
theorem walk {l : PySem.W.OpenLaw} {q : Program} {loose : List Str} {XP : (Str → Option Value) → Heap → Prop} {YP : World → Heap → Prop} {d : DefRec} {K : Params → PySem.W.Frag} (hn : l.most = some 63) (hdf : d.params.defaults = [])
    (hY : ∀ (w : World) (h : Heap), YP w h → (K w.params).In h)
    (F : ∀ (w : World) (mg : Str → Option Value) (fa : Addr) (h : Heap), (K w.params).In h → h.Ns mainGlobals mg → mg d.name = some (.ref fa) →
      ∃ fd : FuncData, (∀ (s : Shared) (u : Value), BindsTo s fd ⟨[u], []⟩ [("_law_script", u)]) ∧ ∀ base : Heap, (K w.params).In base → base.Ns mainGlobals mg → FnOk l.prog w (K w.params) mg base CX0 FUEL fa fd ["_law_script"] (spLaw (K w.params))) :
    PySem.W.WalkO q loose XP YP l.row.toRowW d [] (fun f vs => PySem.call f vs) :=
  L2.walk_of (n := 63) (k := FUEL) (x := "_law_script") (CX := fun _ => CX0) (sp := fun w => spLaw (K w.params)) hn (by decide) hdf ⟨rfl, by decide, by decide⟩ hY F (fun _ _ a ns hl _ hS => ⟨a, ns, rfl, hS, hl, fun _ => rfl⟩) fun _ _ _ _ _ z => z
end FD
open PySem PySem.W PyProof.Rows
set_option maxRecDepth 100000 in
set_option maxHeartbeats 0 in
theorem PySem.Challenge.cw_fewpans_k22_whole_cores_are_full_holds : PySem.Challenge.rw_fewpans_k22_whole_cores_are_full.Holds := by
  w_on; o_law; k_head; (case hw => w_witness2)
  k_fill
  refine FD.walk (l := PySem.Challenge.rw_fewpans_k22_whole_cores_are_full) rfl rfl (fun w h Y => PySem.W.kIn_of Y) ?F
  case F =>
    intro w mg fa h KX G hmg
    refine' FD.all_mk KX G hmg ?a0 ?l0 ?c0 ?k0 ?a1 ?l1 ?c1 ?k1 ?a2 ?l2 ?c2 ?k2 ?a3 ?l3 ?c3 ?k3 ?a4 ?l4 ?c4 ?k4 ?a5 ?l5 ?c5 ?k5 ?a6 ?l6 ?c6 ?k6 ?a7 ?l7 ?c7 ?k7 ?a8 ?l8 ?c8 ?k8 ?a9 ?l9 ?c9 ?k9 ?a10 ?l10 ?c10 ?k10 ?a11 ?l11 ?c11 ?k11 ?a12 ?l12 ?c12 ?k12 ?a13 ?l13 ?c13 ?k13 ?a14 ?l14 ?c14 ?k14 ?a15 ?l15 ?c15 ?k15 ?a16 ?l16 ?c16 ?k16 ?z0 ?z1 ?z2 ?z3 ?z4 ?z5 ?z6 ?z7 ?z8
    (case a0 => k_is)
    (case l0 => k_is)
    (case c0 => k_is)
    (case k0 => k_is)
    (case a1 => k_is)
    (case l1 => k_is)
    (case c1 => k_is)
    (case k1 => k_is)
    (case a2 => k_is)
    (case l2 => k_is)
    (case c2 => k_is)
    (case k2 => k_is)
    (case a3 => k_is)
    (case l3 => k_is)
    (case c3 => k_is)
    (case k3 => k_is)
    (case a4 => k_is)
    (case l4 => k_is)
    (case c4 => k_is)
    (case k4 => k_is)
    (case a5 => k_is)
    (case l5 => k_is)
    (case c5 => k_is)
    (case k5 => k_is)
    (case a6 => k_is)
    (case l6 => k_is)
    (case c6 => k_is)
    (case k6 => k_is)
    (case a7 => k_is)
    (case l7 => k_is)
    (case c7 => k_is)
    (case k7 => k_is)
    (case a8 => k_is)
    (case l8 => k_is)
    (case c8 => k_is)
    (case k8 => k_is)
    (case a9 => k_is)
    (case l9 => k_is)
    (case c9 => k_is)
    (case k9 => k_is)
    (case a10 => k_is)
    (case l10 => k_is)
    (case c10 => k_is)
    (case k10 => k_is)
    (case a11 => k_is)
    (case l11 => k_is)
    (case c11 => k_is)
    (case k11 => k_is)
    (case a12 => k_is)
    (case l12 => k_is)
    (case c12 => k_is)
    (case k12 => k_is)
    (case a13 => k_is)
    (case l13 => k_is)
    (case c13 => k_is)
    (case k13 => k_is)
    (case a14 => k_is)
    (case l14 => k_is)
    (case c14 => k_is)
    (case k14 => k_is)
    (case a15 => k_is)
    (case l15 => k_is)
    (case c15 => k_is)
    (case k15 => k_is)
    (case a16 => k_is)
    (case l16 => k_is)
    (case c16 => k_is)
    (case k16 => k_is)
    (case z0 => k_is)
    (case z1 => k_is)
    (case z2 => k_is)
    (case z3 => k_is)
    (case z4 => k_is)
    (case z5 => k_is)
    (case z6 => k_is)
    (case z7 => k_is)
    (case z8 => k_is)
