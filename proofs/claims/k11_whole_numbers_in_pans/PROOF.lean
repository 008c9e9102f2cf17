import PyProof.Rows.All
import Wide.All
import OpenK.AllK
import Wide.FinOn
import Lean
import PyProof.EqAt
import PyProof.EqKinds
import PyProof.TupleCall
import PyProof.P3Statements
import PyProof.P3In
import PyProof.NeData
import PyProof.P3Eq
import PyProof.FitsBits
import PyProof.Rows.SeqMore
import PyProof.Rows.StrInSeq3
import PyProof.Rows.SortStr
import PyProof.ZipIter
import PyProof.TupleIter
import PySem.Challenge.RW_fewpans_k11_whole_numbers_in_pans
set_option Elab.async false
section
-- CHANGE: your row's module here, as the last of these rows
set_option Elab.async false
set_option linter.all false
set_option maxRecDepth 100000
namespace L2
open PySem PySem.Spec PyProof.Rows

/-- a key: an int or a str -/
abbrev Key := Sum Int Str
def keyIs : Key → Value → Bool
  | .inl k, v => Value.isInt k v
  | .inr x, v => Value.isStrOf x v
def keyH (w : World) : Key → Int
  | .inl k => hashInt k
  | .inr x => hashStr w x
theorem keyIs_shape : ∀ {k : Key} {v : Value}, keyIs k v = true → (∃ i t, k = Sum.inl i ∧ v = Value.int i t) ∨ (∃ x t, k = Sum.inr x ∧ v = Value.str x t)
  | .inl i, v, h => by
    obtain ⟨t, e⟩ := Value.isInt_shape (k := i) (v := v) h
    exact .inl ⟨i, t, rfl, e⟩
  | .inr x, v, h => by
    obtain ⟨t, e⟩ := Value.isStrOf_shape (x := x) (v := v) h
    exact .inr ⟨x, t, rfl, e⟩
theorem key_ll (a b : Int) : decide ((Sum.inl a : Key) = Sum.inl b) = (a == b) := by
  by_cases e : a = b
  · subst e; simp
  · have h : ¬ (Sum.inl a : Key) = Sum.inl b := fun q => e (Sum.inl.inj q)
    rw [decide_eq_false h]
    exact (beq_eq_false_iff_ne.mpr e).symm
theorem key_rr (a b : Str) : decide ((Sum.inr a : Key) = Sum.inr b) = decide (a = b) := by
  by_cases e : a = b
  · subst e; simp
  · have h : ¬ (Sum.inr a : Key) = Sum.inr b := fun q => e (Sum.inr.inj q)
    rw [decide_eq_false h, decide_eq_false e]
theorem key_lr (a : Int) (b : Str) : decide ((Sum.inl a : Key) = Sum.inr b) = false := decide_eq_false (fun q => nomatch q)
theorem key_rl (a : Str) (b : Int) : decide ((Sum.inr a : Key) = Sum.inl b) = false := decide_eq_false (fun q => nomatch q)

def mixKind (prog : Program) (w : World) : PySem.KeyKind prog w Key where
  is := keyIs
  hash := keyH w
  inj := fun v a b ha hb => by
    rcases keyIs_shape ha with ⟨i, t, rfl, rfl⟩ | ⟨x, t, rfl, rfl⟩
    · rcases keyIs_shape hb with ⟨j, u, rfl, e⟩ | ⟨y, u, rfl, e⟩
      · injection e with e1 _; rw [e1]
      · exact nomatch e
    · rcases keyIs_shape hb with ⟨j, u, rfl, e⟩ | ⟨y, u, rfl, e⟩
      · exact nomatch e
      · injection e with e1 _; rw [e1]
  byValue := fun k v h => by
    rcases keyIs_shape h with ⟨i, t, rfl, rfl⟩ | ⟨x, t, rfl, rfl⟩ <;> rfl
  pyHash := fun hv h => by
    rcases keyIs_shape hv with ⟨i, t, rfl, rfl⟩ | ⟨x, t, rfl, rfl⟩
    · exact wpAny_pyHash_int h
    · exact wpAny_pyHash_str h
  eqBool := fun hu hv h => by
    rcases keyIs_shape hu with ⟨i, t, rfl, rfl⟩ | ⟨x, t, rfl, rfl⟩
    · rcases keyIs_shape hv with ⟨j, u, rfl, rfl⟩ | ⟨y, u, rfl, rfl⟩
      · rw [key_ll] at h; exact wpAny_eqBool_int h
      · rw [key_lr] at h; exact SeqAt.EqAt.int_str i t y u _ _ _ _ h
    · rcases keyIs_shape hv with ⟨j, u, rfl, rfl⟩ | ⟨y, u, rfl, rfl⟩
      · rw [key_rl] at h; exact SeqAt.EqAt.str_int x t j u _ _ _ _ h
      · rw [key_rr] at h; exact wpAny_eqBool_str h
  «strs» := fun k x t v h => by
    rcases keyIs_shape h with ⟨i, u, rfl, e⟩ | ⟨y, u, rfl, e⟩
    · exact nomatch e
    · injection e with e1 _
      subst e1
      cases v <;> rfl

end L2

namespace L2
open PySem PySem.Spec PyProof.Rows

/-- a value, without the heap -/
inductive V where
  | non | bl (b : Bool) | int (i : Int) | str (x : Str) | byt (b : Array UInt8) | flt (b : UInt64) | ref (a : Addr) | ty (n : String)
  deriving DecidableEq

def RelV : V → Value → Prop
  | .non, u => u = Value.none
  | .bl b, u => u = Value.bool b
  | .int i, u => ∃ t, u = Value.int i t
  | .str x, u => ∃ t, u = Value.str x t
  | .byt b, u => ∃ t, u = Value.bytes b t
  | .flt b, u => ∃ t, u = Value.float b t
  | .ref a, u => u = Value.ref a
  | .ty n, u => u = Value.type n

abbrev Vals : List V → List Value → Prop := Paired RelV
theorem Vals.length {xs : List V} {us : List Value} (r : Vals xs us) : xs.length = us.length := Paired.length r
theorem Vals.get : ∀ {xs : List V} {us : List Value} {i : Nat} {x : V}, Vals xs us → xs[i]? = some x → ∃ u, us[i]? = some u ∧ RelV x u
  | _, _, _, _, .nil, e => by simp at e
  | _, _, 0, _, .cons r _, e => by simp at e; subst e; exact ⟨_, rfl, r⟩
  | _, _, i + 1, x, .cons _ t, e => by
    obtain ⟨u, h1, h2⟩ := Vals.get (i := i) (x := x) t (by simpa using e)
    exact ⟨u, by simpa using h1, h2⟩
theorem Vals.set {x : V} {u : Value} (r : RelV x u) : ∀ {xs : List V} {us : List Value} (i : Nat), Vals xs us → Vals (xs.set i x) (us.set i u)
  | _, _, _, .nil => .nil
  | _, _, 0, .cons _ t => .cons r t
  | _, _, i + 1, .cons q t => .cons q (Vals.set r i t)
theorem Vals.append : ∀ {xs ys : List V} {us ws : List Value}, Vals xs us → Vals ys ws → Vals (xs ++ ys) (us ++ ws)
  | _, _, _, _, .nil, s => s
  | _, _, _, _, .cons r t, s => .cons r (Vals.append t s)
theorem Vals.take : ∀ {xs : List V} {us : List Value} (n : Nat), Vals xs us → Vals (xs.take n) (us.take n)
  | _, _, 0, _ => .nil
  | _, _, _ + 1, .nil => .nil
  | _, _, n + 1, .cons r t => .cons r (Vals.take n t)
theorem Vals.drop : ∀ {xs : List V} {us : List Value} (n : Nat), Vals xs us → Vals (xs.drop n) (us.drop n)
  | _, _, 0, r => r
  | _, _, _ + 1, .nil => .nil
  | _, _, n + 1, .cons _ t => Vals.drop n t
def RelO : Option V → Option Value → Prop
  | some v, some u => RelV v u
  | none, none => True
  | _, _ => False
def KV {κ : Type} : List (κ × V) → List (κ × Value) → Prop := Paired fun (p : κ × V) (q : κ × Value) => p.1 = q.1 ∧ RelV p.2 q.2

/-- a key of a dict (00_mix): an int or a text -/
def kV : Key → V
  | .inl i => .int i
  | .inr x => .str x

/-- what stands at a tracked address -/
inductive HO where
  /-- a list -/
  | lst (xs : List V)
  /-- a tuple (never changes) -/
  | tup (xs : List V)
  /-- a dict whose keys are ints and texts; one whose keys are tuples of ints and texts (the empty one is both) -/
  | dK (kvs : List (Key × V)) | dT (kvs : List (List Key × V))
  /-- a set of ints: its members, its size -/
  | set (S : Int → Bool) (n : Nat)
  /-- an instance of the class at C, its dict at dx, its attributes -/
  | ins (C dx : Addr) (fs : List (Str × V))
  /-- the dict of the instance at x -/
  | own (x : Addr)
  /-- the dict of an exception -/
  | xd (fs : List (Str × V))
  /-- a bound method, f of x -/
  | met (f x : Addr)
  /-- a range object lo, lo + 1, .. below hi -/
  | rng (lo hi : Int)
  /-- a thing that is known to the object (the script; a dict while a loop walks it): read, never written while it is so -/
  | frz (o : Obj) (u : HO)
  /-- a code object's table -/
  | tbl (ps : Array Value)
  /-- any other thing, by what is true of its one object (a def of one's own: SetO a S n := HO.ext fun h => ..) -/
  | ext (φ : Heap → Prop)

abbrev Hp := Addr → Option HO
def upd (H : Hp) (a : Addr) (o : HO) : Hp := fun b => if b = a then some o else H b
theorem upd_same {H : Hp} {a : Addr} {o : HO} : upd H a o a = some o := by unfold upd; rw [if_pos rfl]
theorem upd_ne {H : Hp} {a b : Addr} {o : HO} (h : b ≠ a) : upd H a o b = H b := by unfold upd; rw [if_neg h]
theorem ne_of_none {H : Hp} {a b : Addr} {o : HO} (h : H a = some o) (h' : H b = none) : a ≠ b := by
  intro e; subst e; rw [h] at h'; cases h'

section
variable (P : Program) (w : World)
def ObjOk (H : Hp) (h : Heap) (a : Addr) : HO → Prop
  | .lst xs => xs.length ≤ sizeLine ∧ ∃ (its : List Value) (n : Nat), Vals xs its ∧ h.get? a = some { cls := .type "list", data := .seq its.toArray n }
  | .tup xs => xs.length ≤ sizeLine ∧ ∃ its : List Value, Vals xs its ∧ IsTup h a its.toArray
  | .dK kvs => kvs.length ≤ sizeLine ∧ (a == sysModules) = false ∧ ∃ vs, KV kvs vs ∧ h.DictOf (mixKind P w) a vs
  | .dT kvs => kvs.length ≤ sizeLine ∧ (a == sysModules) = false ∧ ∃ xs : List (List Key × Addr × Value),
      Paired (fun (p : List Key × V) (q : List Key × Addr × Value) => p.1 = q.1 ∧ H q.2.1 = some (.tup (p.1.map kV)) ∧ RelV p.2 q.2.2) kvs xs ∧
      ∃ o es ep, h.get? a = some o ∧ o.ExactDict ∧ o.data = .dict es ep ∧ es.toList = xs.map (entryOfKey (tupleKind (mixKind P w))) ∧ (xs.map (·.1)).Nodup
  | .set S n => h.SetOf (intKind P w) a S n
  | .ins C dx fs => H dx = some (.own a) ∧ fs.length ≤ 1000 ∧ dx ≠ a ∧ h.get? a = some (PySem.W.instObj C dx) ∧
      ∃ mA, h.Ns1 dx mA ∧ (∀ f, RelO (fs.lookup f) (mA f)) ∧ PySem.Within mA (fs.map (·.1))
  | .own _ => ∃ o, h.get? a = some o
  | .xd fs => ∃ mA, h.Ns1 a mA ∧ ∀ f, RelO (fs.lookup f) (mA f)
  | .rng lo hi => ∃ t u v, h.get? a = some { cls := .type "range", data := .fields #[.int lo t, .int hi u, .int 1 v] }
  | .frz o u => h.get? a = some o ∧ ObjOk H h a u
  | .tbl ps => h.get? a = some { cls := .none, data := .fields ps }
  | .met f x => h.get? a = some (PySem.W.methodObj (.ref f) (.ref x))
  | .ext φ => φ h ∧ (∃ o, h.get? a = some o) ∧ ∀ h1 h2 : Heap, φ h1 → (∀ o, h1.get? a = some o → h2.get? a = some o) → φ h2
/-- the abstract heap is held -/
def HOk (H : Hp) (h : Heap) : Prop := ∀ a o, H a = some o → ObjOk P w H h a o
end

section
variable {P : Program} {w : World} {H H' : Hp} {h h' : Heap} {a : Addr} {o : HO}
theorem ObjOk.lt (x : ObjOk P w H h a o) : a < h.objs.size := by
  cases o with
  | lst xs => obtain ⟨_, _, _, _, e⟩ := x; exact Heap.lt_size e
  | tup xs => obtain ⟨_, _, _, p⟩ := x; exact p.lt
  | dK kvs => obtain ⟨_, _, _, _, o, _, _, e, _⟩ := x; exact Heap.lt_size e
  | dT kvs => obtain ⟨_, _, _, _, o, _, _, e, _⟩ := x; exact Heap.lt_size e
  | set S n => obtain ⟨o, _, _, _, e, _⟩ := x; exact Heap.lt_size e
  | ins C dx fs => obtain ⟨_, _, _, e, _⟩ := x; exact Heap.lt_size e
  | own y => obtain ⟨_, e⟩ := x; exact Heap.lt_size e
  | xd fs => obtain ⟨_, ⟨_, _, _, e, _⟩, _⟩ := x; exact Heap.lt_size e
  | rng lo hi => obtain ⟨_, _, _, e⟩ := x; exact Heap.lt_size e
  | frz ob u => obtain ⟨e, _⟩ := x; exact Heap.lt_size e
  | tbl ps => exact Heap.lt_size (show h.get? a = some _ from x)
  | met f y => exact Heap.lt_size (show h.get? a = some _ from x)
  | ext φ => obtain ⟨_, ⟨_, e⟩, _⟩ := x; exact Heap.lt_size e
theorem Paired.mapP {α β : Type} {F G : α → β → Prop} : ∀ {l₁ : List α} {l₂ : List β}, Paired F l₁ l₂ → (∀ a b, F a b → G a b) → Paired G l₁ l₂
  | _, _, .nil, _ => .nil
  | _, _, .cons r t, f => .cons (f _ _ r) (Paired.mapP t f)
/-- what an object's description leans on: its own object, its own dict, the tuples -/
theorem ObjOk.stay (x : ObjOk P w H h a o) (k : ∀ b u, (b = a ∨ H b = some (.own a)) → h.get? b = some u → h'.get? b = some u)
    (ho : ∀ b, H b = some (.own a) → H' b = some (.own a)) (ht : ∀ b xs, H b = some (.tup xs) → H' b = some (.tup xs)) : ObjOk P w H' h' a o := by
  induction o with
  | lst xs => obtain ⟨z, its, n, r, e⟩ := x; exact ⟨z, its, n, r, k _ _ (.inl rfl) e⟩
  | tup xs => obtain ⟨z, its, r, ob, e, c⟩ := x; exact ⟨z, its, r, ob, k _ _ (.inl rfl) e, c⟩
  | dK kvs => obtain ⟨z, y, vs, r, ob, es, ep, e, c⟩ := x; exact ⟨z, y, vs, r, ob, es, ep, k _ _ (.inl rfl) e, c⟩
  | dT kvs =>
    obtain ⟨z, y, xs, r, ob, es, ep, e, c⟩ := x
    exact ⟨z, y, xs, Paired.mapP r fun p q z => ⟨z.1, ht _ _ z.2.1, z.2.2⟩, ob, es, ep, k _ _ (.inl rfl) e, c⟩
  | set S n => obtain ⟨ob, es, ep, t, e, c⟩ := x; exact ⟨ob, es, ep, t, k _ _ (.inl rfl) e, c⟩
  | ins C dx fs =>
    obtain ⟨d, z, ne, e, mA, ⟨od, es, ep, e2, c⟩, r⟩ := x
    exact ⟨ho _ d, z, ne, k _ _ (.inl rfl) e, mA, ⟨od, es, ep, k _ _ (.inr d) e2, c⟩, r⟩
  | own y => obtain ⟨ob, e⟩ := x; exact ⟨ob, k _ _ (.inl rfl) e⟩
  | xd fs => obtain ⟨mA, ⟨od, es, ep, e, c⟩, r⟩ := x; exact ⟨mA, ⟨od, es, ep, k _ _ (.inl rfl) e, c⟩, r⟩
  | rng lo hi => obtain ⟨t, u, v, e⟩ := x; exact ⟨t, u, v, k _ _ (.inl rfl) e⟩
  | frz ob u ih => obtain ⟨e, q⟩ := x; exact ⟨k _ _ (.inl rfl) e, ih q⟩
  | tbl ps =>
    have e : h.get? a = some { cls := .none, data := .fields ps } := x
    show h'.get? a = some { cls := .none, data := .fields ps }
    exact k a _ (.inl rfl) e
  | met f y =>
    have e : h.get? a = some (PySem.W.methodObj (.ref f) (.ref y)) := x
    show h'.get? a = some (PySem.W.methodObj (.ref f) (.ref y))
    exact k a _ (.inl rfl) e
  | ext φ => obtain ⟨p, ⟨o, e⟩, st⟩ := x; exact ⟨st _ _ p fun o q => k _ _ (.inl rfl) q, ⟨o, k _ _ (.inl rfl) e⟩, st⟩
theorem HOk.lt (x : HOk P w H h) (e : H a = some o) : a < h.objs.size := (x a o e).lt
theorem HOk.fresh (x : HOk P w H h) (e : h.objs.size ≤ a) : H a = none := by
  cases q : H a with
  | none => rfl
  | some u => exact absurd (Nat.lt_of_lt_of_le (x.lt q) e) (Nat.lt_irrefl _)
/-- every object of the heap is kept -/
theorem HOk.kept (x : HOk P w H h) (k : ∀ b u, h.get? b = some u → h'.get? b = some u) : HOk P w H h' := fun a o e =>
  (x a o e).stay (fun b u _ q => k b u q) (fun _ q => q) fun _ _ q => q
/-- a new object is laid and tracked -/
theorem HOk.laid (x : HOk P w H h) (k : ∀ b u, h.get? b = some u → h'.get? b = some u) (hp : h.objs.size ≤ a) (new : ObjOk P w (upd H a o) h' a o) : HOk P w (upd H a o) h' := fun b u e => by
  have hn := x.fresh hp
  by_cases hb : b = a
  · subst hb; rw [upd_same] at e; cases e; exact new
  · rw [upd_ne hb] at e
    exact (x b u e).stay (fun c v _ q => k c v q) (fun c q => by rw [upd_ne (ne_of_none q hn)]; exact q) fun c xs q => by rw [upd_ne (ne_of_none q hn)]; exact q
end

/-- what may be read as u: it is u, or a known u -/
def Rd (H : Hp) (a : Addr) (u : HO) : Prop := H a = some u ∨ ∃ o, H a = some (.frz o u)
theorem Rd.of {H : Hp} {a : Addr} {u : HO} (h : H a = some u) : Rd H a u := .inl h
theorem Rd.ok {P : Program} {w : World} {H : Hp} {h : Heap} {a : Addr} {u : HO} (r : Rd H a u) (x : HOk P w H h) : ObjOk P w H h a u := by
  rcases r with r | ⟨o, r⟩
  · exact x a u r
  · obtain ⟨_, q⟩ := x a _ r
    exact q
/-- what may be written -/
def Mut : Option HO → Prop
  | some (.lst _) => True
  | some (.dK _) => True
  | some (.dT _) => True
  | some (.set _ _) => True
  | some (.ins _ _ _) => True
  | some (.ext _) => True
  | _ => False
section
variable {P : Program} {w : World} {H : Hp} {h h' : Heap} {x e : Addr} {o' : HO}
/-- the object at e is changed: x itself, or the dict of the instance x -/
theorem HOk.write (ok : HOk P w H h) (mu : Mut (H x)) (he : e = x ∨ H e = some (.own x)) (k : ∀ b u, b ≠ e → h.get? b = some u → h'.get? b = some u) (heo : ∃ u, h'.get? e = some u)
    (new : ObjOk P w (upd H x o') h' x o') : HOk P w (upd H x o') h' := fun b u q => by
  have nown : ∀ c y, H c = some (.own y) → c ≠ x := fun c y r z => by subst z; rw [r] at mu; exact mu
  have ntup : ∀ c xs, H c = some (.tup xs) → c ≠ x := fun c xs r z => by subst z; rw [r] at mu; exact mu
  by_cases hb : b = x
  · subst hb; rw [upd_same] at q; cases q; exact new
  · rw [upd_ne hb] at q
    by_cases hbe : b = e
    · have q' : H b = some (.own x) := by
        rcases he with z | z
        · exact absurd (hbe.trans z) hb
        · rw [hbe]; exact z
      rw [q] at q'; cases q'
      obtain ⟨v, hv⟩ := heo
      exact ⟨v, by rw [hbe]; exact hv⟩
    · refine (ok b u q).stay (fun c v hc r => k c v ?_ r) (fun c r => by rw [upd_ne (nown c b r)]; exact r) fun c xs r => by rw [upd_ne (ntup c xs r)]; exact r
      rcases hc with rfl | hc
      · exact hbe
      · rintro rfl
        rcases he with z | z
        · exact nown c b hc z
        · rw [hc] at z; cases z; exact hb rfl
end

structure Un (fs ex : List Addr) (H H' : Hp) (h h' : Heap) : Prop where
  keep : ∀ b o, h.get? b = some o → H b = none → b ∉ fs → b ∉ ex → h'.get? b = some o
  slot : ∀ b o, h.get? b = some o → H b = none → b ∈ fs → b ∉ ex → ∃ sl, h'.get? b = some { o with slots := sl }
  free : ∀ b o, h.get? b = some o → H b = none → b ∉ ex → H' b = none
  there : ∀ b o, h.get? b = some o → b ∉ ex → ∃ o', h'.get? b = some o'
  tups : ∀ b xs, H b = some (.tup xs) → H' b = some (.tup xs)
  frzs : ∀ b o u, H b = some (.frz o u) → H' b = some (.frz o u)
  tbls : ∀ b ps, H b = some (.tbl ps) → ∃ more, H' b = some (.tbl (ps ++ more))
section
variable {fs fs' ex ex' : List Addr} {H H1 H2 : Hp} {h h1 h2 h' : Heap} {a x e : Addr} {o : HO}
theorem Un.any (u : Un fs ex H H1 h h1) {b : Addr} {ob : Obj} (q : h.get? b = some ob) (n : H b = none) (hx : b ∉ ex) : ∃ sl, h1.get? b = some { ob with slots := sl } := by
  by_cases hb : b ∈ fs
  · exact u.slot b ob q n hb hx
  · exact ⟨ob.slots, u.keep b ob q n hb hx⟩
theorem Un.trans (a : Un fs ex H H1 h h1) (b : Un fs ex H1 H2 h1 h2) : Un fs ex H H2 h h2 where
  keep := fun c ob q n hc hx => b.keep c ob (a.keep c ob q n hc hx) (a.free c ob q n hx) hc hx
  slot := fun c ob q n hc hx => by
    obtain ⟨sl, e1⟩ := a.slot c ob q n hc hx
    obtain ⟨sl', e2⟩ := b.slot c _ e1 (a.free c ob q n hx) hc hx
    exact ⟨sl', e2⟩
  free := fun c ob q n hx => by
    obtain ⟨o', e1⟩ := a.there c ob q hx
    exact b.free c o' e1 (a.free c ob q n hx) hx
  there := fun c ob q hx => by
    obtain ⟨o', e1⟩ := a.there c ob q hx
    exact b.there c o' e1 hx
  tups := fun c xs q => b.tups c xs (a.tups c xs q)
  frzs := fun c ob xs q => b.frzs c ob xs (a.frzs c ob xs q)
  tbls := fun c ps q => by
    obtain ⟨m1, e1⟩ := a.tbls c ps q
    obtain ⟨m2, e2⟩ := b.tbls c _ e1
    exact ⟨m1 ++ m2, by rw [e2, Array.append_assoc]⟩
theorem Un.kept (k : ∀ b u, h.get? b = some u → h'.get? b = some u) : Un fs ex H H h h' :=
  ⟨fun b ob q _ _ _ => k b ob q, fun b ob q _ _ _ => ⟨ob.slots, k b ob q⟩, fun _ _ _ n _ => n, fun b ob q _ => ⟨ob, k b ob q⟩, fun _ _ q => q, fun _ _ _ q => q, fun _ ps q => ⟨#[], by rw [q]; simp⟩⟩
theorem Un.refl : Un fs ex H H h h := Un.kept fun _ _ q => q
theorem Un.laid (k : ∀ b u, h.get? b = some u → h'.get? b = some u) (hp : h.objs.size ≤ a) (hn : H a = none) : Un fs ex H (upd H a o) h h' where
  keep := fun b u q _ _ _ => k b u q
  slot := fun b u q _ _ _ => ⟨u.slots, k b u q⟩
  free := fun b u q n _ => by rw [upd_ne (Nat.ne_of_lt (Nat.lt_of_lt_of_le (Heap.lt_size q) hp))]; exact n
  there := fun b u q _ => ⟨u, k b u q⟩
  tups := fun b xs q => by rw [upd_ne (ne_of_none q hn)]; exact q
  frzs := fun b u xs q => by rw [upd_ne (ne_of_none q hn)]; exact q
  tbls := fun b ps q => ⟨#[], by rw [upd_ne (ne_of_none q hn), q]; simp⟩
theorem Un.write (mu : Mut (H x)) (he : e = x ∨ H e = some (.own x)) (k : ∀ b u, b ≠ e → h.get? b = some u → h'.get? b = some u) (heo : ∃ u, h'.get? e = some u) : Un fs ex H (upd H x o) h h' := by
  have hx : ∀ b, H b = none → b ≠ x := fun b n z => by subst z; rw [n] at mu; exact mu
  have hb : ∀ b, H b = none → b ≠ e := fun b n z => by
    subst z
    rcases he with r | r
    · exact hx b n r
    · rw [n] at r; cases r
  have hm : ∀ b u, H b = some u → ¬ Mut (some u) → b ≠ x := fun b u q nm z => by subst z; rw [q] at mu; exact nm mu
  refine ⟨fun b u q n _ _ => k b u (hb b n) q, fun b u q n _ _ => ⟨u.slots, k b u (hb b n) q⟩, fun b u q n _ => by rw [upd_ne (hx b n)]; exact n, fun b u q _ => ?_,
    fun b xs q => by rw [upd_ne (hm b _ q fun z => z)]; exact q, fun b u xs q => by rw [upd_ne (hm b _ q fun z => z)]; exact q, fun b ps q => ⟨#[], by rw [upd_ne (hm b _ q fun z => z), q]; simp⟩⟩
  by_cases hbe : b = e
  · subst hbe; exact heo
  · exact ⟨u, k b u hbe q⟩
theorem Un.mono (u : Un fs ex H H1 h h1) (hs : ∀ b ∈ fs, b ∈ fs') (hx : ∀ b ∈ ex, b ∈ ex') : Un fs' ex' H H1 h h1 :=
  ⟨fun b ob q n hb he => u.keep b ob q n (fun z => hb (hs b z)) fun z => he (hx b z), fun _ _ q n _ he => u.any q n fun z => he (hx _ z), fun b ob q n he => u.free b ob q n fun z => he (hx b z), fun b ob q he => u.there b ob q fun z => he (hx b z), u.tups, u.frzs, u.tbls⟩
end

def trk (h : Heap) (H : Hp) : List Addr := (List.range h.objs.size).filter fun a => (H a).isSome
def hidT (h : Heap) (H : Hp) : Heap := PySem.W.hideAll h (trk h H)
theorem hidT_size (h : Heap) (H : Hp) : (hidT h H).objs.size = h.objs.size := PySem.W.hideAll_size _ _
theorem hidT_get {h : Heap} {H : Hp} {b : Addr} {o : Obj} (e : h.get? b = some o) (n : H b = none) : (hidT h H).get? b = some o :=
  PySem.W.hideAll_get _ e fun hm => by
    have q : (H b).isSome = true := (List.mem_filter.mp hm).2
    rw [n] at q; simp at q
theorem of_hidT {h : Heap} {H : Hp} {b : Addr} {o : Obj} (e : (hidT h H).get? b = some o) : h.get? b = some o ∧ H b = none := by
  have e' : h.get? b = some o := PySem.W.of_hideAll (trk h H) e
  refine ⟨e', ?_⟩
  cases q : H b with
  | none => rfl
  | some x =>
    have hm : b ∈ trk h H := List.mem_filter.mpr ⟨List.mem_range.mpr (Heap.lt_size e'), by simp [q]⟩
    have z : (hidT h H).get? b = none := PySem.W.hideAll_none (trk h H) hm
    rw [z] at e; cases e

def allNews (g h : Heap) (L : Addr) : List (Addr × Obj) := (List.range h.objs.size).filterMap fun a => if a = L ∨ (g.get? a).isSome = true then none else (h.get? a).map fun o => (a, o)
def rest (g h : Heap) (L d : Addr) : List (Addr × Obj) := (allNews g h L).filter fun p => decide (p.1 ≠ d)
end L2

namespace L2
open PySem PySem.Spec PyProof.Rows

/-- the module's facts, over the base: the heap at the law's entry without what is tracked there -/
structure Mod (K : PySem.W.Frag) (mg : Str → Option Value) (base : Heap) : Prop where
  kin : K.In base
  glob : base.Ns mainGlobals mg
  blt : ∃ mb, base.Ns builtinsNs mb ∧ ∀ x : Str, x ≠ "__name__" → mb x = bootBuiltins x
  nolimit : base.NoLimit

/-- the context: a def's body (or a comprehension's block) running. base: fixed through the whole law; s₀, H₀: the entry; outer: the frames whose slots others may change (a def's callers); stack: all frames that run;
   ex: iterators that were made ahead of the entry and are walked here (a comprehension's); fn: the names whose cells were made at the entry (a def: all; a comprehension's block: its own); calm: not within an except suite; pn: pins that every state bears; xe: what is wanted of an exception that leaves the code -/
structure Cx where
  prog : Program
  w : World
  K : PySem.W.Frag
  mg : Str → Option Value
  base : Heap
  A : Around
  N : List Str
  s₀ : Shared
  H₀ : Hp
  env : Env
  outer : List Env
  stack : List Env
  ex : List Addr
  fn : Str → Bool
  calm : Bool
  pn : List (Addr × Obj)
  xe : Value → Shared → Prop
/-- the callers' frames -/
def frs (l : List Env) : List Addr := l.filterMap (·.frame)
abbrev Cx.fs (X : Cx) : List Addr := frs X.outer

def Vis (sc : Scope) (x : Str) : Prop := sc.names.lookup x = some .local ∨ sc.names.lookup x = some .cell ∨ sc.names.lookup x = some .free
def Loc (sc : Scope) (x : Str) : Prop := sc.names.lookup x = some .local ∨ sc.names.lookup x = some .cell
def Look (env : Env) (h : Heap) (m : Str → Option Value) (x : Str) (u : Value) : Prop :=
  (env.kindOf x = some .local ∧ m x = some u) ∨ ((env.kindOf x = some .cell ∨ env.kindOf x = some .free) ∧ ∃ c, env.cells.lookup x = some c ∧ h.IsCell c (some u))

structure Cx.Ok (X : Cx) : Prop where
  mod : Mod X.K X.mg X.base
  kind : X.env.scope.kind = .function
  glob : X.env.globals = mainGlobals
  blt : X.env.builtins = builtinsNs
  above : X.s₀.heap.objs.size ≤ X.env.locals
  inj : ∀ x y c, X.env.cells.lookup x = some c → X.env.cells.lookup y = some c → x = y
  has : ∀ x, (X.env.kindOf x = some .cell ∨ X.env.kindOf x = some .free) → ∃ c, X.env.cells.lookup x = some c
  cab : ∀ x c, X.fn x = true → X.env.cells.lookup x = some c → X.s₀.heap.objs.size ≤ c
  hd : X.calm = true → X.A.handled = none
  frames : X.A.frames = some X.stack
  stk : X.stack = X.outer ∨ (X.stack = X.env :: X.outer ∧ X.env.frame = some X.env.locals)
  exf : ∀ b ∈ X.ex, b ≠ X.env.locals ∧ ∀ x c, X.env.cells.lookup x = some c → c ≠ b
  bs : ∀ b o, X.base.get? b = some o → X.s₀.heap.get? b = some o ∧ X.H₀ b = none
  bsz : X.base.objs.size ≤ X.s₀.heap.objs.size
  noex : ∀ b o, X.base.get? b = some o → b ∉ X.ex
  exfs : ∀ b ∈ X.ex, b ∉ X.fs
  funs : X.s₀.heap.FunFrames X.base X.outer
  frf : ∀ b ∈ X.fs, X.H₀ b = none

structure Inv (X : Cx) (pins : List (Addr × Obj)) (σ : List (Option V)) (H : Hp) (s : Shared) : Prop where
  ok : X.Ok
  os : s.os = X.s₀.os
  bare : AllBare s.gens
  base : Un X.fs X.ex X.H₀ H X.s₀.heap s.heap
  loc : ∃ m, s.heap.Ns X.env.locals m ∧ ∀ (i : Nat) (x : Str) (v : V), X.N[i]? = some x → σ[i]? = some (some v) → Vis X.env.scope x → ∃ u, RelV v u ∧ Look X.env s.heap m x u
  cell : ∀ x c, X.env.cells.lookup x = some c → ∃ v, s.heap.IsCell c v
  free : H X.env.locals = none
  freeC : ∀ x c, X.env.cells.lookup x = some c → H c = none
  pin : ∀ p ∈ X.pn ++ pins, s.heap.get? p.1 = some p.2 ∧ H p.1 = none ∧ p.1 ≠ X.env.locals ∧ p.1 ∉ X.fs ∧ ∀ v, p.2.data ≠ .cell v
  hok : HOk X.prog X.w H s.heap
  len : σ.length = X.N.length

section
variable {X : Cx} {pins : List (Addr × Obj)} {σ : List (Option V)} {H H' : Hp} {s : Shared} {h' : Heap}

theorem Cx.Ok.nofr (ok : X.Ok) {b : Addr} {o : Obj} (e : X.base.get? b = some o) : b ∉ X.fs := fun hb => by
  have := (ok.funs.mem hb).1
  rw [e] at this; cases this
theorem Inv.bs (I : Inv X pins σ H s) : ∀ b o, X.base.get? b = some o → s.heap.get? b = some o ∧ H b = none := fun b o e =>
  ⟨I.base.keep b o (I.ok.bs b o e).1 (I.ok.bs b o e).2 (I.ok.nofr e) (I.ok.noex b o e), I.base.free b o (I.ok.bs b o e).1 (I.ok.bs b o e).2 (I.ok.noex b o e)⟩
theorem Inv.bk (I : Inv X pins σ H s) : ∀ b o, X.base.get? b = some o → s.heap.get? b = some o := fun b o e => (I.bs b o e).1
theorem Inv.mod (I : Inv X pins σ H s) : Mod X.K X.mg X.base := I.ok.mod
theorem Inv.kIn (I : Inv X pins σ H s) : X.K.In s.heap := I.ok.mod.kin.keeps I.bk
theorem Inv.nolimit (I : Inv X pins σ H s) : s.heap.NoLimit := I.ok.mod.nolimit.keeps I.bk
/-- the frame over the base: for OpenK's rules (K.In X.base is I.mod.kin) -/
theorem Inv.fr (I : Inv X pins σ H s) : ∃ m, Fr X.base X.env.locals s.heap m :=
  let ⟨m, hn, _⟩ := I.loc
  ⟨m, hn, I.bk, Nat.le_trans I.ok.bsz I.ok.above⟩
theorem Inv.lt (I : Inv X pins σ H s) : X.env.locals < s.heap.objs.size := let ⟨_, hn, _⟩ := I.loc; hn.lt
theorem Inv.sz (I : Inv X pins σ H s) : X.s₀.heap.objs.size ≤ s.heap.objs.size := Nat.le_trans I.ok.above (Nat.le_of_lt I.lt)
theorem Inv.nofs (I : Inv X pins σ H s) {a : Addr} (h : s.heap.objs.size ≤ a) : a ∉ X.fs := fun hb => by
  obtain ⟨_, o, ho, _⟩ := I.ok.funs.mem hb
  exact absurd (Nat.lt_of_lt_of_le (Heap.lt_size ho) (Nat.le_trans I.sz h)) (Nat.lt_irrefl _)
theorem Inv.cne (I : Inv X pins σ H s) : ∀ x c, X.env.cells.lookup x = some c → c ≠ X.env.locals := fun x c e z => by
  obtain ⟨v, o, ho, hd⟩ := I.cell x c e
  obtain ⟨m, ⟨o', es, ep, ho', hd', _⟩, _⟩ := I.loc
  rw [z, ho'] at ho; cases ho; rw [hd'] at hd; cases hd
theorem Inv.funs (I : Inv X pins σ H s) : s.heap.FunFrames X.base X.outer := by
  have all : ∀ (l : List Env), (∀ b ∈ frs l, b ∈ X.fs) → X.s₀.heap.FunFrames X.base l → s.heap.FunFrames X.base l := by
    intro l
    induction l with
    | nil => intro _ _; trivial
    | cons env r ih =>
      intro hs hl
      obtain ⟨hk, ⟨L, o, hf, hn, ho, hd⟩, hr⟩ := hl
      have hL : L ∈ X.fs := hs L (by unfold frs; rw [List.filterMap_cons, hf]; exact List.mem_cons_self)
      obtain ⟨sl, e⟩ := I.base.slot L o ho (I.ok.frf L hL) hL fun z => I.ok.exfs L z hL
      exact ⟨hk, ⟨L, _, hf, hn, e, hd⟩, ih (fun b hb => hs b (by unfold frs; rw [List.filterMap_cons, hf]; exact List.mem_cons_of_mem _ hb)) hr⟩
  exact all X.outer (fun _ hb => hb) I.ok.funs

/-- the frames that run, for a call -/
theorem Inv.stack (I : Inv X pins σ H s) : s.heap.FunFrames X.base X.stack := by
  rcases I.ok.stk with e | ⟨e, hf⟩
  · rw [e]; exact I.funs
  · rw [e]
    obtain ⟨m, hn, _⟩ := I.loc
    refine .cons (by rw [I.ok.kind]; decide) hf hn ?_ I.funs
    exact Heap.get?_none_of_le (Nat.le_trans I.ok.bsz I.ok.above)
theorem Inv.stkSub (I : Inv X pins σ H s) : ∀ b ∈ frs X.stack, b ∈ X.env.locals :: X.fs := fun b hb => by
  rcases I.ok.stk with e | ⟨e, hf⟩
  · rw [e] at hb; exact List.mem_cons_of_mem _ hb
  · rw [e] at hb
    unfold frs at hb
    rw [List.filterMap_cons, hf] at hb
    exact hb
theorem Inv.stkFree (I : Inv X pins σ H s) : ∀ b ∈ frs X.stack, H b = none := fun b hb => by
  rcases List.mem_cons.mp (I.stkSub b hb) with e | hb
  · rw [e]; exact I.free
  · obtain ⟨_, o, ho, _⟩ := I.ok.funs.mem hb
    exact I.base.free b o ho (I.ok.frf b hb) fun z => I.ok.exfs b z hb

/-- THE STEP: the untracked objects but the frame and the records at ch are kept (the callers' frames up to slots), the frame's map is kept, the new abstract heap is held -/
theorem Inv.step {g' : Array GenState} {t' : Nat} {d' : Drawn} {ch : List Addr} (I : Inv X pins σ H s)
    (hch : ∀ b ∈ ch, (b ∈ X.ex ∨ X.s₀.heap.objs.size ≤ b) ∧ b ≠ X.env.locals ∧ (∀ x c, X.env.cells.lookup x = some c → c ≠ b) ∧ ∀ p ∈ X.pn ++ pins, p.1 ≠ b)
    (keep : ∀ b o, b ≠ X.env.locals → b ∉ X.fs → b ∉ ch → s.heap.get? b = some o → H b = none → h'.get? b = some o)
    (slot : ∀ b o, b ≠ X.env.locals → b ∈ X.fs → b ∉ ch → s.heap.get? b = some o → H b = none → ∃ sl, h'.get? b = some { o with slots := sl }) (free : ∀ b o, b ∉ ch → s.heap.get? b = some o → H b = none → H' b = none)
    (there : ∀ b o, b ∉ ch → s.heap.get? b = some o → ∃ o', h'.get? b = some o')
    (tups : ∀ b xs, H b = some (.tup xs) → H' b = some (.tup xs)) (frzs : ∀ b o u, H b = some (.frz o u) → H' b = some (.frz o u)) (tbls : ∀ b ps, H b = some (.tbl ps) → ∃ more, H' b = some (.tbl (ps ++ more)))
    (ns : ∀ m, s.heap.Ns X.env.locals m → h'.Ns X.env.locals m) (hok : HOk X.prog X.w H' h') (hg : AllBare g') :
    Inv X pins σ H' { s with heap := h', gens := g', drawn := d', toks := t' } := by
  have neL : ∀ b o, X.s₀.heap.get? b = some o → b ≠ X.env.locals := fun b o e => Nat.ne_of_lt (Nat.lt_of_lt_of_le (Heap.lt_size e) I.ok.above)
  have neC : ∀ b o, X.s₀.heap.get? b = some o → b ∉ X.ex → b ∉ ch := fun b o e hx hb => by
    rcases (hch b hb).1 with z | z
    · exact hx z
    · exact absurd (Nat.lt_of_lt_of_le (Heap.lt_size e) z) (Nat.lt_irrefl _)
  have cellK : ∀ x c, X.env.cells.lookup x = some c → ∀ v, s.heap.IsCell c v → h'.IsCell c v := fun x c e v ⟨o, ho, hd⟩ => by
    have nch : c ∉ ch := fun z => (hch c z).2.2.1 x c e rfl
    by_cases hc : c ∈ X.fs
    · obtain ⟨sl, q⟩ := slot c o (I.cne x c e) hc nch ho (I.freeC x c e)
      exact ⟨_, q, hd⟩
    · exact ⟨o, keep c o (I.cne x c e) hc nch ho (I.freeC x c e), hd⟩
  refine ⟨I.ok, I.os, hg, ⟨fun b o e n hb hx => ?_, fun b o e n hb hx => ?_, fun b o e n hx => ?_, fun b o e hx => ?_, fun b xs e => tups b xs (I.base.tups b xs e), fun b o xs e => frzs b o xs (I.base.frzs b o xs e), fun b ps e => ?_⟩, ?_, fun x c e => ?_, ?_, fun x c e => ?_, fun p hp => ?_, hok, I.len⟩
  · exact keep b o (neL b o e) hb (neC b o e hx) (I.base.keep b o e n hb hx) (I.base.free b o e n hx)
  · obtain ⟨sl, e1⟩ := I.base.slot b o e n hb hx
    obtain ⟨sl', e2⟩ := slot b _ (neL b o e) hb (neC b o e hx) e1 (I.base.free b o e n hx)
    exact ⟨sl', e2⟩
  · obtain ⟨o', e1⟩ := I.base.there b o e hx
    exact free b o' (neC b o e hx) e1 (I.base.free b o e n hx)
  · obtain ⟨o', e1⟩ := I.base.there b o e hx
    exact there b o' (neC b o e hx) e1
  · obtain ⟨m1, e1⟩ := I.base.tbls b ps e
    obtain ⟨m2, e2⟩ := tbls b _ e1
    exact ⟨m1 ++ m2, by rw [e2, Array.append_assoc]⟩
  · obtain ⟨m, hn, hl⟩ := I.loc
    refine ⟨m, ns m hn, fun i x v e1 e2 e3 => ?_⟩
    obtain ⟨u, r, l⟩ := hl i x v e1 e2 e3
    refine ⟨u, r, ?_⟩
    rcases l with l | ⟨k, c, e, z⟩
    · exact .inl l
    · exact .inr ⟨k, c, e, cellK x c e _ z⟩
  · obtain ⟨v, z⟩ := I.cell x c e
    exact ⟨v, cellK x c e v z⟩
  · obtain ⟨m, ⟨o, _, _, ho, _⟩, _⟩ := I.loc
    exact free _ o (fun z => (hch _ z).2.1 rfl) ho I.free
  · obtain ⟨v, o, ho, hd⟩ := I.cell x c e
    exact free c o (fun z => (hch c z).2.2.1 x c e rfl) ho (I.freeC x c e)
  · obtain ⟨e, n, ne, nf, d⟩ := I.pin p hp
    have nch : p.1 ∉ ch := fun z => (hch p.1 z).2.2.2 p hp rfl
    exact ⟨keep p.1 p.2 ne nf nch e n, free p.1 p.2 nch e n, ne, nf, d⟩
/-- .. where the frame's own object is kept too -/
theorem Inv.un {t' : Nat} (I : Inv X pins σ H s) (u : Un X.fs [] H H' s.heap h') (hok : HOk X.prog X.w H' h') : Inv X pins σ H' { s with heap := h', toks := t' } := by
  obtain ⟨m, ⟨o, es, ep, ho, r⟩, _⟩ := id I.loc
  obtain ⟨sl, hL⟩ := u.any ho I.free (by simp)
  exact I.step (g' := s.gens) (d' := s.drawn) (ch := []) (fun _ z => nomatch z) (fun b o _ hb _ e n => u.keep b o e n hb (by simp)) (fun b o _ hb _ e n => u.slot b o e n hb (by simp)) (fun b o _ e n => u.free b o e n (by simp)) (fun b o _ e => u.there b o e (by simp)) u.tups u.frzs u.tbls (fun m' hm => by
    obtain ⟨o', es', ep', ho', r'⟩ := hm
    rw [ho] at ho'; cases ho'
    exact ⟨_, es', ep', hL, r'⟩) hok I.bare
/-- behind a call (or a comprehension's block): the slots of this frame may have changed too, the records at ch may have turned -/
theorem Inv.call {g' : Array GenState} {t' : Nat} {d' : Drawn} {ch : List Addr} (I : Inv X pins σ H s) (u : Un (frs X.stack) ch H H' s.heap h') (hok : HOk X.prog X.w H' h') (hg : AllBare g')
    (hch : ∀ b ∈ ch, (b ∈ X.ex ∨ X.s₀.heap.objs.size ≤ b) ∧ b ≠ X.env.locals ∧ (∀ x c, X.env.cells.lookup x = some c → c ≠ b) ∧ ∀ p ∈ X.pn ++ pins, p.1 ≠ b) :
    Inv X pins σ H' { s with heap := h', gens := g', drawn := d', toks := t' } := by
  obtain ⟨m, ⟨o, es, ep, ho, r⟩, _⟩ := id I.loc
  obtain ⟨sl, hL⟩ := u.any ho I.free fun z => (hch _ z).2.1 rfl
  exact I.step (ch := ch) hch (fun b o hL hb hc e n => u.keep b o e n (fun z => (List.mem_cons.mp (I.stkSub b z)).elim hL hb) hc) (fun b o _ _ hc e n => u.any e n hc) (fun b o hc e n => u.free b o e n hc) (fun b o hc e => u.there b o e hc) u.tups u.frzs u.tbls (fun m' hm => by
    obtain ⟨o', es', ep', ho', r'⟩ := hm
    rw [ho] at ho'; cases ho'
    exact ⟨_, es', ep', hL, r'⟩) hok hg
/-- an untracked record of ours (an iterator) has turned -/
theorem Inv.turned {t' : Nat} {it : Addr} (I : Inv X pins σ H s) (k : ∀ b o, b ≠ it → s.heap.get? b = some o → h'.get? b = some o) (hn : H it = none) (hL : it ≠ X.env.locals)
    (h1 : it ∈ X.ex ∨ X.s₀.heap.objs.size ≤ it) (h2 : ∀ x c, X.env.cells.lookup x = some c → c ≠ it) (h3 : ∀ p ∈ X.pn ++ pins, p.1 ≠ it) : Inv X pins σ H { s with heap := h', toks := t' } := by
  have nit : ∀ b u, H b = some u → b ≠ it := fun b u e z => by rw [z, hn] at e; cases e
  refine I.step (g' := s.gens) (d' := s.drawn) (ch := [it]) (fun b hb => ?_) (fun b o _ _ hc e _ => k b o (fun z => hc (by simp [z])) e) (fun b o _ _ hc e _ => ⟨o.slots, k b o (fun z => hc (by simp [z])) e⟩) (fun _ _ _ _ n => n)
    (fun b o hc e => ⟨o, k b o (fun z => hc (by simp [z])) e⟩) (fun _ _ e => e) (fun _ _ _ e => e) (fun b ps e => ⟨#[], by rw [e]; simp⟩) (fun m hm => ?_) (fun b u e => ?_) I.bare
  · have e : b = it := by simpa using hb
    subst e
    exact ⟨h1, hL, h2, h3⟩
  · obtain ⟨o, es, ep, ho, r⟩ := hm
    exact ⟨o, es, ep, k _ o (Ne.symm hL) ho, r⟩
  · refine (I.hok b u e).stay (fun c v hc q => k c v ?_ q) (fun _ q => q) fun _ _ q => q
    rcases hc with z | z
    · rw [z]; exact nit b u e
    · exact nit c _ z
theorem Inv.tok (I : Inv X pins σ H s) (t : Nat) : Inv X pins σ H { s with toks := t } := I.un (h' := s.heap) (t' := t) Un.refl I.hok
/-- all objects kept -/
theorem Inv.kept {t' : Nat} (I : Inv X pins σ H s) (k : ∀ b u, s.heap.get? b = some u → h'.get? b = some u) : Inv X pins σ H { s with heap := h', toks := t' } := I.un (Un.kept k) (I.hok.kept k)
/-- a new object laid and tracked -/
theorem Inv.laid {a : Addr} {o : HO} {t' : Nat} (I : Inv X pins σ H s) (k : ∀ b u, s.heap.get? b = some u → h'.get? b = some u) (hp : s.heap.objs.size ≤ a) (new : ObjOk X.prog X.w (upd H a o) h' a o) :
    Inv X pins σ (upd H a o) { s with heap := h', toks := t' } := I.un (Un.laid k hp (I.hok.fresh hp)) (I.hok.laid k hp new)
/-- an object written -/
theorem Inv.write {x e : Addr} {o : HO} {t' : Nat} (I : Inv X pins σ H s) (mu : Mut (H x)) (he : e = x ∨ H e = some (.own x)) (k : ∀ b u, b ≠ e → s.heap.get? b = some u → h'.get? b = some u) (heo : ∃ u, h'.get? e = some u)
    (new : ObjOk X.prog X.w (upd H x o) h' x o) : Inv X pins σ (upd H x o) { s with heap := h', toks := t' } := I.un (Un.write mu he k heo) (I.hok.write mu he k heo new)
theorem Inv.pins_of {pins' : List (Addr × Obj)} (I : Inv X pins σ H s) (h : ∀ p ∈ pins', s.heap.get? p.1 = some p.2 ∧ H p.1 = none ∧ p.1 ≠ X.env.locals ∧ p.1 ∉ X.fs ∧ ∀ v, p.2.data ≠ .cell v) : Inv X pins' σ H s :=
  ⟨I.ok, I.os, I.bare, I.base, I.loc, I.cell, I.free, I.freeC, fun p hp => (List.mem_append.mp hp).elim (fun z => I.pin p (List.mem_append_left _ z)) (h p), I.hok, I.len⟩

theorem nodup_ix {N : List Str} (hN : N.Nodup) {i j : Nat} {x : Str} (a : N[i]? = some x) (b : N[j]? = some x) : i = j := by
  obtain ⟨h1, e1⟩ := List.getElem?_eq_some_iff.mp a
  obtain ⟨h2, e2⟩ := List.getElem?_eq_some_iff.mp b
  exact (List.getElem_inj hN).mp (e1.trans e2.symm)

/-- a name is stored; what changed -/
theorem store_ok2 {M : Model} {A : Around} {E : Value → Shared → Prop} {i : Nat} {x : Str} {v : V} {u : Value} {Q : Unit → Shared → Prop} (I : Inv X pins σ H s) (hN : X.N.Nodup) (hi : X.N[i]? = some x) (hx : Loc X.env.scope x) (r : RelV v u)
    (h : ∀ s', Inv X pins (σ.set i (some v)) H s' → (∃ a, Heap.SameBut a s.heap s'.heap ∧ (a = X.env.locals ∨ X.env.cells.lookup x = some a)) → Q () s') (hf : X.fn x = true ∨ X.env.scope.names.lookup x = some .local := by first | exact .inl rfl | exact .inr rfl | assumption) : wpAny M A (storeName X.env x u) Q E s := by
  obtain ⟨m, hn, hl⟩ := id I.loc
  have hcls : (X.env.scope.kind == .class || (X.env.scope.kind == .module && X.env.locals != X.env.globals)) = false := by rw [I.ok.kind]; rfl
  have hiσ : i < σ.length := by rw [I.len]; exact (List.getElem?_eq_some_iff.mp hi).1
  have cne := I.cne
  have tracked : ∀ {a : Addr} {h' : Heap}, (∃ o, s.heap.get? a = some o ∧ H a = none) → Heap.SameBut a s.heap h' → HOk X.prog X.w H h' := fun {a h'} ha hs b ob e => by
    obtain ⟨_, _, hfree⟩ := ha
    refine (I.hok b ob e).stay (fun c w' hc q => (hs.2 c ?_).trans q) (fun _ q => q) fun _ _ q => q
    rintro rfl
    rcases hc with rfl | hc
    · rw [hfree] at e; cases e
    · rw [hfree] at hc; cases hc
  rcases hx with hk | hk
  · refine wpAny_storeName_local hk hn (fun h' hn' hs => ?_) hcls
    obtain ⟨oL, _, _, hoL, _⟩ := id hn
    refine h _ ⟨I.ok, I.os, I.bare, ⟨fun b o e n hb hx => ?_, fun b o e n hb hx => ?_, I.base.free, fun b o e hx => ?_, I.base.tups, I.base.frzs, I.base.tbls⟩, ⟨_, hn', fun j y v' e1 e2 e3 => ?_⟩, fun y c e => ?_, I.free, I.freeC, fun p hp => ?_, tracked ⟨oL, hoL, I.free⟩ hs, by simpa using I.len⟩ ⟨_, hs, .inl rfl⟩
    · exact (hs.2 b (Nat.ne_of_lt (Nat.lt_of_lt_of_le (Heap.lt_size e) I.ok.above))).trans (I.base.keep b o e n hb hx)
    · obtain ⟨sl, e1⟩ := I.base.slot b o e n hb hx
      exact ⟨sl, (hs.2 b (Nat.ne_of_lt (Nat.lt_of_lt_of_le (Heap.lt_size e) I.ok.above))).trans e1⟩
    · obtain ⟨o', e1⟩ := I.base.there b o e hx
      exact ⟨o', (hs.2 b (Nat.ne_of_lt (Nat.lt_of_lt_of_le (Heap.lt_size e) I.ok.above))).trans e1⟩
    · by_cases hj : j = i
      · subst hj
        rw [hi] at e1; cases e1
        rw [List.getElem?_set_self hiσ] at e2
        cases e2
        exact ⟨u, r, .inl ⟨hk, by simp⟩⟩
      · rw [List.getElem?_set_ne (Ne.symm hj)] at e2
        obtain ⟨u', r', q⟩ := hl j y v' e1 e2 e3
        refine ⟨u', r', ?_⟩
        rcases q with ⟨k, e⟩ | ⟨k, c, e, z⟩
        · refine .inl ⟨k, ?_⟩
          have : y ≠ x := fun e => hj (nodup_ix hN e1 (e ▸ hi))
          simp [this, e]
        · exact .inr ⟨k, c, e, z.sameBut hs (cne y c e)⟩
    · obtain ⟨w', z⟩ := I.cell y c e
      exact ⟨w', z.sameBut hs (cne y c e)⟩
    · obtain ⟨e, n, ne, nf, d⟩ := I.pin p hp
      exact ⟨(hs.2 p.1 ne).trans e, n, ne, nf, d⟩
  · have hfn : X.fn x = true := by
      rcases hf with z | z
      · exact z
      · rw [z] at hk; cases hk
    obtain ⟨c, hc⟩ := I.ok.has x (.inl hk)
    obtain ⟨w', z⟩ := I.cell x c hc
    refine wpAny_storeName_cell I.ok.kind hk hc z (fun h' hc' hs => ?_)
    obtain ⟨oc, hoc, hocd⟩ := id z
    refine h { s with heap := h' } ⟨I.ok, I.os, I.bare, ⟨fun b o e n hb hx => ?_, fun b o e n hb hx => ?_, I.base.free, fun b o e hx => ?_, I.base.tups, I.base.frzs, I.base.tbls⟩, ⟨m, hn.sameBut hs (Ne.symm (cne x c hc)), fun j y v' e1 e2 e3 => ?_⟩, fun y c' e => ?_, I.free, I.freeC, fun p hp => ?_, tracked ⟨oc, hoc, I.freeC x c hc⟩ hs, by simpa using I.len⟩ ⟨c, hs, .inr hc⟩
    · exact (hs.2 b (Nat.ne_of_lt (Nat.lt_of_lt_of_le (Heap.lt_size e) (I.ok.cab x c hfn hc)))).trans (I.base.keep b o e n hb hx)
    · obtain ⟨sl, e1⟩ := I.base.slot b o e n hb hx
      exact ⟨sl, (hs.2 b (Nat.ne_of_lt (Nat.lt_of_lt_of_le (Heap.lt_size e) (I.ok.cab x c hfn hc)))).trans e1⟩
    · obtain ⟨o', e1⟩ := I.base.there b o e hx
      exact ⟨o', (hs.2 b (Nat.ne_of_lt (Nat.lt_of_lt_of_le (Heap.lt_size e) (I.ok.cab x c hfn hc)))).trans e1⟩
    · by_cases hj : j = i
      · subst hj
        rw [hi] at e1; cases e1
        rw [List.getElem?_set_self hiσ] at e2
        cases e2
        exact ⟨u, r, .inr ⟨.inl hk, c, hc, hc'⟩⟩
      · rw [List.getElem?_set_ne (Ne.symm hj)] at e2
        obtain ⟨u', r', q⟩ := hl j y v' e1 e2 e3
        refine ⟨u', r', ?_⟩
        rcases q with q | ⟨k, c', e, z'⟩
        · exact .inl q
        · refine .inr ⟨k, c', e, z'.sameBut hs ?_⟩
          rintro rfl
          exact hj (nodup_ix hN e1 (I.ok.inj _ _ _ e hc ▸ hi))
    · by_cases hcc : c' = c
      · subst hcc; exact ⟨_, hc'⟩
      · obtain ⟨w2, z2⟩ := I.cell y c' e
        exact ⟨w2, z2.sameBut hs hcc⟩
    · obtain ⟨e, n, ne, nf, d⟩ := I.pin p hp
      refine ⟨(hs.2 p.1 ?_).trans e, n, ne, nf, d⟩
      intro q
      rw [q, hoc] at e
      have q' : oc = p.2 := Option.some.inj e
      exact d w' (by rw [← q']; exact hocd)
theorem store_ok {M : Model} {A : Around} {E : Value → Shared → Prop} {i : Nat} {x : Str} {v : V} {u : Value} {Q : Unit → Shared → Prop} (I : Inv X pins σ H s) (hN : X.N.Nodup) (hi : X.N[i]? = some x) (hx : Loc X.env.scope x) (r : RelV v u)
    (h : ∀ s', Inv X pins (σ.set i (some v)) H s' → Q () s') (hf : X.fn x = true ∨ X.env.scope.names.lookup x = some .local := by first | exact .inl rfl | exact .inr rfl | assumption) : wpAny M A (storeName X.env x u) Q E s :=
  store_ok2 I hN hi hx r (fun s' I' _ => h s' I') hf
end

/-- an exception: its class, its own dict's address (where it has one), the abstract heap behind it -/
abbrev XK := Value → Option Addr → Hp → Prop
abbrev St := List (Option V)
abbrev VK := V → Hp → Prop
/-- an expression's reading; a test's; an argument list's -/
abbrev TE := St → Hp → VK → Prop
abbrev TT := St → Hp → (Bool → Hp → Prop) → Prop
abbrev TA := St → Hp → (List V → Hp → Prop) → Prop
/-- what is wanted behind a statement -/
structure Ends where
  nx : St → Hp → Prop
  rt : VK
  bk : St → Hp → Prop := fun _ _ => False
  ct : St → Hp → Prop := fun _ _ => False
abbrev TS := Ends → St → Hp → Prop

def EP (X : Cx) (pins : List (Addr × Obj)) (σ : St) (Q : VK) (u : Value) (s' : Shared) : Prop := ∃ v H', Inv X pins σ H' s' ∧ RelV v u ∧ Q v H'
def TP (X : Cx) (pins : List (Addr × Obj)) (σ : St) (Q : Bool → Hp → Prop) (b : Bool) (s' : Shared) : Prop := ∃ H', Inv X pins σ H' s' ∧ Q b H'
def AP (X : Cx) (pins : List (Addr × Obj)) (σ : St) (Q : List V → Hp → Prop) (us : List Value) (s' : Shared) : Prop := ∃ vs H', Inv X pins σ H' s' ∧ Vals vs us ∧ Q vs H'
def SP (X : Cx) (pins : List (Addr × Obj)) (D : Ends) (f : Flow) (s' : Shared) : Prop :=
  match f with
  | .next => ∃ σ' H', Inv X pins σ' H' s' ∧ D.nx σ' H'
  | .brk => ∃ σ' H', Inv X pins σ' H' s' ∧ D.bk σ' H'
  | .cont => ∃ σ' H', Inv X pins σ' H' s' ∧ D.ct σ' H'
  | .ret u => ∃ v σ' H', Inv X pins σ' H' s' ∧ RelV v u ∧ D.rt v H'

def PE (X : Cx) (e : Expr) (t : TE) : Prop :=
  ∀ (pins : List (Addr × Obj)) (s : Shared) (σ : St) (H : Hp) (Q : VK), Inv X pins σ H s → t σ H Q → wpAny (model X.prog X.w) X.A (eval e X.env) (EP X pins σ Q) X.xe s
def PT (X : Cx) (e : Expr) (t : TT) : Prop :=
  ∀ (pins : List (Addr × Obj)) (s : Shared) (σ : St) (H : Hp) (Q : Bool → Hp → Prop), Inv X pins σ H s → t σ H Q → wpAny (model X.prog X.w) X.A (isTrue e X.env (eval e X.env)) (TP X pins σ Q) X.xe s
/-- a test whatever its 'whole' is (and, or) -/
def PW (X : Cx) (e : Expr) (t : TT) : Prop :=
  ∀ (whole : Sem Value) (pins : List (Addr × Obj)) (s : Shared) (σ : St) (H : Hp) (Q : Bool → Hp → Prop), Inv X pins σ H s → t σ H Q → wpAny (model X.prog X.w) X.A (isTrue e X.env whole) (TP X pins σ Q) X.xe s
theorem PW.pt {X : Cx} {e : Expr} {t : TT} (h : PW X e t) : PT X e t := h _
/-- an argument list (no star), from the left -/
def PA (X : Cx) (es : List Expr) (t : TA) : Prop :=
  ∀ (pos : Pos) (pins : List (Addr × Obj)) (s : Shared) (σ : St) (H : Hp) (Q : List V → Hp → Prop), Inv X pins σ H s → t σ H Q → wpAny (model X.prog X.w) X.A (spliced (backTo pos (starEach es X.env))) (AP X pins σ Q) X.xe s
def PS (X : Cx) (st : Stmt) (t : TS) : Prop :=
  ∀ (pins : List (Addr × Obj)) (s : Shared) (σ : St) (H : Hp) (D : Ends), Inv X pins σ H s → t D σ H → wpAny (model X.prog X.w) X.A (exec st X.env) (SP X pins D) X.xe s
def PSs (X : Cx) (st : List Stmt) (t : TS) : Prop :=
  ∀ (pins : List (Addr × Obj)) (s : Shared) (σ : St) (H : Hp) (D : Ends), Inv X pins σ H s → t D σ H → wpAny (model X.prog X.w) X.A (execs st X.env) (SP X pins D) X.xe s
/-- weaken the end -/
theorem thn {α : Type} {t : Sem α} {Q Q' : α → Shared → Prop} {M : Model} {A : Around} {E : Value → Shared → Prop} {s : Shared} (h : wpAny M A t Q E s) (hQ : ∀ a s, Q a s → Q' a s) : wpAny M A t Q' E s := wpAny_mono h hQ fun _ _ x => x
end L2

namespace L2
open PySem PySem.Spec PyProof.Rows
section
variable {X : Cx}

def tVar (i : Nat) : TE := fun σ H Q => ∃ v, σ[i]? = some (some v) ∧ Q v H
def tC (v : V) : TE := fun _ H Q => Q v H
theorem pe_var {i : Nat} {x : Str} {pos : Pos} (hN : X.N[i]? = some x) (hv : Vis X.env.scope x) (hd : (x == ("__debug__" : Str)) = false := by decide) (hcd : (x == ("__classdict__" : Str)) = false := by decide) : PE X (.Name x pos) (tVar i) := by
  intro pins s σ H Q I h
  obtain ⟨v, e, h⟩ := h
  obtain ⟨m, hn, hl⟩ := I.loc
  obtain ⟨u, r, l⟩ := hl i x v hN e hv
  have fin : EP X pins σ Q u s := ⟨v, H, I, r, h⟩
  rcases l with ⟨hk, hm⟩ | ⟨hk, c, hc, hcell⟩
  · exact wpAny_Name (wpAny_loadName_local I.ok.kind hk hn hm fin) hd
  · rcases hk with hk | hk
    · exact wpAny_Name (wpAny_loadName_cell I.ok.kind hk hc hcell fin) hd
    · exact wpAny_Name (wpAny_loadName_free I.ok.kind hk hc hcell fin hcd) hd
theorem pe_int {i j pos} : PE X (.Constant (.int i) j pos) (tC (.int i)) := fun _ _ _ H _ I h => wpAny_Constant_int ⟨.int i, H, I.tok _, ⟨_, rfl⟩, h⟩
theorem pe_bl {b j pos} : PE X (.Constant (.bool b) j pos) (tC (.bl b)) := fun _ _ _ H _ I h => Constant_bool ⟨.bl b, H, I, rfl, h⟩
theorem pe_non {j pos} : PE X (.Constant .none j pos) (tC .non) := fun _ _ _ H _ I h => Constant_none ⟨.non, H, I, rfl, h⟩
theorem pe_str {x j pos} : PE X (.Constant (.str x) j pos) (tC (.str x)) := fun _ _ _ H _ I h => Calls.Constant_str ⟨.str x, H, I.tok _, ⟨_, rfl⟩, h⟩

/-- a global name of the def -/
def Gl (X : Cx) (x : Str) : Prop := X.env.kindOf x = some .globalImplicit
theorem ld_glob {E : Value → Shared → Prop} {pins : List (Addr × Obj)} {s : Shared} {σ : St} {H : Hp} {x : Str} {u : Value} {pos : Pos} {Q : Value → Shared → Prop} (I : Inv X pins σ H s) (hg : Gl X x) (hm : X.mg x = some u) (h : Q u s)
    (hd : (x == ("__debug__" : Str)) = false := by decide) : wpAny (model X.prog X.w) X.A (eval (.Name x pos) X.env) Q E s :=
  Calls.Name_function_global I.ok.kind hg (Calls.loadGlobal_global (by rw [I.ok.glob]; exact I.mod.glob.keeps I.bk) hm h) hd
theorem ld_blt {E : Value → Shared → Prop} {pins : List (Addr × Obj)} {s : Shared} {σ : St} {H : Hp} {x : Str} {u : Value} {pos : Pos} {Q : Value → Shared → Prop} (I : Inv X pins σ H s) (hg : Gl X x) (hm : X.mg x = none) (hv : bootBuiltins x = some u) (h : Q u s)
    (hn : x ≠ "__name__" := by decide) (hd : (x == ("__debug__" : Str)) = false := by decide) : wpAny (model X.prog X.w) X.A (eval (.Name x pos) X.env) Q E s := by
  obtain ⟨mb, h1, h2⟩ := I.mod.blt
  exact Calls.Name_function_global I.ok.kind hg (Calls.loadGlobal_builtin (by rw [I.ok.glob]; exact I.mod.glob.keeps I.bk) hm (by rw [I.ok.blt]; exact h1.keeps I.bk) ((h2 x hn).trans hv) h) hd
/-- a module's constant, a class, a function, as a value -/
theorem pe_glob {x : Str} {v : V} {u : Value} {pos : Pos} (hg : Gl X x) (hm : X.mg x = some u) (r : RelV v u) (hd : (x == ("__debug__" : Str)) = false := by decide) : PE X (.Name x pos) (tC v) :=
  fun _ _ _ H _ I h => ld_glob I hg hm ⟨v, H, I, r, h⟩ hd
theorem pe_bltn {x : Str} {v : V} {u : Value} {pos : Pos} (hg : Gl X x) (hm : X.mg x = none) (hv : bootBuiltins x = some u) (r : RelV v u) (hn : x ≠ "__name__" := by decide) (hd : (x == ("__debug__" : Str)) = false := by decide) : PE X (.Name x pos) (tC v) :=
  fun _ _ _ H _ I h => ld_blt I hg hm hv ⟨v, H, I, r, h⟩ hn hd

variable {a b : Expr} {ta tb : TE} {pos : Pos}
def PC (X : Cx) (op : CmpOp) (a b : Expr) (t : TE) : Prop :=
  ∀ (pins : List (Addr × Obj)) (s : Shared) (σ : St) (H : Hp) (Q : VK), Inv X pins σ H s → t σ H Q →
    wpAny (model X.prog X.w) X.A (eval a X.env) (fun v s₁ => wpAny (model X.prog X.w) X.A (eval b X.env) (fun u s₂ => wpAny (model X.prog X.w) X.A (compareOp op v u) (EP X pins σ Q) X.xe s₂) X.xe s₁) X.xe s
theorem nobehind (b : Expr) {op : CmpOp} (h : op ≠ .In) (h2 : op ≠ .NotIn) : behindInMarks op b = false := by
  have e1 : (op == CmpOp.In) = false := by cases op <;> first | rfl | exact absurd rfl h
  have e2 : (op == CmpOp.NotIn) = false := by cases op <;> first | rfl | exact absurd rfl h2
  cases b <;> simp [behindInMarks, e1, e2]
/-- is None -/
def tIsN (ta : TE) : TE := fun σ H Q => ta σ H fun x H1 => Q (.bl (decide (x = .non))) H1
def tNotN (ta : TE) : TE := fun σ H Q => ta σ H fun x H1 => Q (.bl (!decide (x = .non))) H1
theorem RelV.none_iff {x : V} {v : Value} (r : RelV x v) : (v == Value.none) = decide (x = .non) := by
  cases x with
  | non => cases r; rfl
  | bl _ => cases r; rfl
  | int _ => obtain ⟨t, rfl⟩ := r; rfl
  | str _ => obtain ⟨t, rfl⟩ := r; rfl
  | byt _ => obtain ⟨t, rfl⟩ := r; rfl
  | flt _ => obtain ⟨t, rfl⟩ := r; rfl
  | ref _ => cases r; rfl
  | ty _ => cases r; rfl
theorem pc_isN {j pos'} (ha : PE X a ta) : PC X .Is a (.Constant .none j pos') (tIsN ta) := by
  intro pins s σ H Q I h
  refine thn (ha pins s σ H _ I h) fun v s1 ⟨x, H1, I1, r1, q1⟩ => ?_
  exact Constant_none (is_none_gen ⟨.bl _, H1, I1, by rw [r1.none_iff]; rfl, q1⟩)
theorem pc_notN {j pos'} (ha : PE X a ta) : PC X .IsNot a (.Constant .none j pos') (tNotN ta) := by
  intro pins s σ H Q I h
  refine thn (ha pins s σ H _ I h) fun v s1 ⟨x, H1, I1, r1, q1⟩ => ?_
  exact Constant_none (isnot_none_gen ⟨.bl _, H1, I1, by rw [r1.none_iff]; rfl, q1⟩)
/-- a comparison as a value, as a test -/
def tB (t : TE) : TT := fun σ H Q => t σ H fun x H1 => ∃ c, x = .bl c ∧ Q c H1
theorem pe_cmp {op : CmpOp} {t : TE} (h : PC X op a b t) (h1 : behindInMarks op b = false := by first | exact nobehind _ (by decide) (by decide) | rfl) : PE X (.Compare a [op] [b] pos) t := fun pins s σ H Q I hw => wpAny_Compare1 (h pins s σ H Q I hw) h1
theorem pt_cmp {op : CmpOp} {t : TE} (h : PC X op a b t) (h1 : behindInMarks op b = false := by first | exact nobehind _ (by decide) (by decide) | rfl) : PT X (.Compare a [op] [b] pos) (tB t) := by
  intro pins s σ H Q I hw
  refine wpAny_isTrue_Compare1 (thn (h pins s σ H _ I hw) fun v s1 h1 => thn h1 fun u s2 h2 => thn h2 fun c s3 ⟨x, H1, I1, r1, q1⟩ => ?_) h1
  obtain ⟨d, rfl, q⟩ := q1
  cases r1
  exact wpAny_truthy_bool ⟨H1, I1, q⟩
variable {tA tB' : TT} {rest : List Expr}
def tAnd (t u : TT) : TT := fun σ H Q => t σ H fun c H1 => if c = true then u σ H1 Q else Q false H1
def tOr (t u : TT) : TT := fun σ H Q => t σ H fun c H1 => if c = true then Q true H1 else u σ H1 Q
def tNot (t : TT) : TT := fun σ H Q => t σ H fun c H1 => Q (!c) H1
end
end L2

namespace L2
open PySem PySem.Spec PyProof.Rows

def SqL (K : PySem.W.Frag) (H : Hp) (a : Addr) (xs : List V) : Prop :=
  Rd H a (.lst xs) ∨
    ∃ (o : Obj) (its : Array Value) (n : Nat), K.lookup a = some o ∧ o.cls = .type "list" ∧ o.dict = none ∧ o.data = .seq its n ∧ its.size ≤ sizeLine ∧ Vals xs its.toList
def SqT (K : PySem.W.Frag) (H : Hp) (a : Addr) (xs : List V) : Prop :=
  Rd H a (.tup xs) ∨
    ∃ (o : Obj) (its : Array Value) (n : Nat), K.lookup a = some o ∧ o.cls = .type "tuple" ∧ o.data = .seq its n ∧ its.size ≤ sizeLine ∧ Vals xs its.toList
def absV : Value → Option V
  | .none => some .non
  | .bool b => some (.bl b)
  | .int i _ => some (.int i)
  | .str x _ => some (.str x)
  | .bytes b _ => some (.byt b)
  | .float b _ => some (.flt b)
  | .ref a => some (.ref a)
  | .type n => some (.ty n)
  | _ => none
theorem RelV.abs {x : V} {u : Value} (r : RelV x u) : absV u = some x := by
  cases x with
  | non => cases r; rfl
  | bl _ => cases r; rfl
  | int _ => obtain ⟨t, rfl⟩ := r; rfl
  | str _ => obtain ⟨t, rfl⟩ := r; rfl
  | byt _ => obtain ⟨t, rfl⟩ := r; rfl
  | flt _ => obtain ⟨t, rfl⟩ := r; rfl
  | ref _ => cases r; rfl
  | ty _ => cases r; rfl
theorem RelV.inj {x y : V} {u : Value} (r : RelV x u) (q : RelV y u) : x = y := Option.some.inj (r.abs.symm.trans q.abs)
theorem Vals.inj : ∀ {xs ys : List V} {us : List Value}, Vals xs us → Vals ys us → xs = ys
  | _, _, _, .nil, .nil => rfl
  | _, _, _, .cons r t, .cons r' t' => by rw [r.inj r', Vals.inj t t']
section
variable {X : Cx} {pins : List (Addr × Obj)} {σ : St} {H : Hp} {s : Shared} {a : Addr} {xs ys : List V}
theorem SqL.of {K : PySem.W.Frag} (h : H a = some (.lst xs)) : SqL K H a xs := .inl (.inl h)
theorem SqT.of {K : PySem.W.Frag} (h : H a = some (.tup xs)) : SqT K H a xs := .inl (.inl h)
theorem Inv.list (I : Inv X pins σ H s) (h : SqL X.K H a xs) : ∃ its : List Value, Vals xs its ∧ PlainL s.heap a its.toArray ∧ xs.length ≤ sizeLine := by
  rcases h with h | ⟨o, its, n, hk, hc, hd, hs, hz, r⟩
  · obtain ⟨z, its, n, r, e⟩ := h.ok I.hok
    exact ⟨its, r, ⟨_, n, e, rfl, rfl, rfl⟩, z⟩
  · refine ⟨its.toList, r, ⟨o, n, I.kIn a o hk, hc, hd, by simpa using hs⟩, ?_⟩
    have e := r.length
    simp only [Array.length_toList] at e
    omega
theorem Inv.tuple (I : Inv X pins σ H s) (h : SqT X.K H a xs) : ∃ its : List Value, Vals xs its ∧ IsTup s.heap a its.toArray ∧ xs.length ≤ sizeLine := by
  rcases h with h | ⟨o, its, n, hk, hc, hs, hz, r⟩
  · obtain ⟨z, its, r, p⟩ := h.ok I.hok
    exact ⟨its, r, p, z⟩
  · refine ⟨its.toList, r, ⟨o, I.kIn a o hk, hc, n, by simpa using hs⟩, ?_⟩
    have e := r.length
    simp only [Array.length_toList] at e
    omega
theorem Inv.list_inj (I : Inv X pins σ H s) (h : SqL X.K H a xs) (h' : SqL X.K H a ys) : xs = ys := by
  obtain ⟨its, r, ⟨o, n, e, _, _, d⟩, _⟩ := I.list h
  obtain ⟨its', r', ⟨o', n', e', _, _, d'⟩, _⟩ := I.list h'
  rw [e] at e'; cases e'
  rw [d] at d'
  injection d' with d1 _
  have : its = its' := by simpa using congrArg Array.toList d1
  subst this
  exact r.inj r'
theorem Inv.tuple_inj (I : Inv X pins σ H s) (h : SqT X.K H a xs) (h' : SqT X.K H a ys) : xs = ys := by
  obtain ⟨its, r, ⟨o, e, _, n, d⟩, _⟩ := I.tuple h
  obtain ⟨its', r', ⟨o', e', _, n', d'⟩, _⟩ := I.tuple h'
  rw [e] at e'; cases e'
  rw [d] at d'
  injection d' with d1 _
  have : its = its' := by simpa using congrArg Array.toList d1
  subst this
  exact r.inj r'
end

abbrev Cx.wish (X : Cx) (E : Value → Shared → Prop) : Cx := { X with xe := E }
/-- no exception leaves -/
abbrev Cx.nox (X : Cx) : Cx := X.wish fun _ _ => False
theorem Cx.Ok.wish {X : Cx} (ok : X.Ok) (E : Value → Shared → Prop) : (X.wish E).Ok :=
  ⟨ok.mod, ok.kind, ok.glob, ok.blt, ok.above, ok.inj, ok.has, ok.cab, ok.hd, ok.frames, ok.stk, ok.exf, ok.bs, ok.bsz, ok.noex, ok.exfs, ok.funs, ok.frf⟩
theorem Cx.Ok.unwish {X : Cx} {E : Value → Shared → Prop} (ok : (X.wish E).Ok) : X.Ok :=
  ⟨ok.mod, ok.kind, ok.glob, ok.blt, ok.above, ok.inj, ok.has, ok.cab, ok.hd, ok.frames, ok.stk, ok.exf, ok.bs, ok.bsz, ok.noex, ok.exfs, ok.funs, ok.frf⟩
section
variable {X : Cx} {pins : List (Addr × Obj)} {σ : St} {H : Hp} {s : Shared} {E : Value → Shared → Prop}
theorem Inv.wish (I : Inv X pins σ H s) (E : Value → Shared → Prop) : Inv (X.wish E) pins σ H s := ⟨I.ok.wish E, I.os, I.bare, I.base, I.loc, I.cell, I.free, I.freeC, I.pin, I.hok, I.len⟩
theorem Inv.unwish (I : Inv (X.wish E) pins σ H s) : Inv X pins σ H s := ⟨I.ok.unwish, I.os, I.bare, I.base, I.loc, I.cell, I.free, I.freeC, I.pin, I.hok, I.len⟩
theorem SP.unwish {D : Ends} {f : Flow} {s' : Shared} (h : SP (X.wish E) pins D f s') : SP X pins D f s' := by
  cases f with
  | next => obtain ⟨σ', H', I, q⟩ := h; exact ⟨σ', H', I.unwish, q⟩
  | brk => obtain ⟨σ', H', I, q⟩ := h; exact ⟨σ', H', I.unwish, q⟩
  | cont => obtain ⟨σ', H', I, q⟩ := h; exact ⟨σ', H', I.unwish, q⟩
  | ret u => obtain ⟨v, σ', H', I, r, q⟩ := h; exact ⟨v, σ', H', I.unwish, r, q⟩
theorem PE.nox {e : Expr} {t : TE} (h : PE X.nox e t) : PE X e t := fun pins s σ H Q I hw =>
  wpAny_mono (h pins s σ H Q (I.wish _) hw) (fun _ _ ⟨v, H', I', r, q⟩ => ⟨v, H', I'.unwish, r, q⟩) fun _ _ z => False.elim z
theorem PT.nox {e : Expr} {t : TT} (h : PT X.nox e t) : PT X e t := fun pins s σ H Q I hw =>
  wpAny_mono (h pins s σ H Q (I.wish _) hw) (fun _ _ ⟨H', I', q⟩ => ⟨H', I'.unwish, q⟩) fun _ _ z => False.elim z
theorem PSs.nox {st : List Stmt} {t : TS} (h : PSs X.nox st t) : PSs X st t := fun pins s σ H D I hw =>
  wpAny_mono (h pins s σ H D (I.wish _) hw) (fun _ _ q => q.unwish) fun _ _ z => False.elim z
end

section
variable {X : Cx} {st : Stmt} {rest : List Stmt} {t u : TS} {e : Expr} {te : TE} {pos : Pos}
/-- in a def's body nothing is shown -/
theorem Inv.quiet {pins : List (Addr × Obj)} {σ : St} {H : Hp} {s : Shared} (I : Inv X pins σ H s) : interactive X.env = false := by simp [interactive, I.ok.kind]
/-- an expression whose value is dropped -/
def tDrop (te : TE) : TS := fun D σ H => te σ H fun _ H1 => D.nx σ H1
theorem ps_expr (he : PE X e te) (hs : swapsWith e none pos.line X.env = pure false := by rfl) : PS X (.Expr e pos) (tDrop te) := by
  intro pins s σ H D I h
  exact wpAny_Expr_any (thn (he pins s σ H _ I h) fun v s1 ⟨x, H1, I1, r1, q1⟩ => ⟨σ, H1, I1, q1⟩) I.quiet hs
def tRet (te : TE) : TS := fun D σ H => te σ H D.rt
theorem ps_ret (he : PE X e te) : PS X (.Return (some e) pos) (tRet te) := by
  intro pins s σ H D I h
  exact wpAny_Return_some (thn (he pins s σ H _ I h) fun v s1 ⟨x, H1, I1, r1, q1⟩ => ⟨x, σ, H1, I1, r1, q1⟩)
end

abbrev TG := V → St → Hp → (St → Hp → Prop) → Prop
abbrev TGs := List V → St → Hp → (St → Hp → Prop) → Prop
def PG (X : Cx) (target : Expr) (t : TG) : Prop :=
  ∀ (pins : List (Addr × Obj)) (s : Shared) (σ : St) (H : Hp) (v : V) (u : Value) (Q : St → Hp → Prop), Inv X pins σ H s → RelV v u → t v σ H Q →
    wpAny (model X.prog X.w) X.A (assign target X.env u) (fun _ s' => ∃ σ' H', Inv X pins σ' H' s' ∧ Q σ' H') X.xe s
/-- several targets, one after another -/
def PGs (X : Cx) (ts : List Expr) (t : TGs) : Prop :=
  ∀ (pins : List (Addr × Obj)) (s : Shared) (σ : St) (H : Hp) (vs : List V) (us : List Value) (Q : St → Hp → Prop), Inv X pins σ H s → Vals vs us → t vs σ H Q →
    wpAny (model X.prog X.w) X.A (assignInOrder ((assignEach ts X.env).map (·.2)) us) (fun _ s' => ∃ σ' H', Inv X pins σ' H' s' ∧ Q σ' H') X.xe s
/-- o[i] = v, by values -/
abbrev TSet := V → V → V → Hp → (Hp → Prop) → Prop
def PSet (X : Cx) (t : TSet) : Prop :=
  ∀ (pins : List (Addr × Obj)) (s : Shared) (σ : St) (H : Hp) (o i v : V) (ov iv u : Value) (Q : Hp → Prop), Inv X pins σ H s → RelV o ov → RelV i iv → RelV v u → t o i v H Q →
    wpAny (model X.prog X.w) X.A (setItem ov iv u) (fun _ s' => ∃ H', Inv X pins σ H' s' ∧ Q H') X.xe s
section
variable {X : Cx} {pos : Pos}
def gName (i : Nat) : TG := fun v σ H Q => Q (σ.set i (some v)) H
theorem pg_name {i : Nat} {x : Str} (hN : X.N.Nodup) (hi : X.N[i]? = some x) (hx : Loc X.env.scope x) (hf : X.fn x = true ∨ X.env.scope.names.lookup x = some .local := by first | exact .inl rfl | exact .inr rfl | assumption) : PG X (.Name x pos) (gName i) := by
  intro pins s σ H v u Q I r h
  exact wpAny_assign_Name (store_ok I hN hi hx r (fun s' I' => ⟨_, H, I', h⟩) hf)
def gNil : TGs := fun vs σ H Q => vs = [] ∧ Q σ H
def gCons (t : TG) (u : TGs) : TGs := fun vs σ H Q => ∃ v r, vs = v :: r ∧ t v σ H fun σ' H' => u r σ' H' Q
theorem pgs_nil : PGs X [] gNil := by
  intro pins s σ H vs us Q I r h
  obtain ⟨e, h⟩ := h
  subst e
  cases r
  exact assignInOrder_nil ⟨σ, H, I, h⟩
theorem pgs_cons {e : Expr} {es : List Expr} {t : TG} {u : TGs} (h1 : PG X e t) (h2 : PGs X es u)
    (hs : (assignEach (e :: es) X.env).map (·.2) = assign e X.env :: (assignEach es X.env).map (·.2) := by rfl) : PGs X (e :: es) (gCons t u) := by
  intro pins s σ H vs us Q I r h
  obtain ⟨v, vr, e1, h⟩ := h
  subst e1
  cases r with
  | cons r rr =>
    rw [hs]
    refine assignInOrder_cons (thn (h1 pins s σ H _ _ _ I r h) fun _ s1 ⟨σ1, H1, I1, q1⟩ => ?_)
    exact h2 pins s1 σ1 H1 _ _ Q I1 rr q1
/-- (a, b, ..) = a tuple of that length -/
def gTup (K : PySem.W.Frag) (n : Nat) (t : TGs) : TG := fun v σ H Q => ∃ a xs, v = .ref a ∧ SqT K H a xs ∧ xs.length = n ∧ t xs σ H Q
theorem pg_tup {es : List Expr} {k : Nat} {t : TGs} {n : Nat} (hc : X.calm = true) (h : PGs X es t)
    (hn : (assignEach es X.env).length = n := by rfl) (hst : (assignEach es X.env).findIdx? (·.1) = none := by rfl) : PG X (.Tuple es k pos) (gTup X.K n t) := by
  intro pins s σ H v u Q I r hw
  obtain ⟨a, xs, e1, hq, hl, hw⟩ := hw
  subst e1
  cases r
  obtain ⟨its, rv, ht, hz⟩ := I.tuple hq
  refine assign_Tuple_tuple (I.ok.hd hc) ht (by simp [hn, ← hl, rv.length]) hst fun h' hx => ?_
  have I1 : Inv X pins σ H { s with heap := h' } := I.kept (t' := s.toks) fun b o e => hx b o (Nat.ne_of_lt (Heap.lt_size e)) e
  exact h pins _ σ H xs _ Q I1 (by simpa using rv) hw
/-- o[i] = .. -/
def gSub (to ti : TE) (t : TSet) : TG := fun v σ H Q => to σ H fun o H1 => ti σ H1 fun i H2 => t o i v H2 fun H3 => Q σ H3
theorem pg_sub {o i : Expr} {to ti : TE} {t : TSet} (ho : PE X o to) (hi : PE X i ti) (hs : PSet X t)
    (ha : ∀ v, assign (.Subscript o i pos) X.env v = (do
      let ov ← holding [v] (eval o X.env)
      let iv ← holding [v, ov] (eval i X.env)
      standAt pos
      holding [v, ov, iv] (setItem ov iv v)
      release [v, ov, iv] []) := by intro _; rfl) : PG X (.Subscript o i pos) (gSub to ti t) := by
  intro pins s σ H v u Q I r h
  rw [ha]
  refine wpAny_bind (wpAny_holding (thn (ho pins s σ H _ I h) fun ov s1 ⟨x, H1, I1, r1, q1⟩ => ?_))
  refine wpAny_bind (wpAny_holding (thn (hi pins s1 σ H1 _ I1 q1) fun iv s2 ⟨y, H2, I2, r2, q2⟩ => ?_))
  refine wpAny_bind (wpAny_standAt (wpAny_bind (wpAny_holding (thn (hs pins s2 σ H2 x y v ov iv u _ I2 r1 r2 r q2) fun _ s3 ⟨H3, I3, q3⟩ => ?_))))
  exact wpAny_release ⟨σ, H3, I3, q3⟩
/-- target = value -/
def tAsg (te : TE) (g : TG) : TS := fun D σ H => te σ H fun x H1 => g x σ H1 D.nx
theorem ps_asg {tg e : Expr} {te : TE} {g : TG} (he : PE X e te) (hg : PG X tg g) (hs : swapsWithSole [tg] e pos.line X.env = pure false := by rfl) (hw : swappedStores [tg] e X.env = pure none := by rfl)
    (h1 : (assignEach [tg] X.env).map (·.2) = [assign tg X.env] := by rfl) : PS X (.Assign [tg] e pos) (tAsg te g) := by
  intro pins s σ H D I h
  refine wpAny_Assign_stores (thn (he pins s σ H _ I h) fun v s1 ⟨x, H1, I1, r1, q1⟩ => ?_) hs hw
  rw [h1]
  exact thn (hg pins s1 σ H1 x v _ I1 r1 q1) fun _ s2 q => q
/-- name = value -/
theorem ps_set {i : Nat} {x : Str} {e : Expr} {te : TE} {pos' : Pos} (hN : X.N.Nodup) (hi : X.N[i]? = some x) (hx : Loc X.env.scope x) (he : PE X e te) (hs : swapsWith e (some (.Name x pos')) pos.line X.env = pure false := by rfl) (hf : X.fn x = true ∨ X.env.scope.names.lookup x = some .local := by first | exact .inl rfl | exact .inr rfl | assumption) :
    PS X (.Assign [.Name x pos'] e pos) (tAsg te (gName i)) := by
  intro pins s σ H D I h
  refine wpAny_Assign_Name (thn (he pins s σ H _ I h) fun v s1 ⟨y, H1, I1, r1, q1⟩ => ?_) hs
  exact store_ok I1 hN hi hx r1 (fun s2 I2 => ⟨_, H1, I2, q1⟩) hf
end

section
variable {X : Cx} {pos : Pos}
end

/-- at turn i: it yields x (the heap may grow), or it stops -/
structure It where
  go : Nat → Hp → Prop
  yld : Nat → Hp → V → Hp → Prop
  stop : Nat → Hp → Prop
/-- the iterator's own objects may turn: they are not the frame's, not pinned, younger than the entry (or a comprehension's own) -/
def FpOk (X : Cx) (pins : List (Addr × Obj)) (H : Hp) (b : Addr) : Prop :=
  H b = none ∧ b ≠ X.env.locals ∧ b ∉ X.fs ∧ (b ∈ X.ex ∨ X.s₀.heap.objs.size ≤ b) ∧ (∀ x c, X.env.cells.lookup x = some c → c ≠ b) ∧ ∀ p ∈ X.pn ++ pins, p.1 ≠ b
theorem Inv.fpOk {X : Cx} {pins : List (Addr × Obj)} {σ : St} {H H' : Hp} {s : Shared} {b : Addr} (I : Inv X pins σ H s) (hb : s.heap.objs.size ≤ b) (hn : H' b = none) : FpOk X pins H' b := by
  refine ⟨hn, Nat.ne_of_gt (Nat.lt_of_lt_of_le I.lt hb), I.nofs hb, .inr (Nat.le_trans I.sz hb), fun x c e z => ?_, fun p hp z => ?_⟩
  · obtain ⟨v, q⟩ := I.cell x c e
    exact absurd (Nat.lt_of_lt_of_le q.lt (by rw [z]; exact hb)) (Nat.lt_irrefl _)
  · exact absurd (Nat.lt_of_lt_of_le (Heap.lt_size (I.pin p hp).1) (by rw [z]; exact hb)) (Nat.lt_irrefl _)
structure Turn (P : Program) (w : World) (K : PySem.W.Frag) (tg : Expr) (J : It) (fp : List Addr) (it : Addr) (tn : Nat → Heap → Prop) : Prop where
  mem : it ∈ fp
  obj : ∀ i h, tn i h → ∀ b ∈ fp, ∃ o, h.get? b = some o ∧ ∀ v, o.data ≠ .cell v
  keep : ∀ i h h', tn i h → (∀ b ∈ fp, ∀ o, h.get? b = some o → h'.get? b = some o) → tn i h'
  item : ∀ (X : Cx), X.prog = P → X.w = w → X.K = K → X.calm = true → ∀ (i : Nat) (pins : List (Addr × Obj)) (s : Shared) (σ : St) (H : Hp) (E : Value → Shared → Prop), Inv X pins σ H s → (∀ b ∈ fp, FpOk X pins H b) → tn i s.heap → J.go i H →
    wpAny (model P w) X.A (pyNext (.ref it)) (fun r s1 => ∃ u, r = some u ∧
      wpAny (model P w) X.A (letOwnedTupleGo tg (.ref it) u) (fun _ s2 => ∃ x H', Inv X pins σ H' s2 ∧ RelV x u ∧ J.yld i H x H' ∧ tn (i + 1) s2.heap ∧ ∀ b ∈ fp, H' b = none) E s1) E s
  done : ∀ (X : Cx), X.prog = P → X.w = w → X.K = K → X.calm = true → ∀ (i : Nat) (pins : List (Addr × Obj)) (s : Shared) (σ : St) (H : Hp) (E : Value → Shared → Prop), Inv X pins σ H s → (∀ b ∈ fp, FpOk X pins H b) → tn i s.heap → J.stop i H →
    wpAny (model P w) X.A (pyNext (.ref it)) (fun r s1 => r = none ∧ Inv X pins σ H s1) E s
  self : ∀ (A : Around) (i : Nat) (s : Shared) (Q : Value → Shared → Prop) (E : Value → Shared → Prop), tn i s.heap → Q (.ref it) s → wpAny (model P w) A (pyIter (.ref it)) Q E s
abbrev TI := St → Hp → (It → Hp → Prop) → Prop
/-- an iterator has come -/
def PIE (X : Cx) (pins : List (Addr × Obj)) (σ : St) (tg : Expr) (R : It → Hp → Prop) (itv : Value) (s2 : Shared) : Prop :=
  ∃ (it : Addr) (fp : List Addr) (tn : Nat → Heap → Prop) (J : It) (H' : Hp), itv = .ref it ∧ Inv X pins σ H' s2 ∧ Turn X.prog X.w X.K tg J fp it tn ∧ tn 0 s2.heap ∧ (∀ b ∈ fp, FpOk X pins H' b) ∧ R J H'
def PI (X : Cx) (tg iter : Expr) (wi : TI) : Prop :=
  ∀ (pins : List (Addr × Obj)) (s : Shared) (σ : St) (H : Hp) (R : It → Hp → Prop), Inv X pins σ H s → wi σ H R →
    wpAny (model X.prog X.w) X.A (eval iter X.env) (fun v s1 => wpAny (model X.prog X.w) X.A (pyIter v) (PIE X pins σ tg R) X.xe s1) X.xe s

/-- the step ahead of the store is nothing for an iterator that keeps no tuple -/
theorem go_of {M : Model} {A : Around} {E : Value → Shared → Prop} {s : Shared} {tg : Expr} {it : Addr} {u : Value} {o : Obj} {n : String} {vs : Array Value} {Q : Unit → Shared → Prop} (ho : s.heap.get? it = some o) (hc : o.cls = .type n) (hd : o.data = .fields vs)
    (hn : ["enumerate", "zip", "dict_itemiterator", "dict_reverseitemiterator", "odict_iterator", "itertools.zip_longest", "itertools.pairwise"].contains n = false) (hQ : Q () s) : wpAny M A (letOwnedTupleGo tg (.ref it) u) Q E s := by
  unfold letOwnedTupleGo
  cases tg <;> first
    | exact wpAny_pure hQ
    | (cases u <;> first
        | exact wpAny_pure hQ
        | (refine wpAny_bind (wpAny_load ho ?_)
           rw [hc, hd]
           show wpAny M A (if (["enumerate", "zip", "dict_itemiterator", "dict_reverseitemiterator", "odict_iterator", "itertools.zip_longest", "itertools.pairwise"].contains n && vs[0]? == some (rawInt _)) = true then _ else _) Q E s
           rw [if_neg (by intro h; rw [hn, Bool.false_and] at h; cases h)]
           exact wpAny_pure hQ))

/-- the list at a, as it stands at each turn (a loop may append to it) -/
def Itl (K : PySem.W.Frag) (a : Addr) : It :=
  ⟨fun i H => ∃ xs x, SqL K H a xs ∧ xs[i]? = some x, fun i H x H' => H' = H ∧ ∀ xs, SqL K H a xs → xs[i]? = some x, fun i H => ∃ xs, SqL K H a xs ∧ xs.length ≤ i⟩
def Itt (K : PySem.W.Frag) (a : Addr) : It :=
  ⟨fun i H => ∃ xs x, SqT K H a xs ∧ xs[i]? = some x, fun i H x H' => H' = H ∧ ∀ xs, SqT K H a xs → xs[i]? = some x, fun i H => ∃ xs, SqT K H a xs ∧ xs.length ≤ i⟩
theorem turn_list {P : Program} {w : World} {K : PySem.W.Frag} {tg : Expr} (a it : Addr) : Turn P w K tg (Itl K a) [it] it (fun i h => h.IsListIter it a i) where
  mem := by simp
  obj := fun i h st b hb => by
    have e : b = it := by simpa using hb
    subst e
    obtain ⟨o, e, c, d⟩ := st
    exact ⟨o, e, fun v z => by rw [d] at z; cases z⟩
  keep := fun i h h' st k => st.at fun o e => k it (by simp) o e
  item := by
    intro X hP hw hK hc i pins s σ H E I hf st hg
    subst hP hw hK
    obtain ⟨xs, x, hq, hx⟩ := hg
    obtain ⟨its, rv, p, hz⟩ := I.list hq
    obtain ⟨u, hu, ru⟩ := rv.get hx
    obtain ⟨f0, f1, f2, f3, f4, f5⟩ := hf it (by simp)
    refine wpAny_pyNext_list_item st p.isList (x := u) (by simpa using hu) fun h' st' sb => ?_
    have I1 : Inv X pins σ H { s with heap := h' } := I.turned (t' := s.toks) (fun b o hb e => (sb.2 b hb).trans e) f0 f1 f3 f4 f5
    obtain ⟨o, e, c, d⟩ := id st'
    exact ⟨u, rfl, go_of (s := { s with heap := h' }) e c d (by decide) ⟨x, H, I1, ru, ⟨rfl, fun ys hy => by rw [I.list_inj hy hq]; exact hx⟩, st', fun b hb => (hf b hb).1⟩⟩
  done := by
    intro X hP hw hK hc i pins s σ H E I hf st hg
    subst hP hw hK
    obtain ⟨xs, hq, hx⟩ := hg
    obtain ⟨its, rv, p, hz⟩ := I.list hq
    obtain ⟨f0, f1, f2, f3, f4, f5⟩ := hf it (by simp)
    have hl := rv.length
    exact wpAny_pyNext_list_end (I.ok.hd hc) st p.isList (by simp; omega) fun h' eb => ⟨rfl, I.turned (t' := s.toks) (fun b o hb e => eb b o hb e) f0 f1 f3 f4 f5⟩
  self := fun _ _ _ _ _ st h => wpAny_pyIter_listiter st h
theorem turn_tuple {P : Program} {w : World} {K : PySem.W.Frag} {tg : Expr} (a it : Addr) : Turn P w K tg (Itt K a) [it] it (fun i h => h.IsTupleIter it a i) where
  mem := by simp
  obj := fun i h st b hb => by
    have e : b = it := by simpa using hb
    subst e
    obtain ⟨o, e, c, d⟩ := st
    exact ⟨o, e, fun v z => by rw [d] at z; cases z⟩
  keep := fun i h h' st k => st.at fun o e => k it (by simp) o e
  item := by
    intro X hP hw hK hc i pins s σ H E I hf st hg
    subst hP hw hK
    obtain ⟨xs, x, hq, hx⟩ := hg
    obtain ⟨its, rv, p, hz⟩ := I.tuple hq
    obtain ⟨u, hu, ru⟩ := rv.get hx
    obtain ⟨f0, f1, f2, f3, f4, f5⟩ := hf it (by simp)
    refine wpAny_pyNext_tuple_item st (show s.heap.IsTuple a its.toArray from p) (x := u) (by simpa using hu) fun h' st' sb => ?_
    have I1 : Inv X pins σ H { s with heap := h' } := I.turned (t' := s.toks) (fun b o hb e => (sb.2 b hb).trans e) f0 f1 f3 f4 f5
    obtain ⟨o, e, c, d⟩ := id st'
    exact ⟨u, rfl, go_of (s := { s with heap := h' }) e c d (by decide) ⟨x, H, I1, ru, ⟨rfl, fun ys hy => by rw [I.tuple_inj hy hq]; exact hx⟩, st', fun b hb => (hf b hb).1⟩⟩
  done := by
    intro X hP hw hK hc i pins s σ H E I hf st hg
    subst hP hw hK
    obtain ⟨xs, hq, hx⟩ := hg
    obtain ⟨its, rv, p, hz⟩ := I.tuple hq
    obtain ⟨f0, f1, f2, f3, f4, f5⟩ := hf it (by simp)
    have hl := rv.length
    exact wpAny_pyNext_tuple_end (I.ok.hd hc) st (show s.heap.IsTuple a its.toArray from p) (by simp; omega) fun h' eb => ⟨rfl, I.turned (t' := s.toks) (fun b o hb e => eb b o hb e) f0 f1 f3 f4 f5⟩
  self := fun _ _ _ _ _ st h => wpAny_pyIter_tupleiter st h
end L2

namespace L2
open PySem PySem.Spec PyProof.Rows
section
variable {X : Cx} {tg : Expr}
def iList (K : PySem.W.Frag) (tl : TE) : TI := fun σ H R => tl σ H fun x H1 => ∃ a, x = .ref a ∧ (∃ xs, SqL K H1 a xs) ∧ R (Itl K a) H1
def iTup (K : PySem.W.Frag) (tl : TE) : TI := fun σ H R => tl σ H fun x H1 => ∃ a, x = .ref a ∧ (∃ xs, SqT K H1 a xs) ∧ R (Itt K a) H1
theorem pi_list {l : Expr} {tl : TE} (hl : PE X l tl) : PI X tg l (iList X.K tl) := by
  intro pins s σ H R I h
  refine thn (hl pins s σ H _ I h) fun v s1 ⟨x, H1, I1, r1, q1⟩ => ?_
  obtain ⟨a, e, ⟨xs, hq⟩, q⟩ := q1
  subst e
  cases r1
  obtain ⟨its, rv, p, hz⟩ := I1.list hq
  refine wpAny_pyIter_list p.isList ?_
  refine ⟨s1.heap.objs.size, [s1.heap.objs.size], _, _, H1, rfl, I1.kept (t' := s1.toks) fun b o e => Heap.get?_push_of_some _ e, turn_list a _, ⟨_, Heap.get?_push_size _ rfl, rfl, rfl⟩, fun b hb => ?_, q⟩
  have e : b = s1.heap.objs.size := by simpa using hb
  subst e
  exact I1.fpOk (Nat.le_refl _) (I1.hok.fresh (Nat.le_refl _))
theorem pi_tup {l : Expr} {tl : TE} (hl : PE X l tl) : PI X tg l (iTup X.K tl) := by
  intro pins s σ H R I h
  refine thn (hl pins s σ H _ I h) fun v s1 ⟨x, H1, I1, r1, q1⟩ => ?_
  obtain ⟨a, e, ⟨xs, hq⟩, q⟩ := q1
  subst e
  cases r1
  obtain ⟨its, rv, p, hz⟩ := I1.tuple hq
  refine wpAny_pyIter_tuple (show s1.heap.IsTuple a its.toArray from p) ?_
  refine ⟨s1.heap.objs.size, [s1.heap.objs.size], _, _, H1, rfl, I1.kept (t' := s1.toks) fun b o e => Heap.get?_push_of_some _ e, turn_tuple a _, ⟨_, Heap.get?_push_size _ rfl, rfl, rfl⟩, fun b hb => ?_, q⟩
  have e : b = s1.heap.objs.size := by simpa using hb
  subst e
  exact I1.fpOk (Nat.le_refl _) (I1.hok.fresh (Nat.le_refl _))
/-- W: the invariant by the turn and a measure; N: what the body is to reach -/
def tFor (wi : TI) (g : TG) (tb : TS) : TS := fun D σ H => wi σ H fun J H1 => ∃ W : Nat → Nat → St → Hp → Prop, (∃ m, W 0 m σ H1) ∧ ∀ i m σ H, W i m σ H →
  (J.stop i H ∧ D.nx σ H) ∨ (J.go i H ∧ ∃ N : St → Hp → Prop, (∀ σ' H', N σ' H' → ∃ m', m' < m ∧ W (i + 1) m' σ' H') ∧ ∀ x H', J.yld i H x H' → g x σ H' fun σ2 H2 => tb { D with nx := N, ct := N, bk := D.nx } σ2 H2)
/-- the records at fp as they stand -/
def pinsAt (fp : List Addr) (h : Heap) : List (Addr × Obj) := fp.filterMap fun b => (h.get? b).map fun o => (b, o)
theorem mem_pinsAt {fp : List Addr} {h : Heap} {b : Addr} {o : Obj} (hb : b ∈ fp) (e : h.get? b = some o) : (b, o) ∈ pinsAt fp h := List.mem_filterMap.mpr ⟨b, hb, by rw [e]; rfl⟩
theorem of_pinsAt {fp : List Addr} {h : Heap} {p : Addr × Obj} (hp : p ∈ pinsAt fp h) : p.1 ∈ fp ∧ h.get? p.1 = some p.2 := by
  obtain ⟨b, hb, e⟩ := List.mem_filterMap.mp hp
  cases q : h.get? b with
  | none => rw [q] at e; cases e
  | some o =>
    rw [q] at e
    have e' : (b, o) = p := Option.some.inj e
    subst e'
    exact ⟨hb, q⟩
theorem Inv.pinned {pins : List (Addr × Obj)} {σ : St} {H : Hp} {s : Shared} {fp : List Addr} (I : Inv X pins σ H s) (hf : ∀ b ∈ fp, FpOk X pins H b) (ho : ∀ b ∈ fp, ∃ o, s.heap.get? b = some o ∧ ∀ v, o.data ≠ .cell v) : Inv X (pins ++ pinsAt fp s.heap) σ H s :=
  I.pins_of fun p hp => (List.mem_append.mp hp).elim (fun z => I.pin p (List.mem_append_right _ z)) fun z => by
    obtain ⟨hb, e⟩ := of_pinsAt z
    obtain ⟨f0, f1, f2, _⟩ := hf p.1 hb
    obtain ⟨o, e', d⟩ := ho p.1 hb
    rw [e] at e'; cases e'
    exact ⟨e, f0, f1, f2, d⟩
theorem Inv.unpinned {pins pl : List (Addr × Obj)} {σ : St} {H : Hp} {s : Shared} (I : Inv X (pins ++ pl) σ H s) : Inv X pins σ H s := I.pins_of fun p hp => I.pin p (List.mem_append_right _ (List.mem_append_left _ hp))
theorem ps_for {iter : Expr} {body : List Stmt} {wi : TI} {g : TG} {tb : TS} {pos : Pos} (hp : PassesOwn (model X.prog X.w) X.A X.env X.xe) (hc : X.calm = true) (hi : PI X tg iter wi) (hg : PG X tg g) (hb : PSs X body tb)
    (hs : ∀ x, foldedSetIterable iter X.env x = pure x := by intro _; rfl) : PS X (.For tg iter body [] pos) (tFor wi g tb) := by
  intro pins s σ H D I h
  refine wpAny_For (thn (hi pins s σ H _ I h) fun v s1 h1 => thn h1 fun itv s2 h2 => ?_) hs
  obtain ⟨it, fp, tn, J, H2, e, I2, T, st2, f2, W, ⟨m0, w0⟩, turn⟩ := h2
  subst e
  -- what stays true of the iterator's objects through the loop
  have stat : ∀ {H' : Hp}, (∀ b ∈ fp, H' b = none) → ∀ b ∈ fp, FpOk X pins H' b := fun hn b hb => ⟨hn b hb, (f2 b hb).2⟩
  refine codeAny_forLoop_any (fun n s' => ∃ i σ' H', Inv X pins σ' H' s' ∧ tn i s'.heap ∧ (∀ b ∈ fp, H' b = none) ∧ W i n σ' H') ?_ m0 ⟨0, σ, H2, I2, st2, fun b hb => (f2 b hb).1, w0⟩
  rintro n s3 ⟨i, σ3, H3, I3, st3, fr3, w3⟩
  rcases turn i n σ3 H3 w3 with ⟨stop, qn⟩ | ⟨go, N, hN, step⟩
  · refine wpAny_passesOwn hp (thn (T.done X rfl rfl rfl hc i pins s3 σ3 H3 X.xe I3 (stat fr3) st3 stop) fun r s4 ⟨hr, I4⟩ => ?_)
    subst hr
    exact wpAny_execs_nil ⟨σ3, H3, I4, qn⟩
  · refine wpAny_passesOwn hp (thn (T.item X rfl rfl rfl hc i pins s3 σ3 H3 X.xe I3 (stat fr3) st3 go) fun r s4 ⟨u, hr, h4⟩ => ?_)
    subst hr
    refine wpAny_passesOwn hp (thn h4 fun _ s5 ⟨x, H5, I5, r5, y5, st5, fr5⟩ => ?_)
    have I5' := I5.pinned (stat fr5) (T.obj _ _ st5)
    refine wpAny_passesOwn hp (thn (hg _ s5 σ3 H5 x u _ I5' r5 (step x H5 y5)) fun _ s6 ⟨σ6, H6, I6, q6⟩ => ?_)
    refine wpAny_passesOwn hp (thn (hb _ s6 σ6 H6 _ I6 q6) fun f s7 q7 => ?_)
    have again : ∀ {σ7 : St} {H7 : Hp}, Inv X (pins ++ pinsAt fp s5.heap) σ7 H7 s7 → N σ7 H7 → ∃ m, m < n ∧ ∃ i σ' H', Inv X pins σ' H' s7 ∧ tn i s7.heap ∧ (∀ b ∈ fp, H' b = none) ∧ W i m σ' H' := fun {σ7 H7} I7 n7 => by
      obtain ⟨m', hm, w7⟩ := hN σ7 H7 n7
      refine ⟨m', hm, i + 1, σ7, H7, I7.unpinned, T.keep _ _ _ st5 fun b hb o e => (I7.pin (b, o) (List.mem_append_right _ (List.mem_append_right _ (mem_pinsAt hb e)))).1, fun b hb => ?_, w7⟩
      obtain ⟨o, e, d⟩ := T.obj _ _ st5 b hb
      exact (I7.pin (b, o) (List.mem_append_right _ (List.mem_append_right _ (mem_pinsAt hb e)))).2.1
    cases f with
    | next => obtain ⟨σ7, H7, I7, n7⟩ := q7; exact again I7 n7
    | cont => obtain ⟨σ7, H7, I7, n7⟩ := q7; exact again I7 n7
    | brk => obtain ⟨σ7, H7, I7, q7⟩ := q7; exact ⟨σ7, H7, I7.unpinned, q7⟩
    | ret v => obtain ⟨x7, σ7, H7, I7, r7, q7⟩ := q7; exact ⟨x7, σ7, H7, I7.unpinned, r7, q7⟩
end

/-- over a list that the body leaves as it is -/
theorem for_list {K : PySem.W.Frag} {a : Addr} {xs : List V} {g : TG} {tb : TS} {D : Ends} {σ : St} {H : Hp} (Pv : Nat → St → Hp → Prop) (h0 : Pv 0 σ H) (hl : ∀ i σ H, i ≤ xs.length → Pv i σ H → SqL K H a xs)
    (hs : ∀ i x σ H, xs[i]? = some x → Pv i σ H → g x σ H fun σ2 H2 => tb { D with nx := Pv (i + 1), ct := Pv (i + 1), bk := D.nx } σ2 H2) (hd : ∀ σ H, Pv xs.length σ H → D.nx σ H) :
    ∃ W : Nat → Nat → St → Hp → Prop, (∃ m, W 0 m σ H) ∧ ∀ i m σ H, W i m σ H →
      ((Itl K a).stop i H ∧ D.nx σ H) ∨ ((Itl K a).go i H ∧ ∃ N : St → Hp → Prop, (∀ σ' H', N σ' H' → ∃ m', m' < m ∧ W (i + 1) m' σ' H') ∧ ∀ x H', (Itl K a).yld i H x H' → g x σ H' fun σ2 H2 => tb { D with nx := N, ct := N, bk := D.nx } σ2 H2) := by
  refine ⟨fun i m σ H => m = xs.length - i ∧ i ≤ xs.length ∧ Pv i σ H, ⟨xs.length, by simp, Nat.zero_le _, h0⟩, ?_⟩
  rintro i m σ H ⟨rfl, hi, p⟩
  have q := hl i σ H hi p
  by_cases hlt : i < xs.length
  · refine .inr ⟨⟨xs, xs[i], q, by simp [hlt]⟩, Pv (i + 1), fun σ' H' p' => ⟨xs.length - (i + 1), by omega, rfl, hlt, p'⟩, fun x H' y => ?_⟩
    obtain ⟨e, y⟩ := y
    subst e
    exact hs i x σ _ (y xs q) p
  · have e : i = xs.length := by omega
    subst e
    exact .inl ⟨⟨xs, q, Nat.le_refl _⟩, hd σ H p⟩
theorem for_tup {K : PySem.W.Frag} {a : Addr} {xs : List V} {g : TG} {tb : TS} {D : Ends} {σ : St} {H : Hp} (Pv : Nat → St → Hp → Prop) (h0 : Pv 0 σ H) (hl : ∀ i σ H, i ≤ xs.length → Pv i σ H → SqT K H a xs)
    (hs : ∀ i x σ H, xs[i]? = some x → Pv i σ H → g x σ H fun σ2 H2 => tb { D with nx := Pv (i + 1), ct := Pv (i + 1), bk := D.nx } σ2 H2) (hd : ∀ σ H, Pv xs.length σ H → D.nx σ H) :
    ∃ W : Nat → Nat → St → Hp → Prop, (∃ m, W 0 m σ H) ∧ ∀ i m σ H, W i m σ H →
      ((Itt K a).stop i H ∧ D.nx σ H) ∨ ((Itt K a).go i H ∧ ∃ N : St → Hp → Prop, (∀ σ' H', N σ' H' → ∃ m', m' < m ∧ W (i + 1) m' σ' H') ∧ ∀ x H', (Itt K a).yld i H x H' → g x σ H' fun σ2 H2 => tb { D with nx := N, ct := N, bk := D.nx } σ2 H2) := by
  refine ⟨fun i m σ H => m = xs.length - i ∧ i ≤ xs.length ∧ Pv i σ H, ⟨xs.length, by simp, Nat.zero_le _, h0⟩, ?_⟩
  rintro i m σ H ⟨rfl, hi, p⟩
  have q := hl i σ H hi p
  by_cases hlt : i < xs.length
  · refine .inr ⟨⟨xs, xs[i], q, by simp [hlt]⟩, Pv (i + 1), fun σ' H' p' => ⟨xs.length - (i + 1), by omega, rfl, hlt, p'⟩, fun x H' y => ?_⟩
    obtain ⟨e, y⟩ := y
    subst e
    exact hs i x σ _ (y xs q) p
  · have e : i = xs.length := by omega
    subst e
    exact .inl ⟨⟨xs, q, Nat.le_refl _⟩, hd σ H p⟩
end L2

namespace L2
open PySem PySem.Spec PyProof.Rows

abbrev R2 := V → V → Hp → VK → Prop
/-- a two-place operation on values: f is binaryOp op, inplaceOp op or compareOp op -/
def OpR (X : Cx) (f : Value → Value → Sem Value) (r : R2) : Prop :=
  ∀ (pins : List (Addr × Obj)) (s : Shared) (σ : St) (H : Hp) (x y : V) (v u : Value) (Q : VK), Inv X pins σ H s → RelV x v → RelV y u → r x y H Q →
    wpAny (model X.prog X.w) X.A (f v u) (EP X pins σ Q) X.xe s
/-- a one-place operation -/
def UnR (X : Cx) (f : Value → Sem Value) (r : V → Hp → VK → Prop) : Prop :=
  ∀ (pins : List (Addr × Obj)) (s : Shared) (σ : St) (H : Hp) (x : V) (v : Value) (Q : VK), Inv X pins σ H s → RelV x v → r x H Q →
    wpAny (model X.prog X.w) X.A (f v) (EP X pins σ Q) X.xe s
/-- a call of a value that is known (a builtin, a type) with values -/
def CallR (X : Cx) (f : Value) (r : List V → Hp → VK → Prop) : Prop :=
  ∀ (pins : List (Addr × Obj)) (s : Shared) (σ : St) (H : Hp) (xs : List V) (us : List Value) (Q : VK), Inv X pins σ H s → Vals xs us → r xs H Q →
    wpAny (model X.prog X.w) X.A (call f us) (EP X pins σ Q) X.xe s
def tOp (r : R2) (ta tb : TE) : TE := fun σ H Q => ta σ H fun x H1 => tb σ H1 fun y H2 => r x y H2 Q
/-- ints in, under C, and a value out -/
def rI (C : Int → Int → Prop) (g : Int → Int → V) : R2 := fun x y H Q => ∃ i j, x = .int i ∧ y = .int j ∧ C i j ∧ Q (g i j) H
def rI0 (g : Int → Int → V) : R2 := fun x y H Q => ∃ i j, x = .int i ∧ y = .int j ∧ Q (g i j) H
def rU (g : Int → V) : V → Hp → VK → Prop := fun x H Q => ∃ i, x = .int i ∧ Q (g i) H

section
variable {X : Cx} {a b c : Expr} {ta tb tc : TE} {pos : Pos}

theorem binT (ha : PE X a ta) (hb : PE X b tb) {pins : List (Addr × Obj)} {s : Shared} {σ : St} {H : Hp} {R : V → V → Hp → Prop} (I : Inv X pins σ H s)
    (h : ta σ H fun x H1 => tb σ H1 fun y H2 => R x y H2) {Q : Value → Shared → Prop} {f : Value → Value → Sem Value}
    (hf : ∀ v u s2 x y H2, Inv X pins σ H2 s2 → RelV x v → RelV y u → R x y H2 → wpAny (model X.prog X.w) X.A (f v u) Q X.xe s2) :
    wpAny (model X.prog X.w) X.A (eval a X.env) (fun v s₁ => wpAny (model X.prog X.w) X.A (eval b X.env) (fun u s₂ => wpAny (model X.prog X.w) X.A (f v u) Q X.xe s₂) X.xe s₁) X.xe s := by
  refine thn (ha pins s σ H _ I h) fun v s1 ⟨x, H1, I1, r1, q1⟩ => ?_
  refine thn (hb pins s1 σ H1 _ I1 q1) fun u s2 ⟨y, H2, I2, r2, q2⟩ => ?_
  exact hf v u s2 x y H2 I2 r1 r2 q2

theorem pe_op {op : Operator} {r : R2} (ho : OpR X (binaryOp op) r) (ha : PE X a ta) (hb : PE X b tb) : PE X (.BinOp a op b pos) (tOp r ta tb) := by
  intro pins s σ H Q I h
  exact wpAny_BinOp (binT ha hb I h fun v u s2 x y H2 I2 rx ry q => ho pins s2 σ H2 x y v u Q I2 rx ry q)
theorem opI {f : Value → Value → Sem Value} {C : Int → Int → Prop} {g : Int → Int → Int}
    (rule : ∀ (i j : Int) (t u : Tok) (s : Shared) (Q : Value → Shared → Prop) (E : Value → Shared → Prop), C i j → Q (.int (g i j) s.toks) { s with toks := s.toks + 1 } → wpAny (model X.prog X.w) X.A (f (.int i t) (.int j u)) Q E s) :
    OpR X f (rI C fun i j => .int (g i j)) := by
  intro pins s σ H x y v u Q I rx ry h
  obtain ⟨i, j, rfl, rfl, hc, q⟩ := h
  obtain ⟨t, rfl⟩ := rx
  obtain ⟨t', rfl⟩ := ry
  exact rule i j t t' s _ _ hc ⟨.int (g i j), H, I.tok _, ⟨_, rfl⟩, q⟩
theorem opI0 {f : Value → Value → Sem Value} {g : Int → Int → Int}
    (rule : ∀ (i j : Int) (t u : Tok) (s : Shared) (Q : Value → Shared → Prop) (E : Value → Shared → Prop), Q (.int (g i j) s.toks) { s with toks := s.toks + 1 } → wpAny (model X.prog X.w) X.A (f (.int i t) (.int j u)) Q E s) :
    OpR X f (rI0 fun i j => .int (g i j)) := by
  intro pins s σ H x y v u Q I rx ry h
  obtain ⟨i, j, rfl, rfl, q⟩ := h
  obtain ⟨t, rfl⟩ := rx
  obtain ⟨t', rfl⟩ := ry
  exact rule i j t t' s _ _ ⟨.int (g i j), H, I.tok _, ⟨_, rfl⟩, q⟩
theorem opB0 {f : Value → Value → Sem Value} {g : Int → Int → Bool}
    (rule : ∀ (i j : Int) (t u : Tok) (s : Shared) (Q : Value → Shared → Prop) (E : Value → Shared → Prop), Q (.bool (g i j)) s → wpAny (model X.prog X.w) X.A (f (.int i t) (.int j u)) Q E s) :
    OpR X f (rI0 fun i j => .bl (g i j)) := by
  intro pins s σ H x y v u Q I rx ry h
  obtain ⟨i, j, rfl, rfl, q⟩ := h
  obtain ⟨t, rfl⟩ := rx
  obtain ⟨t', rfl⟩ := ry
  exact rule i j t t' s _ _ ⟨.bl (g i j), H, I, rfl, q⟩

def CDiv (i j : Int) : Prop := 0 < j ∧ j < 1073741824
def CMul (i j : Int) : Prop := (-(2 ^ 64) < i ∧ i < 2 ^ 64) ∨ (-(2 ^ 64) < j ∧ j < 2 ^ 64)
theorem CMul.ok {i j : Int} (h : CMul i j) : IntMulOk i j := by
  rcases h with ⟨h1, h2⟩ | ⟨h1, h2⟩
  · exact .of_left (intBits_le_64 h1 h2)
  · exact .of_right (intBits_le_64 h1 h2)
theorem op_add : OpR X (binaryOp .Add) (rI0 fun i j => .int (i + j)) := opI0 fun _ _ _ _ _ _ _ q => add_int q
theorem op_sub : OpR X (binaryOp .Sub) (rI0 fun i j => .int (i - j)) := opI0 fun _ _ _ _ _ _ _ q => sub_int q
/-- // by a positive divisor -/
theorem op_fdiv : OpR X (binaryOp .FloorDiv) (rI CDiv fun i j => .int (i / j)) := opI fun i j _ _ _ _ _ hc q => by
  have h1 : (0 : Int) < j := hc.1
  have h2 : j < 1073741824 := hc.2
  exact floordiv_int (by omega) (by rw [Int.fdiv_eq_ediv_of_nonneg i (by omega)]; exact q) (.inl (PyProof.noPylong_small (by omega)))
/-- % by a positive divisor of any size -/
theorem op_mod : OpR X (binaryOp .Mod) (rI (fun _ j => 0 < j) fun i j => .int (i % j)) := opI fun i j _ _ _ _ _ hc q => by
  have h1 : (0 : Int) < j := hc
  exact mod_int' (by omega) (by rw [Int.fmod_eq_emod_of_nonneg i (by omega)]; exact q)
theorem unI {f : Value → Sem Value} {g : Int → Int}
    (rule : ∀ (i : Int) (t : Tok) (s : Shared) (Q : Value → Shared → Prop) (E : Value → Shared → Prop), Q (.int (g i) s.toks) { s with toks := s.toks + 1 } → wpAny (model X.prog X.w) X.A (f (.int i t)) Q E s) :
    UnR X f (rU fun i => .int (g i)) := by
  intro pins s σ H x v Q I rx h
  obtain ⟨i, rfl, q⟩ := h
  obtain ⟨t, rfl⟩ := rx
  exact rule i t s _ _ ⟨.int (g i), H, I.tok _, ⟨_, rfl⟩, q⟩
theorem un_neg : UnR X (unaryOp .USub) (rU fun i => .int (-i)) := unI fun _ _ _ _ _ q => neg_int q
end

section
variable {X : Cx} {a b c : Expr} {ta tb tc : TE} {pos : Pos}
theorem op_lt : OpR X (compareOp .Lt) (rI0 fun i j => .bl (decide (i < j))) := opB0 fun _ _ _ _ _ _ _ q => lt_int q
theorem op_le : OpR X (compareOp .LtE) (rI0 fun i j => .bl (decide (i ≤ j))) := opB0 fun _ _ _ _ _ _ _ q => le_int q
theorem op_gt : OpR X (compareOp .Gt) (rI0 fun i j => .bl (decide (j < i))) := opB0 fun _ _ _ _ _ _ _ q => gt_int q
theorem op_ge : OpR X (compareOp .GtE) (rI0 fun i j => .bl (decide (j ≤ i))) := opB0 fun _ _ _ _ _ _ _ q => ge_int q
/-- two rules for one operation: by cases -/
theorem OpR.or {f : Value → Value → Sem Value} {r r' : R2} (h : OpR X f r) (h' : OpR X f r') : OpR X f (fun x y H Q => r x y H Q ∨ r' x y H Q) := by
  intro pins s σ H x y v u Q I rx ry q
  rcases q with q | q
  · exact h pins s σ H x y v u Q I rx ry q
  · exact h' pins s σ H x y v u Q I rx ry q

theorem nomark (b : Expr) {op : CmpOp} (h : op ≠ .In := by decide) (h2 : op ≠ .NotIn := by decide) : behindInMarks op b = false := by
  have e1 : (op == CmpOp.In) = false := by cases op <;> first | rfl | exact absurd rfl h
  have e2 : (op == CmpOp.NotIn) = false := by cases op <;> first | rfl | exact absurd rfl h2
  cases b <;> simp [behindInMarks, e1, e2]
/-- a reading of a value as a test -/
def tTest (t : TE) : TT := fun σ H Q => t σ H fun x H' => ∃ k, x = .bl k ∧ Q k H'
/-- a op1 b op2 c -/
def tChain (r r' : R2) (ta tb tc : TE) : TE := fun σ H Q => ta σ H fun x H1 => tb σ H1 fun y H2 => r x y H2 fun z H3 => ∃ k, z = .bl k ∧
  (if k = true then tc σ H3 fun w' H4 => r' y w' H4 Q else Q (.bl false) H3)
theorem pt_chain {op op' : CmpOp} {r r' : R2} (ho : OpR X (compareOp op) r) (ho' : OpR X (compareOp op') r') (ha : PE X a ta) (hb : PE X b tb) (hc : PE X c tc)
    (hm : lastMarks [op, op'] [b, c] = false := by with_unfolding_all rfl) : PT X (.Compare a [op, op'] [b, c] pos) (tTest (tChain r r' ta tb tc)) := by
  intro pins s σ H Q I h
  refine isTrue_chain (thn (ha pins s σ H _ I h) fun v s1 ⟨x, H1, I1, r1, q1⟩ => test_link (thn (hb pins s1 σ H1 _ I1 q1) fun u s2 ⟨y, H2, I2, r2, q2⟩ =>
    thn (ho pins s2 σ H2 x y v u _ I2 r1 r2 q2) fun d s3 ⟨z, H3, I3, r3, k, e, q3⟩ => ?_)) hm
  subst e
  cases r3
  refine wpAny_truthy_bool ?_
  cases k with
  | false =>
    obtain ⟨k', e', q'⟩ := q3
    cases e'
    exact ite_ff ⟨H3, I3, q'⟩
  | true =>
    refine ite_tt (test_last (thn (hc pins s3 σ H3 _ I3 q3) fun w' s4 ⟨z', H4, I4, r4, q4⟩ => thn (ho' pins s4 σ H4 y z' u w' _ I4 r2 r4 q4) fun d' s5 ⟨z2, H5, I5, r5, k2, e2, q5⟩ => ?_))
    subst e2
    cases r5
    exact wpAny_truthy_bool ⟨H5, I5, q5⟩

theorem line63 : (sizeLine : Nat) < 2 ^ 63 := by rw [sizeLine_eq]; decide
theorem op_add_str : OpR X (binaryOp .Add) (fun x y H Q => ∃ i j, x = .str i ∧ y = .str j ∧ i.length + j.length ≤ sizeLine ∧ Q (.str (i ++ j)) H) := by
  intro pins s σ H x y v u Q I rx ry h
  obtain ⟨i, j, rfl, rfl, hz, q⟩ := h
  obtain ⟨t, rfl⟩ := rx
  obtain ⟨t', rfl⟩ := ry
  exact add_str (fun t' tk => ⟨.str (i ++ j), H, I.tok _, ⟨_, rfl⟩, q⟩) hz
theorem vals1 {x : V} {us : List Value} (r : Vals [x] us) : ∃ u, us = [u] ∧ RelV x u := by
  cases r with
  | cons r1 r2 => cases r2; exact ⟨_, rfl, r1⟩
theorem vals2 {x y : V} {us : List Value} (r : Vals [x, y] us) : ∃ u w', us = [u, w'] ∧ RelV x u ∧ RelV y w' := by
  cases r with
  | cons r1 r2 =>
    cases r2 with
    | cons r3 r4 => cases r4; exact ⟨_, _, rfl, r1, r3⟩
theorem call_int1 : CallR X (.type "int") (fun xs H Q => (∃ i, xs = [.int i] ∧ Q (.int i) H) ∨ ∃ k, xs = [.bl k] ∧ Q (.int (if k then 1 else 0)) H) := by
  intro pins s σ H xs us Q I r h
  rcases h with ⟨i, rfl, q⟩ | ⟨k, rfl, q⟩
  · obtain ⟨u, rfl, t, rfl⟩ := vals1 r
    exact call_int_int ⟨.int i, H, I, ⟨_, rfl⟩, q⟩
  · obtain ⟨u, rfl, r1⟩ := vals1 r
    cases r1
    exact call_int_bool ⟨.int (if k then 1 else 0), H, I.tok _, ⟨_, rfl⟩, q⟩
end
end L2

namespace L2
open PySem PySem.Spec PyProof.Rows

structure ObjM (h : Heap) (x dx C : Addr) (mA : Str → Option Value) : Prop where
  obj : h.get? x = some (PySem.W.instObj C dx)
  ns : h.Ns1 dx mA
  ne : dx ≠ x

theorem lookIn_ns {h : Heap} {dx : Addr} {mA : Str → Option Value} (n : h.Ns1 dx mA) : ∃ od, h.get? dx = some od ∧ ∀ name, PySem.W.lookIn name od = some (mA name) := by
  obtain ⟨o, es, ep, ho, hd, hk, _, hm⟩ := n
  refine ⟨o, ho, fun name => ?_⟩
  have e := hm name
  unfold nsFind findBy at e
  rw [← Array.find?_toList] at e
  unfold PySem.W.lookIn
  rw [hd]
  dsimp only
  split
  · rename_i y q
    rw [q] at e
    exact congrArg some e
  · rename_i q
    rw [q] at e
    have a : es.toList.any (·.refKey) = false := by
      rw [List.any_eq_false]
      intro y hy
      obtain ⟨z, t, hkey⟩ := hk y (Array.mem_toList_iff.mp hy)
      simp [DictEntry.refKey, hkey]
    have a' : ¬ es.toList.any (·.refKey) = true := by rw [a]; exact Bool.false_ne_true
    rw [if_neg a']
    exact congrArg some e

theorem ObjM.look {h : Heap} {x dx C : Addr} {mA : Str → Option Value} (I : ObjM h x dx C mA) : ∃ od, PySem.W.InstAt h x (PySem.W.instObj C dx) C (some od) ∧ ∀ name, PySem.W.lookIn name od = some (mA name) :=
  let ⟨od, ho, hl⟩ := lookIn_ns I.ns
  ⟨od, ⟨I.obj, rfl, rfl, ho⟩, hl⟩

section
variable {prog : Program} {w : World} {A : Around} {E : Value → Shared → Prop} {s : Shared} {K : PySem.W.Frag} {x dx C f : Addr} {mA : Str → Option Value} {name : Str} {v : Value}

end

section
variable {P : Program} {w : World} {H H' : Hp} {h h' : Heap} {a C dx : Addr} {fs fs' : List (Str × V)}
theorem ins_get (hok : HOk P w H h) (e : H a = some (.ins C dx fs)) : ∃ mA, ObjM h a dx C mA ∧ (∀ f, RelO (fs.lookup f) (mA f)) ∧ PySem.Within mA (fs.map (·.1)) ∧ fs.length ≤ 1000 ∧ H dx = some (.own a) := by
  obtain ⟨d, z, ne, ob, mA, n, r, q⟩ := (show ObjOk P w H h a (.ins C dx fs) from hok a _ e)
  exact ⟨mA, ⟨ob, n, ne⟩, r, q, z, d⟩
end

structure Cls (K : PySem.W.Frag) (C : Addr) : Prop where
  pg : PySem.W.plainGet K C Str.empty = true
  hd : PySem.W.hasDictIn K C = true
  po : PySem.W.plainOver K C = true
  sa : PySem.W.findIn K (.ref C) "__setattr__" = some (some (.builtin "object.__setattr__"))
theorem Cls.get {K : PySem.W.Frag} {C : Addr} (c : Cls K C) (f : Str) : PySem.W.plainGet K C f = true := c.pg
section
variable {X : Cx} {pins : List (Addr × Obj)} {σ : St} {H : Hp} {s : Shared} {a C dx : Addr} {fs : List (Str × V)} {f : Str} {v : V} {A : Around} {E : Value → Shared → Prop}

/-- a new instance, tracked, without attributes -/
theorem Inv.made (I : Inv X pins σ H s) : Inv X pins σ (upd (upd H s.heap.objs.size (.own (s.heap.objs.size + 1))) (s.heap.objs.size + 1) (.ins C s.heap.objs.size []))
    { s with heap := (s.heap.push PySem.W.emptyDict).push (PySem.W.instObj C s.heap.objs.size) } := by
  have e1 : (s.heap.push PySem.W.emptyDict).get? s.heap.objs.size = some PySem.W.emptyDict := Heap.get?_push_size s.heap rfl
  have e2 : ((s.heap.push PySem.W.emptyDict).push (PySem.W.instObj C s.heap.objs.size)).get? (s.heap.objs.size + 1) = some (PySem.W.instObj C s.heap.objs.size) := by
    have := Heap.get?_push_size (s.heap.push PySem.W.emptyDict) (o := PySem.W.instObj C s.heap.objs.size) rfl
    rwa [Heap.size_push] at this
  have e3 : (s.heap.push PySem.W.emptyDict).Ns s.heap.objs.size (fun _ => none) := ⟨PySem.W.emptyDict, #[], _, e1, rfl, (fun e he => absurd he (by simp)), fun _ => rfl⟩
  have I1 := I.laid (a := s.heap.objs.size) (o := .own (s.heap.objs.size + 1)) (h' := s.heap.push PySem.W.emptyDict) (t' := s.toks) (fun b u q => Heap.get?_push_of_some _ q) (Nat.le_refl _) ⟨_, e1⟩
  refine I1.laid (a := s.heap.objs.size + 1) (o := .ins C s.heap.objs.size []) (t' := s.toks) (fun b u q => Heap.get?_push_of_some _ q) (Nat.le_of_eq (Heap.size_push _ _)) ?_
  have ne : s.heap.objs.size ≠ s.heap.objs.size + 1 := Nat.ne_of_lt (Nat.lt_succ_self _)
  refine ⟨by rw [upd_ne ne, upd_same], Nat.zero_le _, ne, e2, fun _ => none, (Heap.Ns1.of_empty e3).at fun o q => Heap.get?_push_of_some _ q, fun _ => True.intro, fun y hy => absurd rfl hy⟩

end

section
variable {X : Cx} {o e value : Expr} {f : Str} {pos pos' tpos : Pos} {ta tv : TE}
end

section
variable {X : Cx} {pins : List (Addr × Obj)} {σ : St} {H : Hp} {s : Shared} {A : Around} {E : Value → Shared → Prop} {Q : Value → Shared → Prop} {c : Value} {b : Bool}
/-- the type of a value, as the fragment's deciders take it; for an instance its class -/
inductive TyOf (K : PySem.W.Frag) (H : Hp) : V → Value → Prop where
  | non : TyOf K H .non (.type "NoneType")
  | bl (x : Bool) : TyOf K H (.bl x) (.type "bool")
  | int (i : Int) : TyOf K H (.int i) (.type "int")
  | str (x : Str) : TyOf K H (.str x) (.type "str")
  | flt (x : UInt64) : TyOf K H (.flt x) (.type "float")
  | lst {a : Addr} {xs : List V} (e : H a = some (.lst xs)) : TyOf K H (.ref a) (.type "list")
  | frz {a : Addr} {o : Obj} {xs : List V} (e : H a = some (.frz o (.lst xs))) : TyOf K H (.ref a) (.type "list")
  | tup {a : Addr} {xs : List V} (e : H a = some (.tup xs)) : TyOf K H (.ref a) (.type "tuple")
  | dK {a : Addr} {kvs : List (Key × V)} (e : H a = some (.dK kvs)) : TyOf K H (.ref a) (.type "dict")
  | dT {a : Addr} {kvs : List (List Key × V)} (e : H a = some (.dT kvs)) : TyOf K H (.ref a) (.type "dict")
  | ins {a C dx : Addr} {fs : List (Str × V)} (e : H a = some (.ins C dx fs)) (cl : Cls K C) (ha : PySem.W.findIn K (.ref C) "__class__" = some (some (.builtin "object.__class__")))
      (hn : PySem.W.specialIn K (.builtin "object.__class__") "__get__" = some (some (.builtin "getset_descriptor.__get__"))) (htk : PySem.W.takesIn K (.builtin "object.__class__") = some true)
      (hm : PySem.W.mroIn K C (.type "object") = some true) : TyOf K H (.ref a) (.ref C)
/-- isinstance(x, c) for one class c, a built-in or an own one: kitOne's answer -/
theorem isinst_ok {x : V} {u t : Value} (I : Inv X pins σ H s) (rx : RelV x u) (ty : TyOf X.K H x t) (e : PySem.W.kitOne X.K t c = some b) (h : ∀ tk, Q (.bool b) { s with toks := tk }) :
    wpAny (model X.prog X.w) A (call (.builtin "isinstance") [u, c]) Q E s := by
  cases ty with
  | non => cases (show u = Value.none from rx); exact PySem.W.kia_one PySem.W.kitx_none I.kIn True.intro e (fun z => nomatch z) h
  | bl y => cases (show u = Value.bool y from rx); exact PySem.W.kia_one PySem.W.kitx_bool I.kIn True.intro e (fun z => nomatch z) h
  | int i => obtain ⟨t, q⟩ := (show ∃ t, u = Value.int i t from rx); cases q; exact PySem.W.kia_one PySem.W.kitx_int I.kIn True.intro e (fun z => nomatch z) h
  | str y => obtain ⟨t, q⟩ := (show ∃ t, u = Value.str y t from rx); cases q; exact PySem.W.kia_one PySem.W.kitx_str I.kIn True.intro e (fun z => nomatch z) h
  | flt y => obtain ⟨t, q⟩ := (show ∃ t, u = Value.float y t from rx); cases q; exact PySem.W.kia_one PySem.W.kitx_float I.kIn True.intro e (fun z => nomatch z) h
  | @lst a xs ea =>
    cases (show u = Value.ref a from rx)
    obtain ⟨_, _, n, _, h1⟩ := (show ObjOk X.prog X.w H s.heap a (.lst xs) from I.hok a _ ea)
    exact PySem.W.kia_one PySem.W.kitx_list I.kIn ⟨_, h1, rfl⟩ e (fun z => nomatch z) h
  | @frz a ob xs ea =>
    cases (show u = Value.ref a from rx)
    obtain ⟨_, _, _, n, _, h1⟩ := (show ObjOk X.prog X.w H s.heap a (.frz ob (.lst xs)) from I.hok a _ ea)
    exact PySem.W.kia_one PySem.W.kitx_list I.kIn ⟨_, h1, rfl⟩ e (fun z => nomatch z) h
  | @tup a xs ea =>
    cases (show u = Value.ref a from rx)
    obtain ⟨_, _, _, p⟩ := (show ObjOk X.prog X.w H s.heap a (.tup xs) from I.hok a _ ea)
    obtain ⟨o, h1, h2, _⟩ := p
    exact PySem.W.kia_one PySem.W.kitx_tuple I.kIn ⟨o, h1, h2⟩ e (fun z => nomatch z) h
  | @dK a kvs ea =>
    cases (show u = Value.ref a from rx)
    obtain ⟨_, _, vs, _, p⟩ := (show ObjOk X.prog X.w H s.heap a (.dK kvs) from I.hok a _ ea)
    obtain ⟨o, es, ep, h1, h2, _⟩ := p
    exact PySem.W.kia_one PySem.W.kitx_dict I.kIn ⟨o, h1, h2.1⟩ e (fun z => nomatch z) h
  | @dT a kvs ea =>
    cases (show u = Value.ref a from rx)
    obtain ⟨_, _, xs, _, o, es, ep, h1, h2, _⟩ := (show ObjOk X.prog X.w H s.heap a (.dT kvs) from I.hok a _ ea)
    exact PySem.W.kia_one PySem.W.kitx_dict I.kIn ⟨o, h1, h2.1⟩ e (fun z => nomatch z) h
  | @ins a C dx fs ea cl ha hn htk hm =>
    cases (show u = Value.ref a from rx)
    obtain ⟨mA, O, _⟩ := ins_get I.hok ea
    obtain ⟨od, J, _⟩ := O.look
    exact PySem.W.kia_one (PySem.W.kitx_own (cl.get _) cl.hd ha hn htk hm) I.kIn J e (fun z => nomatch z) h
end
end L2

namespace L2
open PySem PySem.Spec PyProof.Rows

structure Room (k : Nat) (A : Around) : Prop where
  hd : A.handled = none
  dp : A.depth + 3 * k + 5 < recursionLimit
  un : A.units + 16 * k + 200 < cLine
theorem Room.mono {j k : Nat} {A : Around} (r : Room k A) (h : j ≤ k) : Room j A := ⟨r.hd, by have := r.dp; omega, by have := r.un; omega⟩
theorem Room.deeper {k : Nat} {A : Around} (r : Room (k + 1) A) (env : Env) : Room k (A.deeper env) :=
  ⟨r.hd, by have := r.dp; show A.depth + 1 + 3 * k + 5 < _; omega, by have := r.un; show A.units + 3 + 16 * k + 200 < _; omega⟩
theorem Room.in1 {k : Nat} {A : Around} (r : Room (k + 1) A) : Room k A.in1 :=
  ⟨r.hd, by have := r.dp; show A.depth + 3 * k + 5 < _; omega, by have := r.un; show A.units + 1 + 16 * k + 200 < _; omega⟩
theorem Room.depth {k : Nat} {A : Around} (r : Room k A) : A.depth < recursionLimit := by have := r.dp; omega
theorem Room.units {k : Nat} {A : Around} (r : Room k A) : A.units + 64 < cLine := by have := r.un; omega
def tNil : TA := fun _ H Q => Q [] H
def tCons (ta : TE) (tr : TA) : TA := fun σ H Q => ta σ H fun x H1 => tr σ H1 fun xs H2 => Q (x :: xs) H2
section
variable {X : Cx} {e : Expr} {es : List Expr} {te : TE} {t : TA} {pos : Pos}
theorem pa_nil : PA X [] tNil := fun _ _ _ _ H Q I h => Calls.spliced_nil ⟨[], H, I, .nil, h⟩
theorem pa_cons (ha : PE X e te) (hr : PA X es t) (hs : starEach (e :: es) X.env = (false, eval e X.env) :: starEach es X.env := by rfl) : PA X (e :: es) (tCons te t) := by
  intro pos pins s σ H Q I h
  rw [hs]
  show wpAny _ _ (spliced ((false, eval e X.env) :: backTo pos (starEach es X.env))) _ _ s
  refine Calls.spliced_cons (thn (ha pins s σ H _ I h) fun u s1 ⟨x, H1, I1, r1, q1⟩ => ?_)
  exact thn (hr pos pins s1 σ H1 _ I1 q1) fun us s2 ⟨xs, H2, I2, r2, q2⟩ => ⟨x :: xs, H2, I2, .cons r1 r2, q2⟩

/-- a tuple, a list of written items -/
def tTup (t : TA) : TE := fun σ H Q => t σ H fun xs H1 => xs.length ≤ sizeLine ∧ ∀ p, H1 p = none → Q (.ref p) (upd H1 p (.tup xs))
def tLst (t : TA) : TE := fun σ H Q => t σ H fun xs H1 => xs.length ≤ sizeLine ∧ ∀ p, H1 p = none → Q (.ref p) (upd H1 p (.lst xs))
theorem pe_tup {x1} (h : PA X es t) : PE X (.Tuple es x1 pos) (tTup t) := by
  intro pins s σ H Q I hq
  refine wpAny_Tuple_spliced (thn (h pos pins s σ H _ I hq) fun us s1 ⟨xs, H1, I1, r, z, q⟩ => ⟨by rw [← r.length]; exact z, ?_⟩)
  have hf : H1 s1.heap.objs.size = none := I1.hok.fresh (Nat.le_refl _)
  refine ⟨.ref s1.heap.objs.size, upd H1 s1.heap.objs.size (.tup xs), I1.laid (t' := s1.toks) (fun b u e => Heap.get?_push_of_some _ e) (Nat.le_refl _) ?_, rfl, q _ hf⟩
  exact ⟨z, us, r, ⟨_, Heap.get?_push_size _ rfl, rfl, _, rfl⟩⟩
theorem pe_lst (h : PA X es t) : PE X (.List es pos) (tLst t) := by
  intro pins s σ H Q I hq
  refine wpAny_List_spliced (thn (h pos pins s σ H _ I hq) fun us s1 ⟨xs, H1, I1, r, z, q⟩ => ⟨by rw [← r.length]; exact z, ?_⟩)
  have hf : H1 s1.heap.objs.size = none := I1.hok.fresh (Nat.le_refl _)
  refine ⟨.ref s1.heap.objs.size, upd H1 s1.heap.objs.size (.lst xs), I1.laid (t' := s1.toks) (fun b u e => Heap.get?_push_of_some _ e) (Nat.le_refl _) ?_, rfl, q _ hf⟩
  exact ⟨z, us, 0, r, Heap.get?_push_size _ rfl⟩
end

/-- a def's promise: the bound arguments in the parameters' order, the heap, the wanted end, the wanted exception -/
abbrev Sp := List V → Hp → VK → XK → Prop
/-- how an exception lies behind a call (file 08 gives it): the callers' frames, abstract heap and state ahead of the call, the wish, the exception, the state -/
abbrev CXT := List Env → Hp → Shared → XK → Value → Shared → Prop

/-- the state at a call -/
structure Env0 (P : Program) (w : World) (K : PySem.W.Frag) (mg : Str → Option Value) (base : Heap) (A : Around) (outer : List Env) (s : Shared) (H : Hp) : Prop where
  frames : A.frames = some outer
  mod : Mod K mg base
  bs : ∀ b o, base.get? b = some o → s.heap.get? b = some o ∧ H b = none
  bsz : base.objs.size ≤ s.heap.objs.size
  funs : s.heap.FunFrames base outer
  frf : ∀ b ∈ frs outer, H b = none
  hok : HOk P w H s.heap
  bare : AllBare s.gens
/-- a call's end -/
def CE (outer : List Env) (P : Program) (w : World) (H : Hp) (s : Shared) (Q : VK) (u : Value) (s' : Shared) : Prop :=
  ∃ v H', s'.os = s.os ∧ AllBare s'.gens ∧ Un (frs outer) [] H H' s.heap s'.heap ∧ HOk P w H' s'.heap ∧ RelV v u ∧ Q v H'
def CR (CX : CXT) (outer : List Env) (P : Program) (w : World) (H : Hp) (s : Shared) (Q : VK) (E : XK) (r : Result) (s' : Shared) : Prop :=
  match r with
  | .ok (.ret u) => CE outer P w H s Q u s'
  | .ok _ => False
  | .error e => CX outer H s E e s'
structure FnOk (P : Program) (w : World) (K : PySem.W.Frag) (mg : Str → Option Value) (base : Heap) (CX : CXT) (k : Nat) (f : Addr) (fd : FuncData) (ps : List Str) (sp : Sp) : Prop where
  len : ∀ vs H Q E, sp vs H Q E → vs.length = ps.length
  run : ∀ (A : Around) (outer : List Env) (s : Shared) (H : Hp) (args : Args) (us : List Value) (vs : List V) (Q : VK) (E : XK), Room k A → Env0 P w K mg base A outer s H → BindsTo s fd args (ps.zip us) → Vals vs us → sp vs H Q E →
    codeAny (model P w) A (.call (.ref f) args) (CR CX outer P w H s Q E) s
theorem FnOk.mono {P : Program} {w : World} {K : PySem.W.Frag} {mg : Str → Option Value} {base : Heap} {CX : CXT} {j k : Nat} {f : Addr} {fd : FuncData} {ps : List Str} {sp : Sp} (F : FnOk P w K mg base CX j f fd ps sp) (h : j ≤ k) :
    FnOk P w K mg base CX k f fd ps sp := ⟨F.len, fun A outer s H args us vs Q E hr => F.run A outer s H args us vs Q E (hr.mono h)⟩
/-- a weaker promise -/
theorem FnOk.imp {P : Program} {w : World} {K : PySem.W.Frag} {mg : Str → Option Value} {base : Heap} {CX : CXT} {k : Nat} {f : Addr} {fd : FuncData} {ps : List Str} {sp sp' : Sp} (F : FnOk P w K mg base CX k f fd ps sp)
    (h : ∀ vs H Q E, sp' vs H Q E → sp vs H Q E) : FnOk P w K mg base CX k f fd ps sp' :=
  ⟨fun vs H Q E q => F.len vs H Q E (h _ _ _ _ q), fun A outer s H args us vs Q E hr he hb hv hs => F.run A outer s H args us vs Q E hr he hb hv (h _ _ _ _ hs)⟩

theorem Env0.in1 {P : Program} {w : World} {K : PySem.W.Frag} {mg : Str → Option Value} {base : Heap} {A : Around} {outer : List Env} {s : Shared} {H : Hp} (e : Env0 P w K mg base A outer s H) :
    Env0 P w K mg base A.in1 outer s H := ⟨e.frames, e.mod, e.bs, e.bsz, e.funs, e.frf, e.hok, e.bare⟩

section
variable {X : Cx} {pins : List (Addr × Obj)} {σ : St} {H : Hp} {s s' : Shared}
/-- from a body: what a callee wants -/
theorem Inv.env0 (I : Inv X pins σ H s) : Env0 X.prog X.w X.K X.mg X.base X.A X.stack s H :=
  ⟨I.ok.frames, I.ok.mod, I.bs, Nat.le_trans I.ok.bsz I.sz, I.stack, I.stkFree, I.hok, I.bare⟩
/-- behind a call -/
theorem Inv.after {Q : VK} {u : Value} (I : Inv X pins σ H s) (h : CE X.stack X.prog X.w H s Q u s') : EP X pins σ Q u s' := by
  obtain ⟨v, H', os, bare, un, hok, r, q⟩ := h
  obtain ⟨hh, g, d, t, os'⟩ := s'
  obtain rfl : os' = s.os := os
  exact ⟨v, H', I.call (h' := hh) (g' := g) (d' := d) (t' := t) (ch := []) un hok bare (fun b z => absurd z (by simp)), r, q⟩
end

/-- f(..): the written arguments, then the defaults dvs; E: what is wanted of an exception -/
def tCall (sp : Sp) (dvs : List V) (E : XK) (t : TA) : TE := fun σ H Q => t σ H fun vs H1 => sp (vs ++ dvs) H1 Q E
/-- how the parameters are bound: us the positional arguments, kw the keywords' values by name, ds the defaults that fill up -/
def Binds (K : PySem.W.Frag) (fd : FuncData) (ps : List Str) (ds : List Value) : Prop :=
  ∀ (s : Shared) (us : List Value), K.In s.heap → (us ++ ds).length = ps.length → BindsTo s fd ⟨us, []⟩ (ps.zip (us ++ ds))
/-- every parameter is given -/
theorem Binds.all {K : PySem.W.Frag} {fd : FuncData} {ps : List Str} (h : ∀ us : List Value, us.length = ps.length → bindArgs fd ⟨us, []⟩ = pure (ps.zip us)) : Binds K fd ps [] := fun s us _ hl => by
  rw [List.append_nil] at hl ⊢
  exact .of_eq (h us hl)

/-- an exception of a callee reaches what this body wants of exceptions -/
def Passes (CX : CXT) (X : Cx) (E : XK) : Prop := ∀ (pins : List (Addr × Obj)) (σ : St) (H : Hp) (s : Shared) (e : Value) (s' : Shared), Inv X pins σ H s → CX X.stack H s E e s' → X.xe e s'

section
variable {X : Cx} {CX : CXT} {k : Nat} {f C : Addr} {fd : FuncData} {ps : List Str} {sp : Sp} {dvs : List V} {ds : List Value} {E : XK} {x m : Str} {p pos apos : Pos} {e o : Expr} {es : List Expr} {ta : TE} {t : TA}

/-- the callee runs -/
theorem run_fn {pins : List (Addr × Obj)} {σ : St} {H : Hp} {s : Shared} {Q : VK} {us : List Value} {vs : List V} (F : FnOk X.prog X.w X.K X.mg X.base CX k f fd ps sp) (hr : Room k X.A) (hb : Binds X.K fd ps ds) (hd : Vals dvs ds) (hx : Passes CX X E)
    (I : Inv X pins σ H s) (r : Vals vs us) (h : sp (vs ++ dvs) H Q E) : wpAny (model X.prog X.w) X.A (call (.ref f) us) (EP X pins σ Q) X.xe s := by
  have r2 : Vals (vs ++ dvs) (us ++ ds) := r.append hd
  have hl : (us ++ ds).length = ps.length := by rw [← r2.length]; exact F.len _ _ _ _ h
  refine wpAny_call (codeAny_mono (F.run X.A X.stack s H ⟨us, []⟩ (us ++ ds) (vs ++ dvs) Q E hr I.env0 (hb s us I.kIn hl) r2 h) fun r s' hq => ?_)
  cases r with
  | error e => exact hx pins σ H s e s' I hq
  | ok fl =>
    cases fl with
    | ret u => exact I.after hq
    | next => exact False.elim hq
    | brk => exact False.elim hq
    | cont => exact False.elim hq

theorem pe_call (F : FnOk X.prog X.w X.K X.mg X.base CX k f fd ps sp) (hr : Room k X.A) (hg : Gl X x) (hm : X.mg x = some (.ref f)) (hk : PySem.W.keepIn X.K (.ref f) = true) (hb : Binds X.K fd ps ds) (hd : Vals dvs ds) (hx : Passes CX X E)
    (ha : PA X (e :: es) t) (hdb : (x == ("__debug__" : Str)) = false := by decide) (he : starEach (e :: es) X.env = (false, eval e X.env) :: starEach es X.env := by rfl) (hpl : (backTo pos (starEach es X.env)).any (·.1) = false := by rfl) :
    PE X (.Call (.Name x p) (e :: es) [] pos) (tCall sp dvs E t) := by
  intro pins s σ H Q I h
  refine wpAny_Call_Name_kw (ld_glob I hg hm ?_ hdb)
  refine PySem.W.callWith_K (h₀ := X.base) I.ok.mod.kin hk (thn (ha pos pins s σ H _ I h) fun us s1 ⟨vs, H1, I1, r, q⟩ => ⟨I1.kIn, ?_⟩) he hpl
  exact run_fn F hr hb hd hx I1 r q
end

section
variable {X : Cx} {CX : CXT} {k : Nat} {f C : Addr} {fd : FuncData} {ps ks : List Str} {sp : Sp} {E : XK} {x m : Str} {p pos apos kpos : Pos} {e o : Expr} {es : List Expr} {kws : List Keyword} {te ta : TE} {t tk : TA} {nm : Option Str}
variable {g : List Value → List Value → List Value} {gV : List V → List V → List V}
end

/-- names: the parameters first -/
structure FnScope (N P : List Str) (sc : Scope) : Prop where
  kind : sc.kind = .function
  co : sc.isCoroutine = false
  gen : sc.isGenerator = false
  nd : N.Nodup
  pre : N.take P.length = P
  par : ∀ x ∈ P, sc.names.lookup x = some .local ∨ sc.names.lookup x = some .cell
  nofree : ∀ y ∈ sc.names, y.2 ≠ .free

theorem bindL_out {kindOf : Str → Option NameKind} {x : Str} : ∀ {binds : List (Str × Value)} {m : Str → Option Value}, (∀ v, (x, v) ∉ binds) → bindL kindOf binds m x = m x
  | [], _, _ => rfl
  | (n, v) :: r, m, h => by
    unfold bindL
    rw [bindL_out fun w hw => h w (List.mem_cons_of_mem _ hw)]
    split
    · have : x ≠ n := by rintro rfl; exact h v List.mem_cons_self
      simp [this]
    · rfl
theorem bindC_out {kindOf : Str → Option NameKind} {x : Str} : ∀ {binds : List (Str × Value)} {m : Str → Option Value}, (∀ v, (x, v) ∉ binds) → bindC kindOf binds m x = m x
  | [], _, _ => rfl
  | (n, v) :: r, m, h => by
    unfold bindC
    rw [bindC_out fun w hw => h w (List.mem_cons_of_mem _ hw)]
    split
    · rfl
    · have : x ≠ n := by rintro rfl; exact h v List.mem_cons_self
      simp [this]
theorem bindL_get {kindOf : Str → Option NameKind} {x : Str} {v : Value} : ∀ {P : List Str} {vs : List Value} {i : Nat} {m : Str → Option Value}, P.Nodup → P[i]? = some x → vs[i]? = some v → kindOf x = some .local →
    bindL kindOf (P.zip vs) m x = some v
  | [], _, _, _, _, h, _, _ => by simp at h
  | _ :: _, [], _, _, _, _, h, _ => by simp at h
  | p :: P, w :: vs, 0, m, nd, h1, h2, hk => by
    simp at h1 h2; subst h1; subst h2
    show bindL kindOf ((p, w) :: P.zip vs) m p = _
    unfold bindL
    rw [bindL_out fun v hv => (List.nodup_cons.mp nd).1 (List.of_mem_zip hv).1, if_pos hk]
    simp
  | p :: P, w :: vs, i + 1, m, nd, h1, h2, hk => by
    show bindL kindOf ((p, w) :: P.zip vs) m x = _
    unfold bindL
    exact bindL_get (i := i) (List.nodup_cons.mp nd).2 (by simpa using h1) (by simpa using h2) hk
theorem bindC_get {kindOf : Str → Option NameKind} {x : Str} {v : Value} : ∀ {P : List Str} {vs : List Value} {i : Nat} {m : Str → Option Value}, P.Nodup → P[i]? = some x → vs[i]? = some v → kindOf x ≠ some .local →
    bindC kindOf (P.zip vs) m x = some v
  | [], _, _, _, _, h, _, _ => by simp at h
  | _ :: _, [], _, _, _, _, h, _ => by simp at h
  | p :: P, w :: vs, 0, m, nd, h1, h2, hk => by
    simp at h1 h2; subst h1; subst h2
    show bindC kindOf ((p, w) :: P.zip vs) m p = _
    unfold bindC
    rw [bindC_out fun v hv => (List.nodup_cons.mp nd).1 (List.of_mem_zip hv).1, if_neg hk]
    simp
  | p :: P, w :: vs, i + 1, m, nd, h1, h2, hk => by
    show bindC kindOf ((p, w) :: P.zip vs) m x = _
    unfold bindC
    exact bindC_get (i := i) (List.nodup_cons.mp nd).2 (by simpa using h1) (by simpa using h2) hk

/-- the names' values at the entry -/
def start (N : List Str) (vs : List V) : St := vs.map some ++ List.replicate (N.length - vs.length) none

/-- the context of a def's body, at its entry; an exception leaves the frame, then lies as CX says -/
def cxOf (CX : CXT) (P : Program) (w : World) (K : PySem.W.Frag) (mg : Str → Option Value) (base : Heap) (N : List Str) (qual : Str) (scope : Scope) (f : Addr) (cd : Value) (A : Around) (outer : List Env) (s : Shared) (H : Hp) (E : XK) : Cx where
  prog := P
  w := w
  K := K
  mg := mg
  base := base
  A := A.deeper (envOfC qual scope s.heap.objs.size f cd)
  N := N
  s₀ := s
  H₀ := H
  env := envOfC qual scope s.heap.objs.size f cd
  outer := outer
  stack := envOfC qual scope s.heap.objs.size f cd :: outer
  ex := []
  calm := true
  fn := fun _ => true
  pn := []
  xe := fun e s' => wpAny (model P w) (A.deeper (envOfC qual scope s.heap.objs.size f cd)) (leaving (envOfC qual scope s.heap.objs.size f cd) e) (fun _ s'' => CX outer H s E e s'') (fun e' s'' => CX outer H s E e' s'') s'

theorem cell_has {sc : Scope} {n : Nat} {x : Str} (h : sc.names.lookup x = some .cell) : ∃ c, (cellsFrom n sc.names []).lookup x = some c := by
  have q := PySem.W.cellsFrom_some sc.names n [] (.inl h)
  exact Option.isSome_iff_exists.mp q

theorem inv_start {CX : CXT} {P : Program} {w : World} {K : PySem.W.Frag} {mg : Str → Option Value} {base : Heap} {N ps : List Str} {qual : Str} {scope : Scope} {f : Addr} {cd : Value} {A : Around} {outer : List Env} {s s1 : Shared} {H : Hp} {E : XK} {us : List Value} {vs : List V}
    (S : FnScope N ps scope) (hd : A.handled = none) (e0 : Env0 P w K mg base A outer s H) (hl : vs.length = ps.length) (r : Vals vs us)
    (x : InCallC s s.heap.objs.size (bindL (envOfC qual scope s.heap.objs.size f cd).kindOf (ps.zip us) fun _ => none) (cellsFrom (s.heap.objs.size + 1) scope.names []) (bindC (envOfC qual scope s.heap.objs.size f cd).kindOf (ps.zip us) fun _ => none) s1) :
    Inv (cxOf CX P w K mg base N qual scope f cd A outer s H E) [] (start N vs) H s1 := by
  have hpl : ps.length ≤ N.length := by have := congrArg List.length S.pre; rw [List.length_take] at this; omega
  obtain ⟨h1, tk, rfl, hk⟩ := x.done
  have noA : ∀ b : Addr, b ∉ (cxOf CX P w K mg base N qual scope f cd A outer s H E).ex := fun b z => absurd (show b ∈ ([] : List Addr) from z) (by simp)
  refine ⟨⟨e0.mod, S.kind, rfl, rfl, Nat.le_refl _, fun y z c h1 h2 => ?_, fun y hy => ?_, fun y c _ h => ?_, fun _ => hd, Around.frames_deeper e0.frames, .inr ⟨rfl, rfl⟩, fun b z => absurd z (noA b), e0.bs, e0.bsz, fun b _ _ => noA b, fun b z => absurd z (noA b), e0.funs, e0.frf⟩,
    rfl, e0.bare, Un.kept hk, ⟨_, x.toInCall.ns, fun i y v h1 h2 h3 => ?_⟩, fun y c h => ⟨_, x.cell y c h⟩, e0.hok.fresh (Nat.le_refl _), fun y c h => ?_, fun p hp => absurd (show p ∈ ([] : List (Addr × Obj)) from hp) (by simp), e0.hok.kept hk, ?_⟩
  · exact name_of_addr x.apart (PySem.mem_of_lookup h1) (PySem.mem_of_lookup h2)
  · have hy : scope.names.lookup y = some .cell ∨ scope.names.lookup y = some .free := hy
    rcases hy with hy | hy
    · exact cell_has hy
    · exact absurd rfl (S.nofree _ (PySem.mem_of_lookup hy))
  · exact Nat.le_of_lt (x.above y c (PySem.mem_of_lookup h))
  · have hi : i < vs.length := by
      unfold start at h2
      by_cases hi : i < vs.length
      · exact hi
      · rw [List.getElem?_append_right (by simpa using hi)] at h2
        rw [List.getElem?_replicate] at h2
        split at h2 <;> cases h2
    have ha : vs[i]? = some v := by
      unfold start at h2
      rw [List.getElem?_append_left (by simpa using hi), List.getElem?_map] at h2
      cases e : vs[i]? with
      | none => rw [e] at h2; cases h2
      | some a => rw [e] at h2; cases h2; rfl
    obtain ⟨u, hu, rv⟩ := r.get ha
    have hp : ps[i]? = some y := by
      rw [← S.pre, List.getElem?_take_of_lt (by omega)]; exact h1
    have ndP : ps.Nodup := by rw [← S.pre]; exact S.nd.sublist (List.take_sublist _ _)
    refine ⟨u, rv, ?_⟩
    rcases S.par y (List.mem_of_getElem? hp) with k | k
    · exact .inl ⟨k, bindL_get ndP hp hu k⟩
    · obtain ⟨c, e⟩ := cell_has (n := s.heap.objs.size + 1) k
      refine .inr ⟨.inl k, c, e, ?_⟩
      have q := x.cell y c e
      rw [bindC_get ndP hp hu (by show scope.names.lookup y ≠ _; rw [k]; decide)] at q
      exact q
  · exact e0.hok.fresh (Nat.le_of_lt (x.above y c (PySem.mem_of_lookup h)))
  · unfold start
    show _ = N.length
    rw [List.length_append, List.length_map, List.length_replicate]
    omega

/-- THE RULE: a def (or a method) of the text, by its body. The body's reading t is chosen for each entry; it is run at the parameters' values -/
theorem fn_of {CX : CXT} {P : Program} {w : World} {K : PySem.W.Frag} {mg : Str → Option Value} {base : Heap} {k : Nat} {f : Addr} {name qual : Str} {params : Arguments} {body : List Stmt} {scope : Scope} {dV kV doc pm cdv ct oc : Value} {an od : Option Addr}
    {osl : Array (Option Value)} {N ps : List Str} {sp : Sp} (lk : K.lookup f = some ⟨oc, od, .func (PySem.W.fnOf name qual params body scope dV kV doc pm an cdv ct), osl⟩) (hcd : PySem.W.codeIn K cdv qual = true) (S : FnScope N ps scope)
    (len : ∀ vs H Q E, sp vs H Q E → vs.length = ps.length)
    (hbody : ∀ (A : Around) (outer : List Env) (s : Shared) (H : Hp) (vs : List V) (Q : VK) (E : XK), Room k (A.deeper (envOfC qual scope s.heap.objs.size f cdv)) → sp vs H Q E →
      ∃ t, PSs (cxOf CX P w K mg base N qual scope f cdv A outer s H E) body t ∧ t { nx := fun _ H' => Q .non H', rt := Q } (start N vs) H) :
    FnOk P w K mg base CX (k + 1) f (PySem.W.fnOf name qual params body scope dV kV doc pm an cdv ct) ps sp := by
  refine ⟨len, fun A outer s H args us vs Q E hr e0 hb r hsp => ?_⟩
  have hl := len _ _ _ _ hsp
  have KX : K.In s.heap := e0.mod.kin.keeps fun b o e => (e0.bs b o e).1
  have lim : s.heap.NoLimit := e0.mod.nolimit.keeps fun b o e => (e0.bs b o e).1
  have hkind : ∀ y ∈ ps.zip us, scope.names.lookup y.1 = some .local ∨ (scope.names.lookup y.1 = some .cell ∧ ((cellsFrom (s.heap.objs.size + 1) scope.names []).lookup y.1).isSome = true) := fun ⟨n, v⟩ hy => by
    rcases S.par n (List.of_mem_zip hy).1 with q | q
    · exact .inl q
    · exact .inr ⟨q, PySem.W.cellsFrom_some _ _ _ (.inl q)⟩
  refine codeAny_call_function hr.depth (KX _ _ lk) rfl S.co S.gen rfl (PySem.W.codeRec_of KX hcd) (hb _ _ _ _ ?_)
  refine wpAny_newFunctionEnv_cells S.kind hkind fun env he s1 x => ?_
  subst he
  refine ⟨lim.keeps x.toInCall.keep, codeAny_func ?_⟩
  obtain ⟨t, ht, hq⟩ := hbody A outer s H vs Q E (hr.deeper _) hsp
  have I : Inv (cxOf CX P w K mg base N qual scope f cdv A outer s H E) [] (start N vs) H s1 := inv_start S hr.hd e0 hl r x
  refine wpAny_mono (ht [] s1 (start N vs) H _ I hq) (fun fl s' hs => ?_) fun e s' hs => hs
  have fin : ∀ {σ' : St} {H' : Hp} {v : V} {u : Value}, Inv (cxOf CX P w K mg base N qual scope f cdv A outer s H E) [] σ' H' s' → RelV v u → Q v H' → CE outer P w H s Q u s' :=
    fun {σ' H' v u} J rv q => ⟨v, H', J.os, J.bare, J.base, J.hok, rv, q⟩
  cases fl with
  | ret u =>
    obtain ⟨v, σ', H', J, rv, q⟩ := hs
    exact fin J rv q
  | next =>
    obtain ⟨σ', H', J, q⟩ := hs
    exact fin (v := V.non) (u := Value.none) J rfl q
  | brk =>
    obtain ⟨_, _, _, q⟩ := hs
    exact False.elim q
  | cont =>
    obtain ⟨_, _, _, q⟩ := hs
    exact False.elim q
end L2

namespace L2
open PySem PySem.Spec PyProof.Rows
section
variable {X : Cx} {x : Str} {p pos : Pos} {e : Expr} {es : List Expr} {t : TA} {id T : String} {r : List V → Hp → VK → Prop}

def tCB (r : List V → Hp → VK → Prop) (t : TA) : TE := fun σ H Q => t σ H fun vs H1 => r vs H1 Q
/-- f(e, ..), f a built-in function -/
theorem pe_callB (hc : CallR X (.builtin id) r) (hg : Gl X x) (hm : X.mg x = none) (hv : bootBuiltins x = some (.builtin id)) (ha : PA X (e :: es) t) (hn : x ≠ "__name__" := by decide) (hdb : (x == ("__debug__" : Str)) = false := by decide)
    (he : starEach (e :: es) X.env = (false, eval e X.env) :: starEach es X.env := by rfl) (hpl : (backTo pos (starEach es X.env)).any (·.1) = false := by rfl) : PE X (.Call (.Name x p) (e :: es) [] pos) (tCB r t) := by
  intro pins s σ H Q I h
  refine wpAny_Call_Name_kw (ld_blt I hg hm hv ?_ hn hdb)
  exact PyProof.Rows.callWith_builtin1 (thn (ha pos pins s σ H _ I h) fun us s1 ⟨vs, H1, I1, r1, q1⟩ => hc pins s1 σ H1 vs us Q I1 r1 q1) he hpl
/-- T(e, ..), T a built-in type -/
theorem pe_callTy (hc : CallR X (.type T) r) (hg : Gl X x) (hm : X.mg x = none) (hv : bootBuiltins x = some (.type T)) (ha : PA X (e :: es) t) (hn : x ≠ "__name__" := by decide) (hdb : (x == ("__debug__" : Str)) = false := by decide)
    (he : starEach (e :: es) X.env = (false, eval e X.env) :: starEach es X.env := by rfl) (hpl : (backTo pos (starEach es X.env)).any (·.1) = false := by rfl) : PE X (.Call (.Name x p) (e :: es) [] pos) (tCB r t) := by
  intro pins s σ H Q I h
  refine wpAny_Call_Name_kw (ld_blt I hg hm hv ?_ hn hdb)
  exact PyProof.Rows.callWith_type1 (thn (ha pos pins s σ H _ I h) fun us s1 ⟨vs, H1, I1, r1, q1⟩ => hc pins s1 σ H1 vs us Q I1 r1 q1) he hpl
end
end L2

namespace HT
open PySem PyProof.Rows

section
open PySem.SeqAt
open PySem.AutoSeq1 (wpAny_loadPart')
open PySem.MeetsSeq PySem.MeetsSeq2 PySem.MeetsSeq3

end

section
variable {prog : Program} {w : World} {A : Around} {E : Value → Shared → Prop} {s : Shared}

/-- t + u, t not empty -/
theorem cat_tup {t b : Addr} {vs ws : List Value} {Q : Value → Shared → Prop} (ht : IsTup s.heap t vs.toArray) (hb : IsTup s.heap b ws.toArray) (hv : vs ≠ [])
    (h1 : ws = [] → Q (.ref t) s) (h2 : ws ≠ [] → Q (.ref s.heap.objs.size) { s with heap := s.heap.push { cls := .type "tuple", data := .seq (vs ++ ws).toArray } })
    (hsz : vs.length + ws.length ≤ sizeLine) : wpAny (model prog w) A (binaryOp .Add (.ref t) (.ref b)) Q E s := by
  obtain ⟨⟨cls, dd, data, sl⟩, ho, hc, n, hd⟩ := id ht
  obtain ⟨⟨cls2, dd2, data2, sl2⟩, ho2, hc2, n2, hd2⟩ := id hb
  simp only at hc hd hc2 hd2
  subst hc hd hc2 hd2
  have e : vs.toArray ++ ws.toArray = (vs ++ ws).toArray := by simp
  by_cases hw : ws = []
  · exact concat_meets ⟨_, ho, rfl⟩ ⟨_, ho2, rfl⟩ noFill_tuple_add seq_tuple_add PySem.F.slot_tuple_add PySem.F.entry_tuple_add (PySem.F.args_tuple_add_2 _ _)
      (tuple_addW1 t b vs.toArray ws.toArray n n2 dd dd2 sl sl2 (by simpa using hv) (by simp [hw])) ⟨ho, ho2, h1 hw⟩
  · refine concat_meets ⟨_, ho, rfl⟩ ⟨_, ho2, rfl⟩ noFill_tuple_add seq_tuple_add PySem.F.slot_tuple_add PySem.F.entry_tuple_add (PySem.F.args_tuple_add_2 _ _)
      (tuple_addW2 t b vs.toArray ws.toArray n n2 dd dd2 sl sl2 (by simpa using hv) (by simpa using hw) (by rw [List.size_toArray, List.size_toArray]; exact hsz)) ⟨ho, ho2, ?_⟩
    rw [e]
    exact h2 hw

/-- a slice's bound as a place among n (d where it is left out) -/
def sIx (n d : Nat) : Option Int → Nat
  | none => d
  | some v => if v < 0 then (v + (n : Int)).toNat else min v.toNat n
theorem sIx_le (n d : Nat) (hd : d ≤ n) (o : Option Int) : sIx n d o ≤ n := by
  cases o with
  | none => exact hd
  | some v =>
    show (if v < 0 then (v + (n : Int)).toNat else min v.toNat n) ≤ n
    by_cases hv : v < 0
    · rw [if_pos hv]; omega
    · rw [if_neg hv]; exact Nat.min_le_right _ _
theorem clip_eq (v : Int) (n d : Nat) : (if v < 0 then max (v + (n : Int)) 0 else min v (n : Int)) = ((sIx n d (some v) : Nat) : Int) := by
  show (if v < 0 then max (v + (n : Int)) 0 else min v (n : Int)) = (((if v < 0 then (v + (n : Int)).toNat else min v.toNat n) : Nat) : Int)
  by_cases hv : v < 0
  · simp only [if_pos hv]; omega
  · simp only [if_neg hv]; omega
theorem adjust_gen (lo hi : Option Int) (n : Nat) : Builtin.Slice.sliceAdjust lo hi 1 (n : Int) = (((sIx n 0 lo : Nat) : Int), ((sIx n n hi : Nat) : Int)) := by
  have h1 : ¬ ((1 : Int) < 0) := by omega
  unfold Builtin.Slice.sliceAdjust
  simp only [h1, if_false]
  refine Prod.ext ?_ ?_
  · cases lo with
    | none => rfl
    | some v => exact clip_eq v n 0
  · cases hi with
    | none => rfl
    | some v => exact clip_eq v n n
theorem places_gen (i j : Nat) : Builtin.Slice.slicePlaces (i : Int) (j : Int) 1 = j - i := by
  unfold Builtin.Slice.slicePlaces
  have h1 : (1 : Int) > 0 := by omega
  simp only [h1, if_true, Int.ediv_one]
  split <;> omega
theorem slicePart_ {v : Value} {o : Option Int} {Q : Option Int → Shared → Prop} (p : IsPart v o) (h : Q o s) : wpAny (model prog w) A (Builtin.Slice.slicePartIndex v) Q E s := by
  cases p with
  | none => exact slicePart_none h
  | int i t => exact slicePart_int h
theorem sliceApplied_gen {sl : Addr} {vl vu : Value} {lo hi : Option Int} {n : Nat} {Q : Int × Int × Nat → Shared → Prop} (hs : s.heap.IsSliceOf sl vl vu .none) (pl : IsPart vl lo) (pu : IsPart vu hi)
    (h : Q (((sIx n 0 lo : Nat) : Int), 1, sIx n n hi - sIx n 0 lo) s) : wpAny (model prog w) A (Builtin.Slice.sliceApplied (.ref sl) (pure (n : Int))) Q E s := by
  obtain ⟨os, hos, hcs, hds⟩ := id hs
  unfold Builtin.Slice.sliceApplied Builtin.Slice.sliceFields
  refine wpAny_bind (wpAny_bind (wpAny_field hos hds (x := vl) rfl (wpAny_bind (wpAny_field hos hds (x := vu) rfl (wpAny_bind (wpAny_field hos hds (x := .none) rfl (wpAny_pure ?_)))))))
  refine wpAny_bind (slicePart_none ?_)
  show wpAny _ _ (if ((1 : Int) == 0) = true then _ else _) _ _ s
  rw [if_neg (by decide)]
  refine wpAny_bind (slicePart_ pl (wpAny_bind (slicePart_ pu (wpAny_bind (wpAny_pure ?_)))))
  show wpAny _ _ (match Builtin.Slice.sliceAdjust lo hi 1 (n : Int) with | (lo, hi) => pure (lo, (1 : Int), Builtin.Slice.slicePlaces lo hi 1)) _ _ s
  rw [adjust_gen lo hi n]
  show wpAny _ _ (pure (((sIx n 0 lo : Nat) : Int), (1 : Int), Builtin.Slice.slicePlaces ((sIx n 0 lo : Nat) : Int) ((sIx n n hi : Nat) : Int) 1)) _ _ s
  rw [places_gen]
  exact wpAny_pure h
theorem pick_gen (xs : Array Value) (i k : Nat) : ((List.range k).filterMap fun (m : Nat) => xs[((i : Int) + (m : Int) * 1).toNat]?).toArray = ((xs.toList.drop i).take k).toArray := by
  have e : (fun (m : Nat) => xs[((i : Int) + (m : Int) * 1).toNat]?) = fun m => xs[i + m]? := by
    funext m
    have : ((i : Int) + (m : Int) * 1).toNat = i + m := by omega
    rw [this]
  rw [e]
  have := pick_run xs i k
  rw [List.filterMap_map] at this
  have e2 : ((fun x => xs[x]?) ∘ fun x => i + x) = fun m => xs[i + m]? := rfl
  rw [e2] at this
  rw [this]

theorem getItem_tuple_cut {t sl : Addr} {items : Array Value} {vl vu : Value} {lo hi : Option Int} {Q : Value → Shared → Prop} (ht : IsTup s.heap t items) (hs : s.heap.IsSliceOf sl vl vu .none) (pl : IsPart vl lo) (pu : IsPart vu hi)
    (hw : ¬ (sIx items.size 0 lo = 0 ∧ sIx items.size items.size hi = items.size))
    (h : Q (.ref s.heap.objs.size) { s with heap := s.heap.push { cls := .type "tuple", data := .seq ((items.toList.drop (sIx items.size 0 lo)).take (sIx items.size items.size hi - sIx items.size 0 lo)).toArray } })
    (hsz : items.size ≤ sizeLine) : wpAny (model prog w) A (getItem (.ref t) (.ref sl)) Q E s := by
  have htake : sizeOk (.seq ((items.toList.drop (sIx items.size 0 lo)).take (sIx items.size items.size hi - sIx items.size 0 lo)).toArray) := by
    show ((items.toList.drop (sIx items.size 0 lo)).take (sIx items.size items.size hi - sIx items.size 0 lo)).toArray.size ≤ sizeLine
    rw [List.size_toArray, List.length_take, List.length_drop, Array.length_toList]
    omega
  have hj : sIx items.size items.size hi ≤ items.size := sIx_le _ _ (Nat.le_refl _) hi
  obtain ⟨os, hos, hcs, hds⟩ := id hs
  have hTs : s.TypeIs (.ref sl) "slice" := ⟨os, hos, hcs⟩
  unfold getItem
  try with_reducible refine wpAny_holding ?_
  first | refine wpAny_bind (wpAny_pure ?_) | skip
  refine wpAny_bind (wpAny_sequenceKey ht.typeIs (by decide) ?_)
  refine wpAny_bind (wpAny_callSpecial?_slot (name := Str.ofString "__getitem__") ht.typeIs PyProof.Rows.slot_tuple_getitem
    (wpAny_call_entry PyProof.Rows.slot_tuple_getitem ht.typeIs entry_tuple_getitem ?_ (args_tuple_getitem _ _)))
  show wpAny _ _ (Builtin.Tuple.tupleItemsOf (.ref t) >>= _) _ _ s
  refine wpAny_bind (tupleItemsOf_ ht ?_)
  refine wpAny_bind (wpAny_typeOf hTs ?_)
  rw [if_pos (by decide)]
  refine wpAny_bind (sliceApplied_gen hs pl pu ?_)
  have hno : ¬ ((((sIx items.size 0 lo : Nat) : Int) == 0 && (1 : Int) == 1 && (sIx items.size items.size hi - sIx items.size 0 lo) == items.size) = true) := by
    intro q
    rw [Bool.and_eq_true, Bool.and_eq_true] at q
    have q1 : ((sIx items.size 0 lo : Nat) : Int) = 0 := eq_of_beq q.1.1
    have q2 : sIx items.size items.size hi - sIx items.size 0 lo = items.size := eq_of_beq q.2
    exact hw ⟨by omega, by omega⟩
  show wpAny _ _ (if (((sIx items.size 0 lo : Nat) : Int) == 0 && (1 : Int) == 1 && (sIx items.size items.size hi - sIx items.size 0 lo) == items.size) = true then _ else _) _ _ s
  rw [if_neg hno, pick_gen]
  first
    | exact wpAny_bind (m := Builtin.Tuple.tupleExact _) (wpAny_newObj_type (wpAny_pure ⟨_, rfl, wpAny_pure h⟩) htake)
    | exact wpAny_bind (m := Builtin.Tuple.tupleExact _) (wpAny_newObj_type (wpAny_bind (wpAny_pure (wpAny_pure ⟨_, rfl, wpAny_pure h⟩))) htake)
    | exact wpAny_bind (wpAny_bind (m := Builtin.Tuple.tupleExact _) (wpAny_newObj_type (wpAny_pure (wpAny_pure ⟨_, rfl, wpAny_pure h⟩)) htake))
    | exact wpAny_bind (wpAny_bind (m := Builtin.Tuple.tupleExact _) (wpAny_newObj_type (wpAny_pure ⟨_, rfl, wpAny_pure h⟩) htake))
end
end HT

namespace L2
open PySem PySem.Spec PyProof.Rows

abbrev TO := St → Hp → (Option Int → Hp → Prop) → Prop
section
variable {X : Cx} {e : Expr} {te : TE} {lo hi : Option Expr} {tl th : TO} {pos p2 : Pos}

/-- what a slice of a value is, by values: the slice object stands at sl -/
def SlR (X : Cx) (r : V → Option Int → Option Int → Hp → VK → Prop) : Prop :=
  ∀ (pins : List (Addr × Obj)) (s : Shared) (σ : St) (H : Hp) (x : V) (v vl vu : Value) (lo hi : Option Int) (sl : Addr) (Q : VK), Inv X pins σ H s → RelV x v → s.heap.IsSliceOf sl vl vu .none → IsPart vl lo → IsPart vu hi → r x lo hi H Q →
    ∃ T id, typeLookup (.type T) "__getitem__" = pure (some (.builtin id)) ∧ s.TypeIs v T ∧ wpAny (model X.prog X.w) X.A (getItem v (.ref sl)) (EP X pins σ Q) X.xe s
theorem SlR.or {r r' : V → Option Int → Option Int → Hp → VK → Prop} (h : SlR X r) (h' : SlR X r') : SlR X (fun x lo hi H Q => r x lo hi H Q ∨ r' x lo hi H Q) := by
  intro pins s σ H x v vl vu lo hi sl Q I rx hs pl pu q
  rcases q with q | q
  · exact h pins s σ H x v vl vu lo hi sl Q I rx hs pl pu q
  · exact h' pins s σ H x v vl vu lo hi sl Q I rx hs pl pu q
/-- the items of xs[lo:hi] -/
def cutV (xs : List V) (lo hi : Option Int) : List V := (xs.drop (HT.sIx xs.length 0 lo)).take (HT.sIx xs.length xs.length hi - HT.sIx xs.length 0 lo)
theorem cutV_length (xs : List V) (lo hi : Option Int) : (cutV xs lo hi).length ≤ xs.length := by
  unfold cutV
  rw [List.length_take, List.length_drop]
  omega
/-- t[lo:hi], not the whole of it (the whole would be t itself) -/
def rSlT (K : PySem.W.Frag) : V → Option Int → Option Int → Hp → VK → Prop := fun x lo hi H Q => ∃ a xs, x = .ref a ∧ SqT K H a xs ∧
  ¬ (HT.sIx xs.length 0 lo = 0 ∧ HT.sIx xs.length xs.length hi = xs.length) ∧ ∀ p, H p = none → Q (.ref p) (upd H p (.tup (cutV xs lo hi)))
theorem sl_tup : SlR X (rSlT X.K) := by
  intro pins s σ H x v vl vu lo hi sl Q I rx hs pl pu h
  obtain ⟨a, xs, rfl, hx, hw, q⟩ := h
  cases rx
  obtain ⟨its, r, ht, hz⟩ := I.tuple hx
  have hlen : its.toArray.size = xs.length := by rw [List.size_toArray]; exact r.length.symm
  refine ⟨"tuple", _, PyProof.Rows.slot_tuple_getitem.lookup, ht.typeIs, ?_⟩
  refine HT.getItem_tuple_cut ht hs pl pu (by rw [hlen]; exact hw) ?_ (by rw [hlen]; exact hz)
  rw [hlen]
  refine ⟨.ref s.heap.objs.size, _, I.laid (t' := s.toks) (o := .tup (cutV xs lo hi)) (fun b ob q => Heap.get?_push_of_some _ q) (Nat.le_refl _) ?_, rfl, q _ (I.hok.fresh (Nat.le_refl _))⟩
  exact ⟨Nat.le_trans (cutV_length xs lo hi) hz, _, (r.drop (HT.sIx xs.length 0 lo)).take (HT.sIx xs.length xs.length hi - HT.sIx xs.length 0 lo), IsTup.new _ _⟩

end
end L2

namespace L2
open PySem PySem.Spec PyProof.Rows

/-- the place that an index of any sign means -/
def ixN (n : Nat) (i : Int) : Option Nat := if 0 ≤ i then (if i < n then some i.toNat else none) else if -(n : Int) ≤ i then some (i + n).toNat else none
def atI {α : Type} (xs : List α) (i : Int) : Option α := (ixN xs.length i).bind fun j => xs[j]?
theorem ixN_seq {n : Nat} {i : Int} {j : Nat} (h : ixN n i = some j) : seqIndex? i n = some j ∧ j < n ∧ -(n : Int) ≤ i ∧ i < n := by
  unfold ixN at h
  by_cases h0 : 0 ≤ i
  · rw [if_pos h0] at h
    by_cases h1 : i < n
    · rw [if_pos h1] at h
      have e : i.toNat = j := Option.some.inj h
      exact ⟨by rw [seqIndex_of h0 h1, e], by omega, by omega, h1⟩
    · rw [if_neg h1] at h; cases h
  · rw [if_neg h0] at h
    by_cases h1 : -(n : Int) ≤ i
    · rw [if_pos h1] at h
      have e : (i + n).toNat = j := Option.some.inj h
      exact ⟨by rw [seqIndex_neg (by omega) h1, e], by omega, h1, by omega⟩
    · rw [if_neg h1] at h; cases h
theorem atI_get {α : Type} {xs : List α} {i : Int} {v : α} (h : atI xs i = some v) : ∃ j, seqIndex? i xs.length = some j ∧ xs[j]? = some v ∧ j < xs.length ∧ -(xs.length : Int) ≤ i ∧ i < xs.length := by
  unfold atI at h
  cases e : ixN xs.length i with
  | none => rw [e] at h; cases h
  | some j =>
    rw [e] at h
    obtain ⟨h1, h2, h3, h4⟩ := ixN_seq e
    exact ⟨j, h1, h, h2, h3, h4⟩
/-- what stands as an index of a plain subscript -/
def PlainIx (b : Expr) : Prop := ∀ o i, subscripted b false o i = operate [o, i] (getItem o i)
/-- a subscript by values -/
def IxR (X : Cx) (r : R2) : Prop :=
  ∀ (value slice : Expr) (pins : List (Addr × Obj)) (s : Shared) (σ : St) (H : Hp) (x y : V) (v u : Value) (Q : VK), Inv X pins σ H s → RelV x v → RelV y u → r x y H Q →
    subscripted slice false v u = operate [v, u] (getItem v u) → wpAny (model X.prog X.w) X.A (subscriptTail value slice v u) (EP X pins σ Q) X.xe s
/-- a call of a builtin's method by values: the receiver, the arguments -/
def MtR (X : Cx) (id : String) (r : V → List V → Hp → VK → Prop) : Prop :=
  ∀ (pins : List (Addr × Obj)) (s : Shared) (σ : St) (H : Hp) (x : V) (xs : List V) (v : Value) (us : List Value) (Q : VK), Inv X pins σ H s → RelV x v → Vals xs us → r x xs H Q →
    wpAny (model X.prog X.w) X.A (call (.builtin id) (v :: us)) (EP X pins σ Q) X.xe s
section
variable {X : Cx} {a b : Expr} {ta tb : TE} {pos : Pos}
theorem IxR.or {r r' : R2} (h : IxR X r) (h' : IxR X r') : IxR X (fun x y H Q => r x y H Q ∨ r' x y H Q) := by
  intro value slice pins s σ H x y v u Q I rx ry q hs
  rcases q with q | q
  · exact h value slice pins s σ H x y v u Q I rx ry q hs
  · exact h' value slice pins s σ H x y v u Q I rx ry q hs
theorem MtR.or {id : String} {r r' : V → List V → Hp → VK → Prop} (h : MtR X id r) (h' : MtR X id r') : MtR X id (fun x xs H Q => r x xs H Q ∨ r' x xs H Q) := by
  intro pins s σ H x xs v us Q I rx rs q
  rcases q with q | q
  · exact h pins s σ H x xs v us Q I rx rs q
  · exact h' pins s σ H x xs v us Q I rx rs q
/-- a[b] -/
theorem pe_ix {r : R2} (hr : IxR X r) (ha : PE X a ta) (hb : PE X b tb) (hs : PlainIx b) : PE X (.Subscript a b pos) (tOp r ta tb) := by
  intro pins s σ H Q I h
  exact Subscript_ (binT ha hb I h fun v u s2 x y H2 I2 rx ry q => hr a b pins s2 σ H2 x y v u Q I2 rx ry q (hs _ _))

def rIxL (K : PySem.W.Frag) : R2 := fun x y H Q => ∃ p xs i v, x = .ref p ∧ y = .int i ∧ SqL K H p xs ∧ atI xs i = some v ∧ Q v H
def rIxT (K : PySem.W.Frag) : R2 := fun x y H Q => ∃ p xs i v, x = .ref p ∧ y = .int i ∧ SqT K H p xs ∧ atI xs i = some v ∧ Q v H
def rIxS : R2 := fun x y H Q => ∃ z i c, x = .str z ∧ y = .int i ∧ z.length ≤ sizeLine ∧ atI z.cps.toList i = some c ∧ Q (.str ⟨#[c]⟩) H
theorem ix_list : IxR X (rIxL X.K) := by
  intro value slice pins s σ H x y v u Q I rx ry h hs
  obtain ⟨p, xs, i, z, rfl, rfl, hq, he, q⟩ := h
  cases rx
  obtain ⟨t, rfl⟩ := ry
  obtain ⟨its, r, pl, hz⟩ := I.list hq
  obtain ⟨j, h1, h2, h3, h4, h5⟩ := atI_get he
  obtain ⟨w, ew, rw'⟩ := r.get h2
  have hl := r.length
  have hn := line63
  have fin : EP X pins σ Q w s := ⟨z, H, I, rw', q⟩
  by_cases h0 : 0 ≤ i
  · have hj : i.toNat = j := by
      rw [seqIndex_of h0 h5] at h1
      exact Option.some.inj h1
    exact item_listR pl.isList h0 (by omega) (by rw [hj]; simpa using ew) fin hs
  · have hj : (i + (its.toArray.size : Int)).toNat = j := by
      rw [seqIndex_neg (by omega) h4] at h1
      rw [List.size_toArray, ← hl]
      exact Option.some.inj h1
    exact subscriptTail_builtinR (x := w) pl.isList.typeIs slot_list_getitem.lookup
      (wpAny_getItem_list_neg (Q := fun r s' => r = w ∧ EP X pins σ Q r s') pl.isList (by omega) (by rw [List.size_toArray] <;> omega) (by omega) (by rw [hj]; simpa using ew) ⟨rfl, fin⟩) hs
theorem ix_tup : IxR X (rIxT X.K) := by
  intro value slice pins s σ H x y v u Q I rx ry h hs
  obtain ⟨p, xs, i, z, rfl, rfl, hq, he, q⟩ := h
  cases rx
  obtain ⟨t, rfl⟩ := ry
  obtain ⟨its, r, pl, hz⟩ := I.tuple hq
  obtain ⟨j, h1, h2, h3, h4, h5⟩ := atI_get he
  obtain ⟨w, ew, rw'⟩ := r.get h2
  have hl := r.length
  have hn := line63
  have fin : EP X pins σ Q w s := ⟨z, H, I, rw', q⟩
  exact subscriptTail_builtinR (x := w) pl.typeIs slot_tuple_getitem.lookup
    (getItem_tuple (j := j) (Q := fun r s' => r = w ∧ EP X pins σ Q r s') pl (by omega) (by omega) (by rw [List.size_toArray, ← hl]; exact h1) (by simpa using ew) ⟨rfl, fin⟩) hs
theorem ix_str : IxR X rIxS := by
  intro value slice pins s σ H x y v u Q I rx ry h hs
  obtain ⟨z, i, c, rfl, rfl, hz, he, q⟩ := h
  obtain ⟨t, rfl⟩ := rx
  obtain ⟨t', rfl⟩ := ry
  obtain ⟨j, h1, h2, h3, h4, h5⟩ := atI_get he
  have hl : z.cps.toList.length = z.length := by simp [Str.length]
  rw [hl] at h1 h4 h5
  have hn := line63
  exact tail_any (typeIs_str s z t) slot_str_getitem.lookup (getItem_str (c := c) (by
    have e1 : decide (i < -(2 ^ 63 : Int)) = false := decide_eq_false (by omega)
    have e2 : decide (i ≥ 2 ^ 63) = false := decide_eq_false (by omega)
    rw [e1, e2, Bool.or_false]) (by rw [h1]; simpa using h2) ⟨.str ⟨#[c]⟩, H, I.tok _, ⟨_, rfl⟩, q⟩) hs
/-- list, tuple or str -/
def rIx (K : PySem.W.Frag) : R2 := fun x y H Q => rIxL K x y H Q ∨ rIxT K x y H Q ∨ rIxS x y H Q
theorem ix_seq : IxR X (rIx X.K) := ix_list.or (ix_tup.or ix_str)

/-- the list's object behind a store -/
theorem mapSeq_set (its : List Value) (n j : Nat) (u : Value) : Obj.mapSeq (·.setIfInBounds j u) { cls := .type "list", data := .seq its.toArray n } = { cls := .type "list", data := .seq (its.set j u).toArray n } := by
  simp [Obj.mapSeq]
theorem Inv.lst {pins : List (Addr × Obj)} {σ : St} {H : Hp} {s : Shared} {p : Addr} {xs : List V} (I : Inv X pins σ H s) (h : H p = some (.lst xs)) :
    ∃ (its : List Value) (n : Nat), Vals xs its ∧ s.heap.get? p = some { cls := .type "list", data := .seq its.toArray n } ∧ xs.length ≤ sizeLine := by
  obtain ⟨z, its, n, r, e⟩ := I.hok p _ h
  exact ⟨its, n, r, e, z⟩
/-- the list at p is written by an update of its object -/
theorem Inv.lstUpd {pins : List (Addr × Obj)} {σ : St} {H : Hp} {s : Shared} {p : Addr} {xs ys : List V} {its its' : List Value} {n n' : Nat} {f : Obj → Obj} (I : Inv X pins σ H s) (h : H p = some (.lst xs))
    (ho : s.heap.get? p = some { cls := .type "list", data := .seq its.toArray n }) (hf : f { cls := .type "list", data := .seq its.toArray n } = { cls := .type "list", data := .seq its'.toArray n' }) (r : Vals ys its') (hz : ys.length ≤ sizeLine) (t : Nat) :
    Inv X pins σ (upd H p (.lst ys)) { s with heap := s.heap.update p f, toks := t } := by
  have e : (s.heap.update p f).get? p = some { cls := .type "list", data := .seq its'.toArray n' } := by
    rw [Heap.get?_update_self f ho (by rw [hf] <;> rfl), hf]
  refine I.write (x := p) (e := p) (by rw [h]; trivial) (.inl rfl) (fun b u hb q => (Heap.get?_update_other _ _ (Ne.symm hb)).trans q) ⟨_, e⟩ ?_
  exact ⟨hz, its', n', r, e⟩
def rSetL : V → V → V → Hp → (Hp → Prop) → Prop := fun o i v H Q => ∃ p xs k j, o = .ref p ∧ i = .int k ∧ H p = some (.lst xs) ∧ ixN xs.length k = some j ∧ Q (upd H p (.lst (xs.set j v)))
theorem set_list : PSet X rSetL := by
  intro pins s σ H o i v ov iv u Q I ro ri rv h
  obtain ⟨p, xs, k, j, rfl, rfl, hp, hj, q⟩ := h
  cases ro
  obtain ⟨t, rfl⟩ := ri
  obtain ⟨its, n, r, ho, hz⟩ := I.lst hp
  obtain ⟨h1, h2, h3, h4⟩ := ixN_seq hj
  have hl := r.length
  have hn := line63
  have I' : Inv X pins σ (upd H p (.lst (xs.set j v))) { s with heap := s.heap.update p (Obj.mapSeq (·.setIfInBounds j u)) } :=
    I.lstUpd hp ho (mapSeq_set its n j u) (r.set rv j) (by rw [List.length_set]; exact hz) s.toks
  by_cases h0 : 0 ≤ k
  · have hk : k.toNat = j := by
      rw [seqIndex_of h0 h4] at h1
      exact Option.some.inj h1
    exact PySem.W.ki_setAt ho h0 (by omega) (by rw [List.size_toArray, ← hl]; exact h4) (by rw [hk]; exact ⟨_, I', q⟩)
  · have hk : (k + (its.toArray.size : Int)).toNat = j := by
      rw [seqIndex_neg (by omega) h3] at h1
      rw [List.size_toArray, ← hl]
      exact Option.some.inj h1
    exact PySem.W.ki_setBack ho (by omega) (by rw [List.size_toArray, ← hl]; exact h3) (by omega) (by rw [hk]; exact ⟨_, I', q⟩)

theorem slice_bounds (lo hi : Option Int) (n : Nat) : (sliceBounds lo hi none n).1 = ((HT.sIx n 0 lo : Nat) : Int) ∧ (sliceBounds lo hi none n).2.1 = ((HT.sIx n n hi : Nat) : Int) ∧ (sliceBounds lo hi none n).2.2 = 1 := by
  refine ⟨?_, ?_, rfl⟩
  · cases lo with
    | none => simp [sliceBounds, HT.sIx]
    | some i =>
      simp only [sliceBounds, HT.sIx, Option.getD_none, show (1 : Int) > 0 by decide, if_true]
      by_cases h : i < 0
      · simp only [h, if_true] <;> omega
      · simp only [h, if_false] <;> omega
  · cases hi with
    | none => simp [sliceBounds, HT.sIx]
    | some i =>
      simp only [sliceBounds, HT.sIx, Option.getD_none, show (1 : Int) > 0 by decide, if_true]
      by_cases h : i < 0
      · simp only [h, if_true] <;> omega
      · simp only [h, if_false] <;> omega
theorem slicePick_cut (its : List Value) (lo hi : Option Int) : slicePick its.toArray lo hi none = ((its.drop (HT.sIx its.length 0 lo)).take (HT.sIx its.length its.length hi - HT.sIx its.length 0 lo)).toArray := by
  obtain ⟨h1, h2, h3⟩ := slice_bounds lo hi its.toArray.size
  unfold slicePick
  rw [h1, h2, h3]
  simp only [sliceRange_one, pick_run, List.size_toArray] <;> rfl
/-- xs[lo:hi] of a list: a new list -/
def rSlL (K : PySem.W.Frag) : V → Option Int → Option Int → Hp → VK → Prop := fun x lo hi H Q => ∃ a xs, x = .ref a ∧ SqL K H a xs ∧ ∀ p, H p = none → Q (.ref p) (upd H p (.lst (cutV xs lo hi)))
theorem sl_list : SlR X (rSlL X.K) := by
  intro pins s σ H x v vl vu lo hi sl Q I rx hs pl pu h
  obtain ⟨a, xs, rfl, hx, q⟩ := h
  cases rx
  obtain ⟨its, r, ht, hz⟩ := I.list hx
  have hlen := r.length
  refine ⟨"list", _, slot_list_getitem.lookup, ht.isList.typeIs, ?_⟩
  refine wpAny_getItem_list_slice ht.isList hs pl pu .none (by simp) ?_ (by rw [List.size_toArray] <;> omega)
  rw [slicePick_cut, ← hlen]
  refine ⟨.ref s.heap.objs.size, _, I.laid (t' := s.toks) (o := .lst (cutV xs lo hi)) (fun b ob q => Heap.get?_push_of_some _ q) (Nat.le_refl _) ?_, rfl, q _ (I.hok.fresh (Nat.le_refl _))⟩
  exact ⟨Nat.le_trans (cutV_length xs lo hi) hz, _, 0, (r.drop (HT.sIx xs.length 0 lo)).take (HT.sIx xs.length xs.length hi - HT.sIx xs.length 0 lo), Heap.get?_push_size _ rfl⟩

theorem call_len_seq : CallR X (.builtin "len") (fun xs H Q => ∃ p ys, xs = [.ref p] ∧ (SqL X.K H p ys ∨ SqT X.K H p ys) ∧ Q (.int ys.length) H) := by
  intro pins s σ H xs us Q I r h
  obtain ⟨p, ys, rfl, hq, q⟩ := h
  obtain ⟨u, rfl, rx⟩ := vals1 r
  cases rx
  have hn := line63
  rcases hq with hq | hq
  · obtain ⟨its, r', pl, hz⟩ := I.list hq
    have hlen := r'.length
    exact Calls.call_len_list pl.isList (by simp only [List.size_toArray] <;> omega) ⟨.int ys.length, H, I.tok _, ⟨s.toks + 1, by rw [List.size_toArray, hlen]⟩, q⟩
  · obtain ⟨its, r', pl, hz⟩ := I.tuple hq
    have hlen := r'.length
    exact len_tuple pl (by simp only [List.size_toArray] <;> omega) ⟨.int ys.length, H, I.tok _, ⟨s.toks + 1, by rw [List.size_toArray, hlen]⟩, q⟩
theorem call_len_str : CallR X (.builtin "len") (fun xs H Q => ∃ z, xs = [.str z] ∧ z.length ≤ sizeLine ∧ Q (.int z.length) H) := by
  intro pins s σ H xs us Q I r h
  obtain ⟨z, rfl, hz, q⟩ := h
  obtain ⟨u, rfl, t, rfl⟩ := vals1 r
  have hn := line63
  exact len_str (by omega) ⟨.int z.length, H, I.tok _, ⟨_, rfl⟩, q⟩
theorem CallR.or {f : Value} {r r' : List V → Hp → VK → Prop} (h : CallR X f r) (h' : CallR X f r') : CallR X f (fun xs H Q => r xs H Q ∨ r' xs H Q) := by
  intro pins s σ H xs us Q I rs q
  rcases q with q | q
  · exact h pins s σ H xs us Q I rs q
  · exact h' pins s σ H xs us Q I rs q
theorem call_tuple_of : CallR X (.type "tuple") (fun xs H Q => ∃ p ys, xs = [.ref p] ∧ ((SqL X.K H p ys ∧ ∀ l, H l = none → Q (.ref l) (upd H l (.tup ys))) ∨ (SqT X.K H p ys ∧ Q (.ref p) H))) := by
  intro pins s σ H xs us Q I r h
  obtain ⟨p, ys, rfl, h⟩ := h
  obtain ⟨u, rfl, rx⟩ := vals1 r
  cases rx
  rcases h with ⟨hq, q⟩ | ⟨hq, q⟩
  · obtain ⟨its, r', pl, hz⟩ := I.list hq
    have hlen := r'.length
    refine call_tuple_list pl.isList (fun h' kp => ?_) (by simp only [List.size_toArray] <;> omega)
    have I1 : Inv X pins σ H { s with heap := h' } := I.kept (t' := s.toks) kp
    have I2 : Inv X pins σ (upd H h'.objs.size (.tup ys)) { s with heap := h'.push { cls := .type "tuple", data := .seq its.toArray } } :=
      I1.laid (t' := s.toks) (fun b o e => Heap.get?_push_of_some _ e) (Nat.le_refl _) (show ObjOk X.prog X.w _ _ _ (.tup ys) from ⟨hz, its, r', IsTup.new _ _⟩)
    exact ⟨.ref h'.objs.size, _, I2, rfl, q _ (I1.hok.fresh (Nat.le_refl _))⟩
  · obtain ⟨its, r', pl, hz⟩ := I.tuple hq
    exact call_tuple_same pl ⟨.ref p, H, I, rfl, q⟩

/-- the value is of that builtin type -/
def tyV (K : PySem.W.Frag) (T : String) (x : V) (H : Hp) : Prop := match x with
  | .str _ => T = "str"
  | .int _ => T = "int"
  | .ref p => (T = "list" ∧ ∃ xs, SqL K H p xs) ∨ (T = "tuple" ∧ ∃ o, K.lookup p = some o ∧ o.cls = .type "tuple" ∧ o.dict = none) ∨
      (T = "dict" ∧ ((∃ kvs, H p = some (.dK kvs)) ∨ ∃ kvs, H p = some (.dT kvs))) ∨ (T = "set" ∧ ∃ S n, H p = some (.set S n))
  | _ => False
theorem tyV_is {pins : List (Addr × Obj)} {σ : St} {H : Hp} {s : Shared} {T : String} {x : V} {v : Value} (I : Inv X pins σ H s) (r : RelV x v) (ty : tyV X.K T x H) :
    s.TypeIs v T ∧ ∀ a, v = .ref a → ∃ ob, s.heap.get? a = some ob ∧ ob.dict = none := by
  cases x with
  | str z =>
    obtain ⟨t, rfl⟩ := r
    cases (show T = "str" from ty)
    exact ⟨typeIs_str s z t, fun _ e => nomatch e⟩
  | int i =>
    obtain ⟨t, rfl⟩ := r
    cases (show T = "int" from ty)
    exact ⟨typeIs_int s i t, fun _ e => nomatch e⟩
  | ref p =>
    cases r
    rcases ty with ⟨rfl, xs, hq⟩ | ⟨rfl, o, hk, hc, hd⟩ | ⟨rfl, hk⟩ | ⟨rfl, S, n, hk⟩
    · obtain ⟨its, _, pl, _⟩ := I.list hq
      refine ⟨pl.isList.typeIs, fun a e => ?_⟩
      cases e
      obtain ⟨o, n, e, c, hd, _⟩ := pl
      exact ⟨o, e, hd⟩
    · refine ⟨⟨o, I.kIn p o hk, hc⟩, fun a e => ?_⟩
      cases e
      exact ⟨o, I.kIn _ o hk, hd⟩
    · have z : ∃ o, s.heap.get? p = some o ∧ o.ExactDict := by
        rcases hk with ⟨kvs, hk⟩ | ⟨kvs, hk⟩
        · obtain ⟨_, _, _, _, o, _, _, e, ex, _⟩ := I.hok p _ hk
          exact ⟨o, e, ex⟩
        · obtain ⟨_, _, _, _, o, _, _, e, ex, _⟩ := I.hok p _ hk
          exact ⟨o, e, ex⟩
      obtain ⟨o, e, ex⟩ := z
      refine ⟨⟨o, e, ex.1⟩, fun a e2 => ?_⟩
      cases e2
      exact ⟨o, e, ex.2.1⟩
    · obtain ⟨o, _, _, _, e, ex, _⟩ := I.hok p _ hk
      refine ⟨⟨o, e, ex.1⟩, fun a e2 => ?_⟩
      cases e2
      exact ⟨o, e, ex.2.1⟩
  | _ => exact False.elim ty
def tBM (K : PySem.W.Frag) (T : String) (r : V → List V → Hp → VK → Prop) (to : TE) (t : TA) : TE := fun σ H Q => to σ H fun x H1 => tyV K T x H1 ∧ t σ H1 fun xs H2 => r x xs H2 Q
variable {o e : Expr} {es : List Expr} {to : TE} {t : TA} {name : Str} {apos cpos : Pos} {T id : String} {r : V → List V → Hp → VK → Prop}
theorem pe_bm (pa : PlainAttrs T) (slot : Slot T name id) (hty : typeOf (.builtin id) = pure (.type "method_descriptor")) (hm : MtR X id r) (ho : PE X o to) (ha : PA X (e :: es) t)
    (hbase : attributeBase o name X.env (eval o X.env) = eval o X.env := by rfl)
    (hfew : ((backTo cpos (starEach (e :: es) X.env)).all (fun x => !x.1) && (backToKw cpos (keywordEach [] X.env)).all (fun x => x.1.isSome)
      && decide ((e :: es).length + ([] : List Keyword).length + (if ([] : List Keyword).isEmpty then 0 else 1) < 30)) = true := by rfl)
    (hline : (apos.endLine == cpos.line) = true := by rfl) (hs : starEach (e :: es) X.env = (false, eval e X.env) :: starEach es X.env := by rfl) (hplain : (backTo cpos (starEach es X.env)).any (·.1) = false := by rfl) :
    PE X (.Call (.Attribute o name apos) (e :: es) [] cpos) (tBM X.K T r to t) := by
  intro pins s σ H Q I h
  refine wpAny_Call_method_late hbase hfew hline rfl (thn (ho pins s σ H _ I h) fun v s1 ⟨x, H1, I1, r1, ty, q1⟩ => ?_)
  obtain ⟨h1, h2⟩ := tyV_is I1 r1 ty
  refine ⟨T, id, pa, slot, hty, h1, h2, ?_⟩
  have hA := ha cpos pins s1 σ H1 _ I1 q1
  rw [hs] at hA ⊢
  refine Calls.callWith_builtin (by show (false || (backTo cpos (starEach es X.env)).any (·.1)) = false; rw [hplain] <;> rfl) (Calls.evalArgs_plain ?_)
  exact thn hA fun us s2 ⟨vs, H2, I2, r2, q2⟩ => hm pins s2 σ H2 x vs v us Q I2 r1 r2 q2
end
end L2

namespace L2
open PySem PySem.Spec PyProof.Rows

theorem Vals.one : ∀ {x : V} {us : List Value}, Vals [x] us → ∃ u, us = [u] ∧ RelV x u
  | _, _, .cons r .nil => ⟨_, rfl, r⟩
theorem Vals.two : ∀ {x y : V} {us : List Value}, Vals [x, y] us → ∃ u v, us = [u, v] ∧ RelV x u ∧ RelV y v
  | _, _, _, .cons r (.cons q .nil) => ⟨_, _, rfl, r, q⟩
theorem Vals.zero : ∀ {us : List Value}, Vals [] us → us = []
  | _, .nil => rfl
theorem Vals.dropLast {xs : List V} {us : List Value} (h : Vals xs us) : Vals xs.dropLast us.dropLast := by
  induction h with
  | nil => exact .nil
  | cons r t ih =>
    cases t with
    | nil => exact .nil
    | cons q t' => exact .cons r ih
theorem Vals.reverse {xs : List V} {us : List Value} (h : Vals xs us) : Vals xs.reverse us.reverse := by
  induction h with
  | nil => exact .nil
  | cons r t ih => rw [List.reverse_cons, List.reverse_cons]; exact Vals.append ih (.cons r .nil)
theorem Vals.rep {xs : List V} {us : List Value} (h : Vals xs us) : ∀ k : Nat, Vals (List.replicate k xs).flatten (List.replicate k us).flatten
  | 0 => .nil
  | k + 1 => by
    rw [List.replicate_succ, List.replicate_succ, List.flatten_cons, List.flatten_cons]
    exact Vals.append h (Vals.rep h k)
theorem foldl_rep (its : List Value) : ∀ (k : Nat) (acc : List Value),
    List.foldl (fun x1 x2 => x1 ++ x2) acc.toArray (List.replicate k its.toArray) = (acc ++ (List.replicate k its).flatten).toArray
  | 0, acc => by simp
  | k + 1, acc => by
    have e : acc.toArray ++ its.toArray = (acc ++ its).toArray := by simp
    have e2 : (acc ++ its) ++ (List.replicate k its).flatten = acc ++ (List.replicate (k + 1) its).flatten := by
      rw [List.replicate_succ, List.flatten_cons, List.append_assoc]
    rw [← e2, ← foldl_rep its k (acc ++ its), ← e, List.replicate_succ, List.foldl_cons]

section
variable {X : Cx} {pins : List (Addr × Obj)} {σ : St} {H : Hp} {s : Shared} {l b : Addr} {xs ys zs : List V}

theorem Inv.lnew {its : List Value} {t' : Nat} (I : Inv X pins σ H s) (hv : Vals ys its) (hz : ys.length ≤ sizeLine) :
    Inv X pins σ (upd H s.heap.objs.size (.lst ys)) { s with heap := s.heap.push { cls := .type "list", data := .seq its.toArray }, toks := t' } :=
  I.laid (fun _ _ q => Heap.get?_push_of_some _ q) (Nat.le_refl _) ⟨hz, its, 0, hv, Heap.get?_push_size _ rfl⟩
theorem Inv.fresh (I : Inv X pins σ H s) : H s.heap.objs.size = none := I.hok.fresh (Nat.le_refl _)
theorem Inv.lstM (I : Inv X pins σ H s) (hH : H l = some (.lst xs)) : xs.length ≤ sizeLine ∧ ∃ (its : List Value) (n : Nat), Vals xs its ∧ xs.length = its.length ∧ s.heap.get? l = some { cls := .type "list", data := .seq its.toArray n } := by
  obtain ⟨z, its, n, r, e⟩ := I.hok l _ hH
  exact ⟨z, its, n, r, r.length, e⟩

theorem notLongL {n : Nat} (h : n ≤ sizeLine) : Builtin.List.listTooLong n = false := by
  unfold Builtin.List.listTooLong
  exact decide_eq_false (by omega)
end

section
variable {X : Cx}

/-- a list times an int (a negative one is nothing) -/
def rRep : R2 := fun x y H Q => ∃ l k xs, x = .ref l ∧ y = .int k ∧ H l = some (.lst xs) ∧ -(2 ^ 63) ≤ k ∧ k < 2 ^ 63 ∧ xs.length * k.toNat ≤ sizeLine ∧
  ∀ p, H p = none → Q (.ref p) (upd H p (.lst (List.replicate k.toNat xs).flatten))
theorem len_rep {α : Type} (xs : List α) (k : Nat) : (List.replicate k xs).flatten.length = k * xs.length := by
  induction k with
  | zero => simp
  | succ k ih => rw [List.replicate_succ, List.flatten_cons, List.length_append, ih, Nat.succ_mul, Nat.add_comm]
theorem op_rep : OpR X (binaryOp .Mult) rRep := by
  intro pins s σ H x y v u Q I rx ry h
  obtain ⟨l, k, xs, rfl, rfl, hH, h1, h2, hz, q⟩ := h
  cases rx
  obtain ⟨t, rfl⟩ := ry
  obtain ⟨z, its, n, r, hl, e⟩ := I.lstM hH
  have hlen : its.toArray.size * k.toNat ≤ sizeLine := by rw [List.size_toArray, ← hl]; exact hz
  have hcap : ¬ its.toArray.size * k.toNat > (2 ^ 63 - 1) / 8 := by
    have : (sizeLine : Nat) ≤ (2 ^ 63 - 1) / 8 := by decide
    omega
  have hfit : ¬ (!Builtin.List.listFitsIndex k) = true := by
    rw [fitsIndex_both h1 h2]
    exact Bool.false_ne_true
  have hlong : ¬ Builtin.List.listTooLong (its.toArray.size * k.toNat) = true := by
    rw [notLongL hlen]
    exact Bool.false_ne_true
  have hnew : List.foldl (fun x1 x2 => x1 ++ x2) #[] (List.replicate (if its.toArray.isEmpty = true then 0 else k.toNat) its.toArray) = (List.replicate k.toNat its).flatten.toArray := by
    have f0 : ∀ m : Nat, List.foldl (fun x1 x2 => x1 ++ x2) #[] (List.replicate m its.toArray) = (List.replicate m its).flatten.toArray := fun m => by
      have := foldl_rep its m []
      rw [List.nil_append] at this
      exact this
    rw [f0]
    cases its with
    | nil => simp
    | cons a r' => rw [if_neg (by simp)]
  refine wpAny_binaryOp_repeat_ref (T := "list") (U := "int") (by decide) ⟨_, e, rfl⟩ (fun s' => typeIs_int s' k t) noFill_list_mul F.fills_int_mul F.slot_int_rmul repeat_list F.slot_int_index.lookup
    (call_meets F.slot_int_rmul (typeIs_int s k t) F.entry_int_rmul (F.args_int_rmul_2 _ _) (int___rmul___int_list k t l its.toArray n)
      ⟨e, rfl, ⟨_, e, rfl⟩, call_meets F.slot_list_mul ⟨_, e, rfl⟩ F.entry_list_mul (F.args_list_mul_2 _ _) (AutoListH.list___mul___list_int_3 l its.toArray n k t hfit hcap hlong) ⟨e, ?_⟩⟩)
  rw [hnew]
  exact ⟨.ref _, _, I.lnew (t' := s.toks) (r.rep k.toNat) (by rw [len_rep, Nat.mul_comm]; exact hz), rfl, q _ I.fresh⟩

end

section
variable {prog : Program} {w : World} {A : Around} {E : Value → Shared → Prop} {s : Shared}
end

section
variable {X : Cx}
end
end L2

namespace Att
open PySem PySem.W PySem.Calls PyProof.Rows

theorem ints_of_wellAll {P : Params} {h : Heap} : ∀ (ns : List Int) (vs : List Value), WellAll P h vs (ns.map WData.int) → IntsAre vs ns := by
  intro ns
  induction ns with
  | nil =>
    intro vs w
    rw [List.map_nil] at w
    cases w
    exact .nil
  | cons n ns ih =>
    intro vs w
    rw [List.map_cons] at w
    cases w with
    | cons a b =>
      cases a
      exact .cons _ _ (ih _ b)

theorem script_of {l : OpenLaw} {n : Nat} (hn : l.most = some n) {P : Params} {h : Heap} {args : List WData} {vals : List Value}
    (hpre : l.row.toRowW.claim.pre args = true) (hwl : WellAll P h vals args) :
    ∃ a vs ns, vals = [Value.ref a] ∧ args = [WData.list (ns.map WData.int)] ∧ h.get? a = some { cls := .type "list", data := .seq vs.toArray } ∧ IntsAre vs ns ∧ ns.length ≤ n := by
  have hsh : WShape.hasAll [] args [.list .int] = true := (pre_splitW hpre).1
  have hc : l.pre.holds [] { args := args } = true := (pre_splitW hpre).2
  obtain ⟨d, r, rfl, h1, h2⟩ := hasAllW_cons hsh
  obtain rfl := hasAllW_nil h2
  obtain ⟨xs, rfl, h3⟩ := hasW_list h1
  obtain ⟨ns, rfl⟩ := items_int h3
  have hlen : ns.length ≤ n := by
    unfold OpenLaw.pre at hc
    have h4 : (WTm.not (.lt (.lit (.int (n : Int))) (.len (.arg 0)))).holds [] { args := [.list (ns.map .int)] } = true := by
      have h4 := (holds_andW hc).1
      rw [hn] at h4
      exact h4
    have h5 := condW_of h4 (w_not (w_lt w_lit (w_len_list (w_arg rfl))))
    rw [List.length_map] at h5
    refine Nat.le_of_not_lt fun q => ?_
    have q' : (n : Int) < ((ns.length : Nat) : Int) := by omega
    first
      | (rw [decide_eq_true q'] at h5; exact absurd h5 (by decide))
      | (simp at h5; omega)
  cases hwl with
  | cons w1 w2 =>
    cases w2
    cases w1 with
    | list ho hall => exact ⟨_, _, ns, rfl, rfl, ho, ints_of_wellAll ns _ hall, hlen⟩

theorem post_true (l : OpenLaw) (args : List WData) : l.row.toRowW.claim.post args (.bool true) args = true :=
  postW_of (r := l.row.toRowW) (X := (true == true))
    (show WShape.has [] (.bool true) .bool = true by first | rfl | decide | simp [WShape.has, WShape.arms, WShape.armsAll])
    (show (WTm.eq .res (.lit (.bool true))).value [] { args := args, res := some (.bool true), after := args } = some (.bool (true == true)) from w_eq_bool (w_res rfl) w_lit) rfl

/-- the same from a codeAny of the CALL (for a layer whose function contracts speak of calls) -/
theorem attach_call {l : OpenLaw} {n : Nat} {q : Program} {loose : List Str} {XP : (Str → Option Value) → Heap → Prop} {YP : World → Heap → Prop} {d : DefRec}
    (hn : l.most = some n) (hdf : d.params.defaults = [])
    (call : ∀ (w : World) (s₀ s₁ : Shared) (mg mb : Str → Option Value) (fa : Addr) (o : Obj) (pm cd doc : Value) (a : Addr) (vs : List Value) (ns : List Int),
      Ground q loose [] XP w s₀ mg mb s₁.heap → YP w s₁.heap →
      s₁.heap.get? fa = some o → o.data = .func (docDef d.name d.params d.body d.scope pm cd doc) → s₁.heap.CodeRec cd d.name → mg d.name = some (.ref fa) →
      s₁.heap.get? a = some { cls := .type "list", data := .seq vs.toArray } → IntsAre vs ns → ns.length ≤ n → s₁.gens = #[] →
      codeAny (model l.prog w) callerA (.call (.ref fa) ⟨[.ref a], []⟩) (fun r s' => r = .ok (.ret (.bool true)) ∧ OldK s₁.heap s'.heap ∧ s'.os = s₁.os ∧ AllBare s'.gens) s₁) :
    WalkO q loose XP YP l.row.toRowW d [] (fun f vs => PySem.call f vs) := by
  intro w s₀ s₁ mg mb G Y fa o pm cd doc dV kV ho hd hcd hD hmg hg args vals as hpre hlay hrd hwl hlo
  obtain rfl : dV = .none := Dflts.none hD hdf
  obtain rfl : kV = .none := Dflts.noKw hD
  obtain ⟨a, vs, ns, rfl, rfl, hobj, hints, hlen⟩ := script_of hn hpre hwl
  refine enter_call (codeAny_mono (call w s₀ s₁ mg mb fa o pm cd doc a vs ns G Y ho (fd_plain hd) hcd hmg hobj hints hlen hg) fun r s' hq => ?_)
  obtain ⟨rfl, h2, h3, h4⟩ := hq
  exact ⟨.inl ⟨.bool true, .bool true, [], rfl, fun _ => rfl, .bool true, post_true l _, fun _ => ⟨List.Pairwise.nil, fun _ hm => (nomatch hm)⟩⟩, h2, h3, h4⟩

section
variable {prog : Program} {w : World} {A : Around} {E : Value → Shared → Prop} {s : Shared} {K : Frag}

end
end Att

namespace L2
open PySem PySem.Spec PyProof.Rows

theorem vals_ints : ∀ {vs : List Value} {ns : List Int}, IntsAre vs ns → Vals (ns.map V.int) vs
  | _, _, .nil => .nil
  | _, _, .cons n t h => .cons ⟨t, rfl⟩ (vals_ints h)

/-- nothing is tracked but the script, known to the object (or it is an object of the module) -/
def Only (H : Hp) : Prop := ∀ b, H b = none ∨ ∃ o xs, H b = some (.frz o (.lst xs))

/-- THE HEAD: the law's promise, at the heap behind the top. F, the promise of the law's def, may use that base is part of the heap (so K.In base, base.Ns mainGlobals mg stand in Mod) -/
theorem law_call {P : Program} {w : World} {K : PySem.W.Frag} {mg mb : Str → Option Value} {CX : CXT} {k : Nat} {fa a : Addr} {fd : FuncData} {x : Str} {sp : Sp} {s₁ : Shared} {vs : List Value} {ns : List Int}
    (KX : K.In s₁.heap) (hns : s₁.heap.Ns mainGlobals mg) (hb : s₁.heap.Ns builtinsNs mb) (hbb : ∀ x : Str, x ≠ "__name__" → mb x = bootBuiltins x) (hlim : s₁.heap.NoLimit) (hg : s₁.gens = #[])
    (ha : s₁.heap.get? a = some { cls := .type "list", data := .seq vs.toArray }) (hi : IntsAre vs ns) (hl : ns.length ≤ sizeLine) (hr : Room k callerA)
    (F : ∀ base : Heap, K.In base → base.Ns mainGlobals mg → FnOk P w K mg base CX k fa fd [x] sp) (hbind : ∀ (s : Shared) (u : Value), BindsTo s fd ⟨[u], []⟩ [(x, u)])
    (hsp : ∀ H : Hp, Only H → SqL K H a (ns.map V.int) → sp [.ref a] H (fun v _ => v = .bl true) fun _ _ _ => False)
    (hCX : ∀ H e s', CX [] H s₁ (fun _ _ _ => False) e s' → False) :
    codeAny (model P w) callerA (.call (.ref fa) ⟨[.ref a], []⟩) (fun r s' => r = .ok (.ret (.bool true)) ∧ OldK s₁.heap s'.heap ∧ s'.os = s₁.os ∧ AllBare s'.gens) s₁ := by
  have rv := vals_ints hi
  have lenV := hi.length
  -- from an abstract heap in which nothing but the script may be tracked
  have core : ∀ H : Hp, Only H → SqL K H a (ns.map V.int) → HOk P w H s₁.heap → (∀ b, H b ≠ none → b = a) → (H a ≠ none → K.lookup a = none) →
      codeAny (model P w) callerA (.call (.ref fa) ⟨[.ref a], []⟩) (fun r s' => r = .ok (.ret (.bool true)) ∧ OldK s₁.heap s'.heap ∧ s'.os = s₁.os ∧ AllBare s'.gens) s₁ := by
    intro H hO hS hok hA hK
    have base_of : ∀ {b : Addr} {o : Obj}, s₁.heap.get? b = some o → H b = none → (hidT s₁.heap H).get? b = some o := fun e n => hidT_get e n
    have noA : ∀ {b : Addr} {o : Obj} {es : Array DictEntry} {ep : Nat}, s₁.heap.get? b = some o → o.data = .dict es ep → H b = none := fun {b o es ep} e d => by
      cases q : H b with
      | none => rfl
      | some u =>
        have e' : b = a := hA b (by rw [q]; simp)
        subst e'
        rw [ha] at e; cases e
        have d' : Data.seq vs.toArray _ = Data.dict es ep := d
        cases d'
    have nsK : ∀ {b : Addr} {m : Str → Option Value}, s₁.heap.Ns b m → (hidT s₁.heap H).Ns b m := fun {b m} ⟨o, es, ep, e, d, r⟩ => ⟨o, es, ep, base_of e (noA e d), d, r⟩
    have hKb : K.In (hidT s₁.heap H) := fun b o e => base_of (KX b o e) (by
      cases q : H b with
      | none => rfl
      | some u =>
        have e' : b = a := hA b (by rw [q]; simp)
        subst e'
        rw [hK (by rw [q]; simp)] at e; cases e)
    have hM : Mod K mg (hidT s₁.heap H) := ⟨hKb, nsK hns, ⟨mb, nsK hb, hbb⟩, let ⟨mc, h1, h2⟩ := hlim; ⟨mc, nsK h1, h2⟩⟩
    have e0 : Env0 P w K mg (hidT s₁.heap H) callerA [] s₁ H := ⟨rfl, hM, fun b o e => of_hidT e, Nat.le_of_eq (hidT_size _ _), trivial, fun b hb => absurd (show b ∈ ([] : List Addr) from hb) (by simp), hok, .of_eq hg⟩
    refine codeAny_mono ((F _ hKb (nsK hns)).run callerA [] s₁ H ⟨[.ref a], []⟩ [.ref a] [.ref a] _ _ hr e0 (hbind s₁ (.ref a)) (.cons rfl .nil) (hsp H hO hS)) fun r s' h => ?_
    cases r with
    | error e => exact (hCX H e s' h).elim
    | ok fl =>
      cases fl with
      | next => exact False.elim h
      | brk => exact False.elim h
      | cont => exact False.elim h
      | ret u =>
        obtain ⟨v, H', os, bare, un, hok', r', q⟩ := h
        have q' : v = .bl true := q
        subst q'
        obtain rfl : u = Value.bool true := r'
        refine ⟨rfl, OldK.of_keep fun b o e => ?_, os, bare⟩
        cases q : H b with
        | none => exact un.keep b o e q (by intro z; exact absurd (show b ∈ ([] : List Addr) from z) (by simp)) (by simp)
        | some u =>
          rcases hO b with z | ⟨ob, xs, z⟩
          · rw [q] at z; cases z
          · have z2 := un.frzs b ob _ z
            obtain ⟨e1, _⟩ := hok b _ z
            obtain ⟨e2, _⟩ := hok' b _ z2
            rw [e] at e1; cases e1
            exact e2
  cases hk : K.lookup a with
  | some o =>
    -- the script is one of the module's own objects
    have e := KX a o hk
    rw [ha] at e
    cases e
    refine core (fun _ => none) (fun _ => .inl rfl) (.inr ⟨_, vs.toArray, _, hk, rfl, rfl, rfl, by rw [List.size_toArray, lenV]; exact hl, by simpa using rv⟩) (fun b u z => by have z' : (none : Option HO) = some u := z; cases z') (fun b z => absurd rfl z) fun z => absurd rfl z
  | none =>
    refine core (fun b => if b = a then some (.frz { cls := .type "list", data := .seq vs.toArray } (.lst (ns.map V.int))) else none) (fun b => ?_) (.inl (.inr ⟨{ cls := .type "list", data := .seq vs.toArray }, if_pos rfl⟩)) (fun b u z => ?_) (fun b z => ?_) fun _ => hk
    · by_cases hb : b = a
      · exact .inr ⟨_, _, if_pos hb⟩
      · exact .inl (if_neg hb)
    · by_cases hb : b = a
      · have z' := (if_pos hb).symm.trans z
        cases z'
        subst hb
        exact ⟨ha, by rw [List.length_map]; exact hl, vs, _, rv, ha⟩
      · have z' := (if_neg hb).symm.trans z
        cases z'
    · by_cases hb : b = a
      · exact hb
      · exact absurd (if_neg hb) z
end L2

namespace L2
open PySem PySem.Spec PyProof.Rows

/-- the goal that k_head leaves (case hc), from the law's promise. F gives the function object fd (K's own) once, then the promise over every base -/
theorem walk_of {l : PySem.W.OpenLaw} {n k : Nat} {q : Program} {loose : List Str} {XP : (Str → Option Value) → Heap → Prop} {YP : World → Heap → Prop} {d : DefRec} {K : Params → PySem.W.Frag} {CX : World → CXT} {sp : World → Sp} {x : Str}
    (hn : l.most = some n) (hn2 : n ≤ sizeLine) (hdf : d.params.defaults = []) (hr : Room k callerA)
    (hY : ∀ (w : World) (h : Heap), YP w h → (K w.params).In h)
    (F : ∀ (w : World) (mg : Str → Option Value) (fa : Addr) (h : Heap), (K w.params).In h → h.Ns mainGlobals mg → mg d.name = some (.ref fa) →
      ∃ fd : FuncData, (∀ (s : Shared) (u : Value), BindsTo s fd ⟨[u], []⟩ [(x, u)]) ∧
        ∀ base : Heap, (K w.params).In base → base.Ns mainGlobals mg → FnOk l.prog w (K w.params) mg base (CX w) k fa fd [x] (sp w))
    (hsp : ∀ (w : World) (H : Hp) (a : Addr) (ns : List Int), ns.length ≤ n → Only H → SqL (K w.params) H a (ns.map V.int) → sp w [.ref a] H (fun v _ => v = .bl true) fun _ _ _ => False)
    (hCX : ∀ (w : World) (H : Hp) (s : Shared) (e : Value) (s' : Shared), CX w [] H s (fun _ _ _ => False) e s' → False) :
    PySem.W.WalkO q loose XP YP l.row.toRowW d [] (fun f vs => PySem.call f vs) := by
  refine Att.attach_call hn hdf fun w s₀ s₁ mg mb fa o pm cd doc a vs ns G Y ho hd hcd hmg hobj hints hlen hg => ?_
  have KX := hY w _ Y
  obtain ⟨fd, hb, hF⟩ := F w mg fa _ KX G.T.g hmg
  exact law_call KX G.T.g G.T.b G.T.builtins G.T.nolimit hg hobj hints (Nat.le_trans hlen hn2) hr hF hb (fun H hO hS => hsp w H a ns hlen hO hS) fun H e s' => hCX w H s₁ e s'
end L2


namespace L2
open PySem PySem.Spec PyProof.Rows

def defArgs (s : Stmt) : Arguments := match s with
  | .FunctionDef _ a _ _ _ _ _ _ _ _ => a
  | _ => { posonlyargs := [], args := [], vararg := none, kwonlyargs := [], kw_defaults := [], kwarg := none, defaults := [] }
def defBody (s : Stmt) : List Stmt := match s with
  | .FunctionDef _ _ b _ _ _ _ _ _ _ => b
  | _ => []
def defScope (s : Stmt) : Scope := match s with
  | .FunctionDef _ _ _ _ _ _ sc _ _ _ => sc
  | _ => { kind := .function, names := [], isGenerator := false, isCoroutine := false }

abbrev CX0 : CXT := fun _ _ _ _ _ _ => False
abbrev E0 : XK := fun _ _ _ => False
theorem pass0 {X : Cx} : Passes CX0 X E0 := fun _ _ _ _ _ _ _ h => h.elim

structure Fun (K : PySem.W.Frag) (x qual : Str) (st : Stmt) (f : Addr) (fd : FuncData) : Prop where
  ex : ∃ (oc : Value) (od : Option Addr) (kV doc pm : Value) (an : Option Addr) (cdv ct : Value) (osl : Array (Option Value)),
    fd = PySem.W.fnOf x qual (defArgs st) (defBody st) (defScope st) .none kV doc pm an cdv ct ∧ K.lookup f = some ⟨oc, od, .func fd, osl⟩ ∧ PySem.W.codeIn K cdv qual = true
  kp : PySem.W.keepIn K (.ref f) = true
section
variable {P : Program} {w : World} {K : PySem.W.Frag} {mg : Str → Option Value} {base : Heap}
/-- THE RULE for a def: its body as a term of rules, and the reading of that term -/
theorem Fun.ok {x qual : Str} {st : Stmt} {f : Addr} {fd : FuncData} {N ps : List Str} {k : Nat} {sp : Sp} (F : Fun K x qual st f fd) (S : FnScope N ps (defScope st)) (len : ∀ vs H Q E, sp vs H Q E → vs.length = ps.length)
    (hbody : ∀ (cdv : Value) (A : Around) (outer : List Env) (s : Shared) (H : Hp) (vs : List V) (Q : VK) (E : XK), Room k (A.deeper (envOfC qual (defScope st) s.heap.objs.size f cdv)) → sp vs H Q E →
      ∃ t, PSs (cxOf CX0 P w K mg base N qual (defScope st) f cdv A outer s H E).nox (defBody st) t ∧ t { nx := fun _ H' => Q .non H', rt := Q } (start N vs) H) : FnOk P w K mg base CX0 (k + 1) f fd ps sp := by
  obtain ⟨oc, od, kV, doc, pm, an, cdv, ct, osl, rfl, lk, hcd⟩ := F.ex
  refine fn_of lk hcd S len fun A outer s H vs Q E hr hsp => ?_
  obtain ⟨t, h, q⟩ := hbody cdv A outer s H vs Q E hr hsp
  exact ⟨t, h.nox, q⟩
/-- how its arguments bind (no defaults): h is «fun _ _ _ _ _ _ us hl => match us, hl with | [_, _], _ => rfl», one _ a parameter -/
theorem Fun.binds {x qual : Str} {st : Stmt} {f : Addr} {fd : FuncData} {ps : List Str} (F : Fun K x qual st f fd)
    (h : ∀ (kV doc pm : Value) (an : Option Addr) (cdv ct : Value) (us : List Value), us.length = ps.length → bindArgs (PySem.W.fnOf x qual (defArgs st) (defBody st) (defScope st) .none kV doc pm an cdv ct) ⟨us, []⟩ = pure (ps.zip us)) : Binds K fd ps [] := by
  obtain ⟨oc, od, kV, doc, pm, an, cdv, ct, osl, rfl, lk, hcd⟩ := F.ex
  exact .all (h kV doc pm an cdv ct)
theorem fun_mk {x qual : Str} {st : Stmt} {f : Addr} {oc : Value} {od an : Option Addr} {osl : Array (Option Value)} {kV doc pm cdv ct : Value} (l : K.lookup f = some ⟨oc, od, .func (PySem.W.fnOf x qual (defArgs st) (defBody st) (defScope st) .none kV doc pm an cdv ct), osl⟩)
    (c : PySem.W.codeIn K cdv qual = true) (k : PySem.W.keepIn K (.ref f) = true) : Fun K x qual st f (PySem.W.fnOf x qual (defArgs st) (defBody st) (defScope st) .none kV doc pm an cdv ct) := ⟨⟨oc, od, kV, doc, pm, an, cdv, ct, osl, rfl, l, c⟩, k⟩
end
theorem small1000 {n : Nat} (h : n ≤ 1000) : n < sizeLine := Nat.lt_of_le_of_lt h (by decide)

section
variable {X : Cx}
theorem pv (i : Nat) {x : Str} {pos : Pos} (hN : X.N[i]? = some x := by rfl) (hv : Vis X.env.scope x := by first | exact Or.inl rfl | exact Or.inr (Or.inl rfl) | exact Or.inr (Or.inr rfl)) (hd : (x == ("__debug__" : Str)) = false := by decide)
    (hcd : (x == ("__classdict__" : Str)) = false := by decide) : PE X (.Name x pos) (tVar i) := pe_var hN hv hd hcd
end

/-- all that was tracked is as it was -/
def Same (H H' : Hp) : Prop := ∀ b o, H b = some o → H' b = some o
theorem Same.refl (H : Hp) : Same H H := fun _ _ h => h
theorem Same.trans {H H1 H2 : Hp} (a : Same H H1) (b : Same H1 H2) : Same H H2 := fun c o h => b c o (a c o h)
theorem Same.free {H H' : Hp} (e : Same H H') {l : Addr} (h : H' l = Option.none) : H l = Option.none := by
  cases q : H l with
  | none => rfl
  | some o =>
    rw [e l o q] at h
    cases h
theorem Same.seq {K : PySem.W.Frag} {H H' : Hp} {a : Addr} {xs : List V} (e : Same H H') (h : SqL K H a xs) : SqL K H' a xs := by
  rcases h with (h | ⟨o, h⟩) | h
  · exact .inl (.inl (e _ _ h))
  · exact .inl (.inr ⟨o, e _ _ h⟩)
  · exact .inr h

end L2
end
section
set_option Elab.async false
set_option linter.all false
set_option maxRecDepth 100000
namespace L2
open PySem PySem.Spec PyProof.Rows

section
variable {κ : Type} [DecidableEq κ]
def valV (kvs : List (κ × V)) (k : κ) : Option V := (kvs.find? fun kv => decide (kv.1 = k)).map (·.2)
/-- in its place, or at the end -/
def putK (kvs : List (κ × V)) (k : κ) (v : V) : List (κ × V) :=
  if (kvs.any fun kv => decide (kv.1 = k)) = true then kvs.map (fun kv => if kv.1 = k then (kv.1, v) else kv) else kvs ++ [(k, v)]
def dropK (kvs : List (κ × V)) (k : κ) : List (κ × V) := kvs.filter fun kv => decide (kv.1 ≠ k)

theorem valV_pos {p : κ × V} {r : List (κ × V)} {k : κ} (e : p.1 = k) : valV (p :: r) k = some p.2 := by simp [valV, List.find?_cons, e]
theorem valV_neg {p : κ × V} {r : List (κ × V)} {k : κ} (e : ¬ p.1 = k) : valV (p :: r) k = valV r k := by simp [valV, List.find?_cons, e]
theorem valV_any (k : κ) : ∀ kvs : List (κ × V), (kvs.any fun kv => decide (kv.1 = k)) = (valV kvs k).isSome
  | [] => rfl
  | p :: r => by
    rw [List.any_cons]
    by_cases e : p.1 = k
    · simp only [valV_pos e, decide_eq_true e, Bool.true_or, Option.isSome_some]
    · rw [valV_neg e, decide_eq_false e, Bool.false_or]; exact valV_any k r
theorem RelO.isSome_eq {o : Option V} {u : Option Value} (r : RelO o u) : o.isSome = u.isSome := by
  cases o with
  | none => cases u with
    | none => rfl
    | some _ => exact (show False from r).elim
  | some _ => cases u with
    | none => exact (show False from r).elim
    | some _ => rfl
theorem RelO.getD {o : Option V} {u : Option Value} {d : V} {d' : Value} (r : RelO o u) (rd : RelV d d') : RelV (o.getD d) (u.getD d') := by
  cases o with
  | none => cases u with
    | none => exact rd
    | some _ => exact (show False from r).elim
  | some _ => cases u with
    | none => exact (show False from r).elim
    | some _ => exact r

/-- raw tables of the same keys -/
theorem KV.val {kvs : List (κ × V)} {vs : List (κ × Value)} (r : KV kvs vs) (k : κ) : RelO (valV kvs k) (valueAt vs k) := by
  unfold KV at r
  induction r with
  | nil => exact True.intro
  | @cons p q ps qs h t ih =>
    obtain ⟨h1, h2⟩ := h
    by_cases e : p.1 = k
    · have e' : q.1 = k := h1.symm.trans e
      have b : valueAt (q :: qs) k = some q.2 := by simp [valueAt, List.find?_cons, e']
      rw [valV_pos e, b]; exact h2
    · have e' : ¬ q.1 = k := fun z => e (h1.trans z)
      have b : valueAt (q :: qs) k = valueAt qs k := by simp [valueAt, List.find?_cons, e']
      rw [valV_neg e, b]; exact ih
theorem KV.any {kvs : List (κ × V)} {vs : List (κ × Value)} (r : KV kvs vs) (k : κ) : (kvs.any fun kv => decide (kv.1 = k)) = vs.any fun kv => decide (kv.1 = k) := by
  unfold KV at r
  induction r with
  | nil => rfl
  | cons h t ih => rw [List.any_cons, List.any_cons, ih, h.1]
theorem KV.repl {kvs : List (κ × V)} {vs : List (κ × Value)} (r : KV kvs vs) (k : κ) {y : V} {u : Value} (ry : RelV y u) :
    KV (kvs.map fun kv => if kv.1 = k then (kv.1, y) else kv) (vs.map fun kv => if kv.1 = k then (kv.1, u) else kv) := by
  unfold KV at r ⊢
  induction r with
  | nil => exact .nil
  | @cons p q ps qs h t ih =>
    rw [List.map_cons, List.map_cons]
    refine .cons ?_ ih
    obtain ⟨h1, h2⟩ := h
    by_cases e : p.1 = k
    · rw [if_pos e, if_pos (h1.symm.trans e)]; exact ⟨h1, ry⟩
    · rw [if_neg e, if_neg (fun z => e (h1.trans z))]; exact ⟨h1, h2⟩
theorem KV.put {kvs : List (κ × V)} {vs : List (κ × Value)} (r : KV kvs vs) (k : κ) {y : V} {u : Value} (ry : RelV y u) : KV (putK kvs k y) (stored vs k u) := by
  unfold putK stored
  rw [r.any k]
  by_cases e : (vs.any fun kv => decide (kv.1 = k)) = true
  · rw [if_pos e, if_pos e]; exact r.repl k ry
  · rw [if_neg e, if_neg e]; exact Paired.snoc r ⟨rfl, ry⟩
theorem KV.drop {kvs : List (κ × V)} {vs : List (κ × Value)} (r : KV kvs vs) (k : κ) : KV (dropK kvs k) (without vs k) := by
  unfold KV at r ⊢
  unfold dropK without
  induction r with
  | nil => exact .nil
  | @cons p q ps qs h t ih =>
    obtain ⟨h1, h2⟩ := h
    rw [List.filter_cons, List.filter_cons]
    by_cases e : p.1 = k
    · have a : ¬ decide (p.1 ≠ k) = true := by simp [e]
      have b : ¬ decide (q.1 ≠ k) = true := by simp [h1.symm.trans e]
      rw [if_neg a, if_neg b]; exact ih
    · have e' : ¬ q.1 = k := fun z => e (h1.trans z)
      have a : decide (p.1 ≠ k) = true := by simp [e]
      have b : decide (q.1 ≠ k) = true := by simp [e']
      rw [if_pos a, if_pos b]; exact .cons ⟨h1, h2⟩ ih
theorem KV.keys {kvs : List (κ × V)} {vs : List (κ × Value)} (r : KV kvs vs) : kvs.map (·.1) = vs.map (·.1) := by
  unfold KV at r
  induction r with
  | nil => rfl
  | cons h t ih => rw [List.map_cons, List.map_cons, ih, h.1]
theorem KV.length {kvs : List (κ × V)} {vs : List (κ × Value)} (r : KV kvs vs) : kvs.length = vs.length := Paired.length r
end


/-- raw entries of a dict with tuple keys -/
abbrev KT (H : Hp) : List (List Key × V) → List (List Key × Addr × Value) → Prop := Paired fun p q => p.1 = q.1 ∧ H q.2.1 = some (.tup (p.1.map kV)) ∧ RelV p.2 q.2.2
theorem KT.val {H : Hp} {kvs : List (List Key × V)} {xs : List (List Key × Addr × Value)} (r : KT H kvs xs) (k : List Key) : RelO (valV kvs k) ((atKey xs k).map (·.2)) := by
  induction r with
  | nil => exact True.intro
  | @cons p q ps qs h t ih =>
    obtain ⟨h1, _, h2⟩ := h
    by_cases e : p.1 = k
    · have e' : q.1 = k := h1.symm.trans e
      have b : atKey (q :: qs) k = some q.2 := by simp [atKey, List.find?_cons, e']
      rw [valV_pos e, b]; exact h2
    · have e' : ¬ q.1 = k := fun z => e (h1.trans z)
      have b : atKey (q :: qs) k = atKey qs k := by simp [atKey, List.find?_cons, e']
      rw [valV_neg e, b]; exact ih
theorem KT.repl {H : Hp} {kvs : List (List Key × V)} {xs : List (List Key × Addr × Value)} (r : KT H kvs xs) (k : List Key) {y : V} {u : Value} (ry : RelV y u) :
    KT H (kvs.map fun kv => if kv.1 = k then (kv.1, y) else kv) (xs.map (putAt k u)) := by
  induction r with
  | nil => exact .nil
  | @cons p q ps qs h t ih =>
    rw [List.map_cons, List.map_cons]
    refine .cons ?_ ih
    obtain ⟨h1, h2, h3⟩ := h
    unfold putAt
    by_cases e : p.1 = k
    · rw [if_pos e, if_pos (h1.symm.trans e)]; exact ⟨h1, h2, ry⟩
    · rw [if_neg e, if_neg (fun z => e (h1.trans z))]; exact ⟨h1, h2, h3⟩
theorem KT.put {H : Hp} {kvs : List (List Key × V)} {xs : List (List Key × Addr × Value)} (r : KT H kvs xs) (k : List Key) {b : Addr} {y : V} {u : Value} (hb : H b = some (.tup (k.map kV))) (ry : RelV y u) :
    KT H (putK kvs k y) (storedH xs k b u) := by
  have e : (kvs.any fun kv => decide (kv.1 = k)) = (atKey xs k).isSome := by
    rw [valV_any, (r.val k).isSome_eq, Option.isSome_map]
  unfold putK storedH
  rw [e]
  by_cases q : (atKey xs k).isSome = true
  · rw [if_pos q, if_pos q]; exact r.repl k ry
  · rw [if_neg q, if_neg q]; exact Paired.snoc r ⟨rfl, hb, ry⟩
theorem KT.keeps {H H' : Hp} {kvs : List (List Key × V)} {xs : List (List Key × Addr × Value)} (r : KT H kvs xs) (ht : ∀ b ys, H b = some (.tup ys) → H' b = some (.tup ys)) : KT H' kvs xs :=
  Paired.mapP r fun _ _ z => ⟨z.1, ht _ _ z.2.1, z.2.2⟩

section
variable {P : Program} {w : World} {H : Hp} {h : Heap} {a : Addr}
end

/-- what the dict at a holds at the key y -/
def DGet (H : Hp) (a : Addr) (y : V) (r : Option V) : Prop :=
  (∃ kvs k, Rd H a (.dK kvs) ∧ y = kV k ∧ r = valV kvs k) ∨ ∃ kvs k b, Rd H a (.dT kvs) ∧ y = .ref b ∧ H b = some (.tup (k.map kV)) ∧ r = valV kvs k
/-- the heap behind a[y] = v -/
def DPut (H : Hp) (a : Addr) (y v : V) (H' : Hp) : Prop :=
  (∃ kvs k, H a = some (.dK kvs) ∧ y = kV k ∧ kvs.length < sizeLine ∧ H' = upd H a (.dK (putK kvs k v))) ∨
  ∃ kvs k b, H a = some (.dT kvs) ∧ y = .ref b ∧ H b = some (.tup (k.map kV)) ∧ kvs.length < sizeLine ∧ H' = upd H a (.dT (putK kvs k v))
theorem DGet.k {H : Hp} {a : Addr} {kvs : List (Key × V)} {k : Key} (e : H a = some (.dK kvs)) : DGet H a (kV k) (valV kvs k) := .inl ⟨kvs, k, .inl e, rfl, rfl⟩
theorem DGet.t {H : Hp} {a b : Addr} {kvs : List (List Key × V)} {k : List Key} (e : H a = some (.dT kvs)) (eb : H b = some (.tup (k.map kV))) : DGet H a (.ref b) (valV kvs k) := .inr ⟨kvs, k, b, .inl e, rfl, eb, rfl⟩
theorem DPut.k {H : Hp} {a : Addr} {kvs : List (Key × V)} {k : Key} {v : V} (e : H a = some (.dK kvs)) (hl : kvs.length < sizeLine) : DPut H a (kV k) v (upd H a (.dK (putK kvs k v))) := .inl ⟨kvs, k, e, rfl, hl, rfl⟩
theorem DPut.t {H : Hp} {a b : Addr} {kvs : List (List Key × V)} {k : List Key} {v : V} (e : H a = some (.dT kvs)) (eb : H b = some (.tup (k.map kV))) (hl : kvs.length < sizeLine) :
    DPut H a (.ref b) v (upd H a (.dT (putK kvs k v))) := .inr ⟨kvs, k, b, e, rfl, eb, hl, rfl⟩


section
variable {X : Cx} {pins : List (Addr × Obj)} {σ : St} {H : Hp} {s : Shared} {a : Addr} {y v : V} {u r : Value} {o : Option V} {A : Around} {E : Value → Shared → Prop}

end

section
variable {X : Cx} {pins : List (Addr × Obj)} {σ : St} {H : Hp} {s : Shared} {a : Addr} {kvs : List (Key × V)} {k : Key} {u : Value} {A : Around} {E : Value → Shared → Prop}
end


section
variable {X : Cx} {o i e value : Expr} {pos pos' tpos : Pos} {td ty tv : TE}
end


section
variable {X : Cx} {pos : Pos}
end

def mergeK (kvs more : List (Key × V)) : List (Key × V) := more.foldl (fun acc kv => putK acc kv.1 kv.2) kvs
section
variable {X : Cx} {pins : List (Addr × Obj)} {σ : St} {H : Hp} {s : Shared} {a : Addr} {y d : V} {u r : Value} {o : Option V} {A : Around} {E : Value → Shared → Prop}
end

section
variable {X : Cx} {o e f : Expr} {apos cpos : Pos} {td ty tx : TE}
end

section
variable {X : Cx} {pins : List (Addr × Obj)} {σ : St} {H : Hp} {s : Shared} {a : Addr} {kvs : List (Key × V)} {A : Around} {E : Value → Shared → Prop}
end


section
variable {X : Cx} {pins : List (Addr × Obj)} {σ : St} {H : Hp} {s : Shared} {a : Addr} {y : V} {u : Value} {A : Around} {E : Value → Shared → Prop}
end
end L2
end
section
set_option linter.all false
namespace FD
open PySem

abbrev D := PyData
abbrev En := List (Option D)
abbrev FE := En → Option D
abbrev FT := En → Option Bool
abbrev FA := En → Option (List D)

@[simp] theorem bind_ite {α β : Type} {c : Prop} [Decidable c] (a b : Option α) (f : α → Option β) : (if c then a else b).bind f = if c then a.bind f else b.bind f := by split <;> rfl
@[simp] def eVar (i : Nat) : FE := fun ρ => (ρ[i]?).bind id
@[simp] def eC (d : D) : FE := fun _ => some d
@[simp] def eUn (g : D → Option D) (a : FE) : FE := fun ρ => (a ρ).bind g
@[simp] def eBin (g : D → D → Option D) (a b : FE) : FE := fun ρ => (a ρ).bind fun x => (b ρ).bind fun y => g x y
@[simp] def aNil : FA := fun _ => some []
@[simp] def aCons (a : FE) (r : FA) : FA := fun ρ => (a ρ).bind fun x => (r ρ).bind fun xs => some (x :: xs)
@[simp] def few (xs : List D) : Bool := decide (xs.length ≤ 1000)
@[simp] def eTup (a : FA) : FE := fun ρ => (a ρ).bind fun xs => if few xs then some (.tuple xs) else none
@[simp] def eLst (a : FA) : FE := fun ρ => (a ρ).bind fun xs => if few xs then some (.list xs) else none
@[simp] def eCall (F : List D → Option D) (a : FA) : FE := fun ρ => (a ρ).bind F
@[simp] def boolOf : D → Option Bool
  | .bool b => some b
  | _ => none
@[simp] def eAnd (a b : FE) : FE := fun ρ => ((a ρ).bind boolOf).bind fun c => if c then b ρ else some (.bool false)
@[simp] def eOr (a b : FE) : FE := fun ρ => ((a ρ).bind boolOf).bind fun c => if c then some (.bool true) else b ρ
@[simp] def eNot (a : FE) : FE := fun ρ => ((a ρ).bind boolOf).bind fun c => some (.bool (!c))
@[simp] def tVal (a : FE) : FT := fun ρ => (a ρ).bind boolOf
@[simp] def tAnd (a b : FT) : FT := fun ρ => (a ρ).bind fun c => if c then b ρ else some false
@[simp] def tOr (a b : FT) : FT := fun ρ => (a ρ).bind fun c => if c then some true else b ρ
@[simp] def tNot (a : FT) : FT := fun ρ => (a ρ).bind fun c => some (!c)
@[simp] def eIf (t : FT) (a b : FE) : FE := fun ρ => (t ρ).bind fun c => if c then a ρ else b ρ

def okEq (x y : D) : Bool := x.canLay0 && y.canLay0 && decide (min x.depth y.depth ≤ 60)
def eqD (x y : D) : Option D := if okEq x y then some (.bool (x.eqv y)) else none
def neD (x y : D) : Option D := if okEq x y then some (.bool (!x.eqv y)) else none
@[simp] def cmpD (p : Int → Int → Bool) : D → D → Option D
  | .int i, .int j => some (.bool (p i j))
  | _, _ => none
@[simp] def ltD := cmpD fun i j => decide (i < j)
@[simp] def leD := cmpD fun i j => decide (i ≤ j)
@[simp] def gtD := cmpD fun i j => decide (j < i)
@[simp] def geD := cmpD fun i j => decide (j ≤ i)
@[simp] def isND : D → Option D
  | .none => some (.bool true)
  | _ => some (.bool false)
@[simp] def notND : D → Option D
  | .none => some (.bool false)
  | _ => some (.bool true)
@[simp] def seqOf : D → Option (List D)
  | .list xs => some xs
  | .tuple xs => some xs
  | _ => none
def addD : D → D → Option D
  | .int i, .int j => some (.int (i + j))
  | .str x, .str y => if x.length + y.length ≤ 1000 then some (.str (x ++ y)) else none
  | .list xs, .list ys => if xs.length + ys.length ≤ 1000 then some (.list (xs ++ ys)) else none
  | .tuple xs, .tuple ys => if xs.length + ys.length ≤ 1000 then some (.tuple (xs ++ ys)) else none
  | _, _ => none
@[simp] def subD : D → D → Option D
  | .int i, .int j => some (.int (i - j))
  | _, _ => none
def okMul (i j : Int) : Bool := decide (i.natAbs < 18446744073709551616) || decide (j.natAbs < 18446744073709551616) || (decide (i.natAbs < 2 ^ 500) && decide (j.natAbs < 2 ^ 500))
def mulD : D → D → Option D
  | .int i, .int j => if okMul i j then some (.int (i * j)) else none
  | _, _ => none
def fdivD : D → D → Option D
  | .int i, .int j => if 0 < j ∧ j < 1073741824 then some (.int (i / j)) else none
  | _, _ => none
def modD : D → D → Option D
  | .int i, .int j => if 0 < j then some (.int (i % j)) else none
  | _, _ => none
@[simp] def negD : D → Option D
  | .int i => some (.int (-i))
  | _ => none
def at? {α : Type} (xs : List α) (i : Int) : Option α := if 0 ≤ i then xs[i.toNat]? else if -(xs.length : Int) ≤ i then xs[(i + xs.length).toNat]? else none
def chr1 (c : Nat) : D := .str ⟨#[c]⟩
@[simp] def ixD : D → D → Option D
  | .list xs, .int i => at? xs i
  | .tuple xs, .int i => at? xs i
  | .str z, .int i => if z.length ≤ 1000 then (at? z.cps.toList i).map chr1 else none
  | _, _ => none
def clip (n d : Nat) : Option Int → Nat
  | none => d
  | some v => if v < 0 then (v + n).toNat else min v.toNat n
def cut {α : Type} (xs : List α) (lo hi : Option Int) : List α := (xs.drop (clip xs.length 0 lo)).take (clip xs.length xs.length hi - clip xs.length 0 lo)
@[simp] def sliceD (x : D) (lo hi : Option Int) : Option D := match x with
  | .list xs => some (.list (cut xs lo hi))
  | .tuple xs => some (.tuple (cut xs lo hi))
  | .str z => if z.length ≤ 1000 then some (.str ⟨(cut z.cps.toList lo hi).toArray⟩) else none
  | _ => none
abbrev FO := En → Option (Option Int)
@[simp] def oNone : FO := fun _ => some none
@[simp] def intOf : D → Option Int
  | .int i => some i
  | _ => none
@[simp] def oSome (a : FE) : FO := fun ρ => ((a ρ).bind intOf).map some
@[simp] def eSlice (a : FE) (lo hi : FO) : FE := fun ρ => (a ρ).bind fun x => (lo ρ).bind fun l => (hi ρ).bind fun h => sliceD x l h
@[simp] def revD : D → Option D
  | .tuple xs => some (.tuple xs.reverse)
  | _ => none
@[simp] def lenD : List D → Option D
  | [.list xs] => some (.int xs.length)
  | [.tuple xs] => some (.int xs.length)
  | [.str z] => if z.length ≤ 1000 then some (.int z.length) else none
  | _ => none
@[simp] def absD : List D → Option D
  | [.int i] => some (.int (if i < 0 then -i else i))
  | _ => none
@[simp] def intD : List D → Option D
  | [.int i] => some (.int i)
  | [.bool k] => some (.int (if k then 1 else 0))
  | _ => none
@[simp] def listD : List D → Option D
  | [.list xs] => some (.list xs)
  | [.tuple xs] => some (.list xs)
  | _ => none
@[simp] def tupleD : List D → Option D
  | [.list xs] => some (.tuple xs)
  | [.tuple xs] => some (.tuple xs)
  | _ => none
@[simp] def maxD : List D → Option D
  | [.int i, .int j] => some (.int (if j > i then j else i))
  | _ => none
@[simp] def minD : List D → Option D
  | [.int i, .int j] => some (.int (if j < i then j else i))
  | _ => none
inductive Ty where | tup | lst | int | bool | str
@[simp] def isiB : Ty → D → Bool
  | .tup, .tuple _ => true
  | .lst, .list _ => true
  | .int, .int _ => true
  | .int, .bool _ => true
  | .bool, .bool _ => true
  | .str, .str _ => true
  | _, _ => false
@[simp] def plainD : D → Bool
  | .dict _ => false
  | _ => true
@[simp] def isiD (t : Ty) (x : D) : Option D := if plainD x then some (.bool (isiB t x)) else none
def findLR (c : Nat) : Int := if c = 108 then 0 else if c = 114 then 1 else -1
def findD : D → D → Option D
  | .str x, .str y => if x.cps = #[108, 114] then (match y.cps.toList with
    | [c] => some (.int (findLR c))
    | _ => none) else none
  | _, _ => none
@[simp] def tTrue : FT := fun _ => some true
inductive Out where
  | nx (ρ : En) | rt (d : D) | bk (ρ : En) | ct (ρ : En)
abbrev FS := En → Option Out
@[simp] def sNil : FS := fun ρ => some (.nx ρ)
@[simp] def sSeq (a b : FS) : FS := fun ρ => (a ρ).bind fun o => match o with
  | .nx ρ' => b ρ'
  | .rt d => some (.rt d)
  | .bk ρ' => some (.bk ρ')
  | .ct ρ' => some (.ct ρ')
@[simp] def sSet (i : Nat) (a : FE) : FS := fun ρ => (a ρ).bind fun d => some (.nx (ρ.set i (some d)))
@[simp] def setAll : List Nat → List D → En → En
  | i :: is, d :: ds, ρ => setAll is ds (ρ.set i (some d))
  | _, _, ρ => ρ
@[simp] def tupOf : D → Option (List D)
  | .tuple xs => some xs
  | _ => none
@[simp] def sUnp (is : List Nat) (a : FE) : FS := fun ρ => ((a ρ).bind tupOf).bind fun xs => if xs.length = is.length then some (.nx (setAll is xs ρ)) else none
@[simp] def sIf (t : FT) (a b : FS) : FS := fun ρ => (t ρ).bind fun c => if c then a ρ else b ρ
@[simp] def sRet (a : FE) : FS := fun ρ => (a ρ).bind fun d => some (.rt d)
@[simp] def sBrk : FS := fun ρ => some (.bk ρ)
@[simp] def sCnt : FS := fun ρ => some (.ct ρ)
def chars (z : Str) : List D := z.cps.toList.map chr1
def forGo (i : Nat) (body : FS) : List D → En → Option Out
  | [], ρ => some (.nx ρ)
  | x :: r, ρ => (body (ρ.set i (some x))).bind fun o => match o with
    | .nx ρ' => forGo i body r ρ'
    | .ct ρ' => forGo i body r ρ'
    | .bk ρ' => some (.nx ρ')
    | .rt d => some (.rt d)
@[simp] def sForSeq (i : Nat) (src : FE) (body : FS) : FS := fun ρ => ((src ρ).bind seqOf).bind fun xs => forGo i body xs ρ
@[simp] def strOf : D → Option Str
  | .str z => some z
  | _ => none
@[simp] def sForStr (i : Nat) (src : FE) (body : FS) : FS := fun ρ => ((src ρ).bind strOf).bind fun z => forGo i body (chars z) ρ
@[simp] def start (n : Nat) (ds : List D) : En := ds.map some ++ List.replicate (n - ds.length) none
@[simp] def retOf : Out → Option D
  | .rt d => some d
  | .nx _ => some .none
  | _ => none
@[simp] def bodyF (n np : Nat) (s : FS) (ds : List D) : Option D := if ds.length = np then (s (start n ds)).bind retOf else none
end FD
end
section
set_option Elab.async false
set_option linter.all false
set_option maxRecDepth 100000
set_option maxHeartbeats 4000000
namespace FD
open PySem PySem.Spec PyProof.Rows L2

abbrev St := L2.St
mutual
inductive Rep (K : PySem.W.Frag) (H : Hp) : V → D → Prop
  | non : Rep K H .non .none
  | bl (b : Bool) : Rep K H (.bl b) (.bool b)
  | int (i : Int) : Rep K H (.int i) (.int i)
  | str (x : Str) : Rep K H (.str x) (.str x)
  | lst {a : Addr} {xs : List V} {ds : List D} : SqL K H a xs → Reps K H xs ds → Rep K H (.ref a) (.list ds)
  | tup {a : Addr} {xs : List V} {ds : List D} : SqT K H a xs → Reps K H xs ds → Rep K H (.ref a) (.tuple ds)
inductive Reps (K : PySem.W.Frag) (H : Hp) : List V → List D → Prop
  | nil : Reps K H [] []
  | cons {v : V} {d : D} {vs : List V} {ds : List D} : Rep K H v d → Reps K H vs ds → Reps K H (v :: vs) (d :: ds)
end
theorem sqT_mono {K : PySem.W.Frag} {H H' : Hp} {a : Addr} {xs : List V} (e : Same H H') (h : SqT K H a xs) : SqT K H' a xs := by
  rcases h with (h | ⟨o, h⟩) | h
  · exact .inl (.inl (e _ _ h))
  · exact .inl (.inr ⟨o, e _ _ h⟩)
  · exact .inr h
mutual
theorem Rep.mono {K : PySem.W.Frag} {H H' : Hp} (e : Same H H') : ∀ {v : V} {d : D}, Rep K H v d → Rep K H' v d
  | _, _, .non => .non
  | _, _, .bl b => .bl b
  | _, _, .int i => .int i
  | _, _, .str x => .str x
  | _, _, .lst h r => .lst (e.seq h) (Reps.mono e r)
  | _, _, .tup h r => .tup (sqT_mono e h) (Reps.mono e r)
theorem Reps.mono {K : PySem.W.Frag} {H H' : Hp} (e : Same H H') : ∀ {vs : List V} {ds : List D}, Reps K H vs ds → Reps K H' vs ds
  | _, _, .nil => .nil
  | _, _, .cons h r => .cons (Rep.mono e h) (Reps.mono e r)
end
section
variable {X : Cx} {pins : List (Addr × Obj)} {σ : St} {H H' : Hp} {s : Shared}
mutual
theorem Rep.reads (I : Inv X pins σ H s) : ∀ {v : V} {d : D} {u : Value}, Rep X.K H v d → RelV v u → ∃ as, Reads s.heap u d as
  | _, _, _, .non, r => by cases r; exact ⟨_, .none⟩
  | _, _, _, .bl b, r => by cases r; exact ⟨_, .bool b⟩
  | _, _, _, .int i, r => by obtain ⟨t, rfl⟩ := r; exact ⟨_, .int i t⟩
  | _, _, _, .str x, r => by obtain ⟨t, rfl⟩ := r; exact ⟨_, .str x t⟩
  | _, _, _, .lst h q, r => by
    cases r
    obtain ⟨its, rv, ⟨o, n, e, c, _, d⟩, _⟩ := I.list h
    obtain ⟨as, ra⟩ := Reps.reads I q rv
    exact ⟨_, .list e c d (by simpa using ra)⟩
  | _, _, _, .tup h q, r => by
    cases r
    obtain ⟨its, rv, ⟨o, e, c, n, d⟩, _⟩ := I.tuple h
    obtain ⟨as, ra⟩ := Reps.reads I q rv
    exact ⟨_, .tuple e c d (by simpa using ra)⟩
theorem Reps.reads (I : Inv X pins σ H s) : ∀ {vs : List V} {ds : List D} {us : List Value}, Reps X.K H vs ds → Vals vs us → ∃ as, ReadsAll s.heap us ds as
  | _, _, _, .nil, r => by cases r; exact ⟨_, .nil⟩
  | _, _, _, .cons h q, r => by
    cases r with
    | cons r1 r2 =>
      obtain ⟨as, ra⟩ := Rep.reads I h r1
      obtain ⟨bs, rb⟩ := Reps.reads I q r2
      exact ⟨_, .cons ra rb⟩
end
end
theorem Reps.length {K : PySem.W.Frag} {H : Hp} : ∀ {vs : List V} {ds : List D}, Reps K H vs ds → vs.length = ds.length
  | _, _, .nil => rfl
  | _, _, .cons _ r => by simp [Reps.length r]
theorem Reps.get {K : PySem.W.Frag} {H : Hp} : ∀ {vs : List V} {ds : List D} {i : Nat} {d : D}, Reps K H vs ds → ds[i]? = some d → ∃ v, vs[i]? = some v ∧ Rep K H v d
  | _, _, _, _, .nil, e => by simp at e
  | _, _, 0, _, .cons h _, e => by simp at e; subst e; exact ⟨_, rfl, h⟩
  | _, _, i + 1, d, .cons _ r, e => by
    obtain ⟨v, h1, h2⟩ := Reps.get (i := i) (d := d) r (by simpa using e)
    exact ⟨v, by simpa using h1, h2⟩
theorem Reps.append {K : PySem.W.Frag} {H : Hp} : ∀ {xs ys : List V} {ds es : List D}, Reps K H xs ds → Reps K H ys es → Reps K H (xs ++ ys) (ds ++ es)
  | _, _, _, _, .nil, s => s
  | _, _, _, _, .cons h r, s => .cons h (Reps.append r s)
theorem Reps.take {K : PySem.W.Frag} {H : Hp} : ∀ {xs : List V} {ds : List D} (n : Nat), Reps K H xs ds → Reps K H (xs.take n) (ds.take n)
  | _, _, 0, _ => .nil
  | _, _, _ + 1, .nil => .nil
  | _, _, n + 1, .cons h r => .cons h (Reps.take n r)
theorem Reps.drop {K : PySem.W.Frag} {H : Hp} : ∀ {xs : List V} {ds : List D} (n : Nat), Reps K H xs ds → Reps K H (xs.drop n) (ds.drop n)
  | _, _, 0, r => r
  | _, _, _ + 1, .nil => .nil
  | _, _, n + 1, .cons _ r => Reps.drop n r
theorem Reps.reverse {K : PySem.W.Frag} {H : Hp} : ∀ {xs : List V} {ds : List D}, Reps K H xs ds → Reps K H xs.reverse ds.reverse
  | _, _, .nil => .nil
  | _, _, .cons h r => by
    simp only [List.reverse_cons]
    exact (Reps.reverse r).append (.cons h .nil)
theorem same_new {H : Hp} {p : Addr} (h : H p = none) (o : HO) : Same H (upd H p o) := fun b u q => by rw [upd_ne (ne_of_none q h)]; exact q

/-- the environment's data stand in the slots -/
def RepS (K : PySem.W.Frag) (H : Hp) (σ : St) (ρ : En) : Prop := ρ.length = σ.length ∧ ∀ (i : Nat) (d : D), ρ[i]? = some (some d) → ∃ v, σ[i]? = some (some v) ∧ Rep K H v d
theorem RepS.mono {K : PySem.W.Frag} {H H' : Hp} {σ : St} {ρ : En} (r : RepS K H σ ρ) (e : Same H H') : RepS K H' σ ρ :=
  ⟨r.1, fun i d h => let ⟨v, h1, h2⟩ := r.2 i d h; ⟨v, h1, h2.mono e⟩⟩
theorem RepS.set {K : PySem.W.Frag} {H : Hp} {σ : St} {ρ : En} {v : V} {d : D} (r : RepS K H σ ρ) (h : Rep K H v d) (i : Nat) : RepS K H (σ.set i (some v)) (ρ.set i (some d)) := by
  refine ⟨by simp [r.1], fun j e he => ?_⟩
  rw [List.getElem?_set] at he ⊢
  by_cases c : i = j
  · rw [if_pos c] at he ⊢
    by_cases hl : i < ρ.length
    · rw [if_pos hl] at he
      rw [if_pos (by rw [← r.1]; exact hl)]
      simp only [Option.some.injEq] at he
      subst he
      exact ⟨v, rfl, h⟩
    · rw [if_neg hl] at he; cases he
  · rw [if_neg c] at he ⊢
    exact r.2 j e he

/-- an end: the value bears the datum -/
def FP (X : Cx) (pins : List (Addr × Obj)) (σ : St) (H : Hp) (d : D) (u : Value) (s' : Shared) : Prop := ∃ v H', Inv X pins σ H' s' ∧ RelV v u ∧ Same H H' ∧ Rep X.K H' v d
def FExR (X : Cx) (e : Expr) (f : FE) : Prop :=
  ∀ (pins : List (Addr × Obj)) (s : Shared) (σ : St) (H : Hp) (ρ : En) (d : D), Inv X pins σ H s → RepS X.K H σ ρ → f ρ = some d → wpAny (model X.prog X.w) X.A (eval e X.env) (FP X pins σ H d) X.xe s
structure FEx (X : Cx) (e : Expr) (f : FE) : Prop where
  go : FExR X e f
instance {X : Cx} {e : Expr} {f : FE} : CoeFun (FEx X e f) (fun _ => FExR X e f) := ⟨fun h => h.go⟩
def TPx (X : Cx) (pins : List (Addr × Obj)) (σ : St) (H : Hp) (b : Bool) (c : Bool) (s' : Shared) : Prop := c = b ∧ ∃ H', Inv X pins σ H' s' ∧ Same H H'
def FTxR (X : Cx) (e : Expr) (f : FT) : Prop :=
  ∀ (pins : List (Addr × Obj)) (s : Shared) (σ : St) (H : Hp) (ρ : En) (b : Bool), Inv X pins σ H s → RepS X.K H σ ρ → f ρ = some b → wpAny (model X.prog X.w) X.A (isTrue e X.env (eval e X.env)) (TPx X pins σ H b) X.xe s
structure FTx (X : Cx) (e : Expr) (f : FT) : Prop where
  go : FTxR X e f
instance {X : Cx} {e : Expr} {f : FT} : CoeFun (FTx X e f) (fun _ => FTxR X e f) := ⟨fun h => h.go⟩
def FWxR (X : Cx) (e : Expr) (f : FT) : Prop :=
  ∀ (whole : Sem Value) (pins : List (Addr × Obj)) (s : Shared) (σ : St) (H : Hp) (ρ : En) (b : Bool), Inv X pins σ H s → RepS X.K H σ ρ → f ρ = some b → wpAny (model X.prog X.w) X.A (isTrue e X.env whole) (TPx X pins σ H b) X.xe s
structure FWx (X : Cx) (e : Expr) (f : FT) : Prop where
  go : FWxR X e f
instance {X : Cx} {e : Expr} {f : FT} : CoeFun (FWx X e f) (fun _ => FWxR X e f) := ⟨fun h => h.go⟩
theorem FWx.pt {X : Cx} {e : Expr} {f : FT} (h : FWx X e f) : FTx X e f := ⟨h.go _⟩
def FPs (X : Cx) (pins : List (Addr × Obj)) (σ : St) (H : Hp) (ds : List D) (us : List Value) (s' : Shared) : Prop := ∃ vs H', Inv X pins σ H' s' ∧ Vals vs us ∧ Same H H' ∧ Reps X.K H' vs ds
def FAxR (X : Cx) (es : List Expr) (f : FA) : Prop :=
  ∀ (pos : Pos) (pins : List (Addr × Obj)) (s : Shared) (σ : St) (H : Hp) (ρ : En) (ds : List D), Inv X pins σ H s → RepS X.K H σ ρ → f ρ = some ds → wpAny (model X.prog X.w) X.A (spliced (backTo pos (starEach es X.env))) (FPs X pins σ H ds) X.xe s
structure FAx (X : Cx) (es : List Expr) (f : FA) : Prop where
  go : FAxR X es f
instance {X : Cx} {es : List Expr} {f : FA} : CoeFun (FAx X es f) (fun _ => FAxR X es f) := ⟨fun h => h.go⟩

/-- from the layer's reading -/
theorem FEx.of {X : Cx} {e : Expr} {f : FE} {t : TE} (h : PE X e t) (hq : ∀ σ H ρ d, RepS X.K H σ ρ → f ρ = some d → t σ H fun v H' => Same H H' ∧ Rep X.K H' v d) : FEx X e f :=
  ⟨fun pins s σ H ρ d I r ef => thn (h pins s σ H _ I (hq σ H ρ d r ef)) fun u s' ⟨v, H', I', rv, a, b⟩ => ⟨v, H', I', rv, a, b⟩⟩
/-- to the layer's reading -/
def tF (K : PySem.W.Frag) (f : FE) : TE := fun σ H Q => ∃ (ρ : En) (d : D), RepS K H σ ρ ∧ f ρ = some d ∧ ∀ v H', Same H H' → Rep K H' v d → Q v H'
theorem FEx.pe {X : Cx} {e : Expr} {f : FE} (h : FEx X e f) : PE X e (tF X.K f) := fun pins s σ H Q I ⟨ρ, d, r, ef, q⟩ =>
  thn (h pins s σ H ρ d I r ef) fun u s' ⟨v, H', I', rv, a, b⟩ => ⟨v, H', I', rv, q v H' a b⟩
def tFA (K : PySem.W.Frag) (f : FA) : TA := fun σ H Q => ∃ (ρ : En) (ds : List D), RepS K H σ ρ ∧ f ρ = some ds ∧ ∀ vs H', Same H H' → Reps K H' vs ds → Q vs H'
theorem FAx.pa {X : Cx} {es : List Expr} {f : FA} (h : FAx X es f) : PA X es (tFA X.K f) := fun pos pins s σ H Q I ⟨ρ, ds, r, ef, q⟩ =>
  thn (h pos pins s σ H ρ ds I r ef) fun us s' ⟨vs, H', I', rv, a, b⟩ => ⟨vs, H', I', rv, q vs H' a b⟩

section
variable {X : Cx} {a b : Expr} {fa fb : FE} {pos : Pos}

theorem fe_var (i : Nat) {x : Str} {pos : Pos} (hN : X.N[i]? = some x := by rfl) (hv : Vis X.env.scope x := by first | exact Or.inl rfl | exact Or.inr (Or.inl rfl) | exact Or.inr (Or.inr rfl)) (hd : (x == ("__debug__" : Str)) = false := by decide)
    (hcd : (x == ("__classdict__" : Str)) = false := by decide) : FEx X (.Name x pos) (eVar i) := by
  refine FEx.of (pe_var hN hv hd hcd) fun σ H ρ d r e => ?_
  have e' : ρ[i]? = some (some d) := by
    simp only [eVar] at e
    cases h : ρ[i]? with
    | none => rw [h] at e; cases e
    | some o => rw [h] at e; simp only [Option.bind_some, id] at e; rw [e]
  obtain ⟨v, h1, h2⟩ := r.2 i d e'
  exact ⟨v, h1, Same.refl _, h2⟩
theorem fe_c {e : Expr} {v : V} {d : D} (h : PE X e (tC v)) (hr : ∀ H, Rep X.K H v d) : FEx X e (eC d) := FEx.of h fun σ H ρ d' r e => by
  simp only [eC, Option.some.injEq] at e
  subst e
  exact ⟨Same.refl _, hr H⟩
theorem fe_int {i : Int} {j : Nat} {pos : Pos} : FEx X (.Constant (.int i) j pos) (eC (.int i)) := fe_c pe_int fun _ => .int i
theorem fe_bl {c : Bool} {j : Nat} {pos : Pos} : FEx X (.Constant (.bool c) j pos) (eC (.bool c)) := fe_c pe_bl fun _ => .bl c
theorem fe_non {j : Nat} {pos : Pos} : FEx X (.Constant .none j pos) (eC .none) := fe_c pe_non fun _ => .non
theorem fe_str {x : Str} {j : Nat} {pos : Pos} : FEx X (.Constant (.str x) j pos) (eC (.str x)) := fe_c pe_str fun _ => .str x
/-- a constant of the top -/
structure Gc (K : PySem.W.Frag) (mg : Str → Option Value) (x : Str) (d : D) : Prop where
  ex : ∃ (u : Value) (v : V), mg x = some u ∧ RelV v u ∧ ∀ H, Rep K H v d
theorem fe_glob {x : Str} {d : D} (hg : Gl X x) (h : Gc X.K X.mg x d) (hd : (x == ("__debug__" : Str)) = false := by decide) : FEx X (.Name x pos) (eC d) := by
  obtain ⟨u, v, h1, h2, h3⟩ := h.ex
  exact fe_c (pe_glob hg h1 h2 hd) h3

def OpD (X : Cx) (f : Value → Value → Sem Value) (g : D → D → Option D) : Prop :=
  ∀ (pins : List (Addr × Obj)) (s : Shared) (σ : St) (H : Hp) (x y : V) (u v : Value) (dx dy d : D), Inv X pins σ H s → RelV x u → RelV y v → Rep X.K H x dx → Rep X.K H y dy → g dx dy = some d →
    wpAny (model X.prog X.w) X.A (f u v) (FP X pins σ H d) X.xe s
theorem fin {pins : List (Addr × Obj)} {σ : St} {H : Hp} {s : Shared} {d : D} {t : Sem Value} (h : wpAny (model X.prog X.w) X.A t (EP X pins σ fun v H' => Same H H' ∧ Rep X.K H' v d) X.xe s) : wpAny (model X.prog X.w) X.A t (FP X pins σ H d) X.xe s :=
  thn h fun u s' ⟨v, H', I', rv, a, b⟩ => ⟨v, H', I', rv, a, b⟩
theorem OpD.of {f : Value → Value → Sem Value} {r : R2} {g : D → D → Option D} (h : OpR X f r) (hr : ∀ H x y dx dy d, Rep X.K H x dx → Rep X.K H y dy → g dx dy = some d → r x y H fun v H' => Same H H' ∧ Rep X.K H' v d) : OpD X f g :=
  fun pins s σ H x y u v dx dy d I rx ry px py e => fin (h pins s σ H x y u v _ I rx ry (hr H x y dx dy d px py e))
theorem fbin {g : D → D → Option D} {α : Type} (ha : FEx X a fa) (hb : FEx X b fb) {pins : List (Addr × Obj)} {s : Shared} {σ : St} {H : Hp} {ρ : En} {d : D} (I : Inv X pins σ H s) (r : RepS X.K H σ ρ) (e : eBin g fa fb ρ = some d)
    {Q : α → Shared → Prop} {f : Value → Value → Sem α}
    (hf : ∀ u v s2 x y H2 dx dy, Inv X pins σ H2 s2 → RelV x u → RelV y v → Same H H2 → Rep X.K H2 x dx → Rep X.K H2 y dy → g dx dy = some d → wpAny (model X.prog X.w) X.A (f u v) Q X.xe s2) :
    wpAny (model X.prog X.w) X.A (eval a X.env) (fun v s₁ => wpAny (model X.prog X.w) X.A (eval b X.env) (fun u s₂ => wpAny (model X.prog X.w) X.A (f v u) Q X.xe s₂) X.xe s₁) X.xe s := by
  simp only [eBin] at e
  obtain ⟨dx, ea, e⟩ := Option.bind_eq_some_iff.mp e
  obtain ⟨dy, eb, e⟩ := Option.bind_eq_some_iff.mp e
  refine thn (ha pins s σ H ρ dx I r ea) fun u s1 ⟨x, H1, I1, r1, m1, p1⟩ => ?_
  refine thn (hb pins s1 σ H1 ρ dy I1 (r.mono m1) eb) fun v s2 ⟨y, H2, I2, r2, m2, p2⟩ => ?_
  exact hf u v s2 x y H2 dx dy I2 r1 r2 (m1.trans m2) (p1.mono m2) p2 e
theorem FP.up {pins : List (Addr × Obj)} {σ : St} {H H2 : Hp} {d : D} {u : Value} {s' : Shared} (m : Same H H2) (h : FP X pins σ H2 d u s') : FP X pins σ H d u s' :=
  let ⟨v, H', I', rv, a, b⟩ := h; ⟨v, H', I', rv, m.trans a, b⟩
theorem fe_op {op : Operator} {g : D → D → Option D} (ho : OpD X (binaryOp op) g) (ha : FEx X a fa) (hb : FEx X b fb) : FEx X (.BinOp a op b pos) (eBin g fa fb) := by
  refine ⟨fun pins s σ H ρ d I r e => ?_⟩
  exact wpAny_BinOp (fbin ha hb I r e fun u v s2 x y H2 dx dy I2 rx ry m px py e' => thn (ho pins s2 σ H2 x y u v dx dy d I2 rx ry px py e') fun _ _ h => h.up m)
theorem fe_cmp {op : CmpOp} {g : D → D → Option D} (ho : OpD X (compareOp op) g) (ha : FEx X a fa) (hb : FEx X b fb) (hm : behindInMarks op b = false) : FEx X (.Compare a [op] [b] pos) (eBin g fa fb) := by
  refine ⟨fun pins s σ H ρ d I r e => ?_⟩
  exact wpAny_Compare1 (fbin ha hb I r e fun u v s2 x y H2 dx dy I2 rx ry m px py e' => thn (ho pins s2 σ H2 x y u v dx dy d I2 rx ry px py e') fun _ _ h => h.up m) hm
theorem tru {pins : List (Addr × Obj)} {σ : St} {H : Hp} {d : D} {b : Bool} {u : Value} {s' : Shared} (h : FP X pins σ H d u s') (e : boolOf d = some b) : wpAny (model X.prog X.w) X.A (truthy u) (TPx X pins σ H b) X.xe s' := by
  obtain ⟨v, H', I', rv, m, p⟩ := h
  cases p <;> simp only [boolOf] at e <;> try contradiction
  cases rv
  simp only [Option.some.injEq] at e
  subst e
  exact wpAny_truthy_bool ⟨rfl, H', I', m⟩
theorem ft_cmp {op : CmpOp} {g : D → D → Option D} (ho : OpD X (compareOp op) g) (ha : FEx X a fa) (hb : FEx X b fb) (hm : behindInMarks op b = false) : FTx X (.Compare a [op] [b] pos) (tVal (eBin g fa fb)) := by
  refine ⟨fun pins s σ H ρ c I r e => ?_⟩
  simp only [tVal] at e
  obtain ⟨d, ed, e⟩ := Option.bind_eq_some_iff.mp e
  exact wpAny_isTrue_Compare1 (fbin ha hb I r ed fun u v s2 x y H2 dx dy I2 rx ry m px py e' => thn (ho pins s2 σ H2 x y u v dx dy d I2 rx ry px py e') fun _ _ h => tru (h.up m) e) hm
theorem fe_un {op : UnaryOp} {g : D → Option D} (ho : ∀ (pins : List (Addr × Obj)) (s : Shared) (σ : St) (H : Hp) (x : V) (u : Value) (dx d : D), Inv X pins σ H s → RelV x u → Rep X.K H x dx → g dx = some d → wpAny (model X.prog X.w) X.A (unaryOp op u) (FP X pins σ H d) X.xe s)
    (ha : FEx X a fa) : FEx X (.UnaryOp op a pos) (eUn g fa) := by
  refine ⟨fun pins s σ H ρ d I r e => ?_⟩
  simp only [eUn] at e
  obtain ⟨dx, ea, e⟩ := Option.bind_eq_some_iff.mp e
  refine UnaryOp_ (thn (ha pins s σ H ρ dx I r ea) fun u s1 ⟨x, H1, I1, r1, m1, p1⟩ => ?_)
  exact thn (ho pins s1 σ H1 x u dx d I1 r1 p1 e) fun _ _ h => h.up m1
theorem un_negD (pins : List (Addr × Obj)) (s : Shared) (σ : St) (H : Hp) (x : V) (u : Value) (dx d : D) (I : Inv X pins σ H s) (r : RelV x u) (p : Rep X.K H x dx) (e : negD dx = some d) : wpAny (model X.prog X.w) X.A (unaryOp .USub u) (FP X pins σ H d) X.xe s := by
  cases p <;> simp only [negD] at e <;> try contradiction
  simp only [Option.some.injEq] at e
  subst e
  exact fin (un_neg pins s σ H _ u _ I r ⟨_, rfl, Same.refl _, .int _⟩)
/-- is None, is not None -/
theorem rep_non {K : PySem.W.Frag} {H : Hp} {x : V} {d : D} (p : Rep K H x d) : isND d = some (.bool (decide (x = .non))) ∧ notND d = some (.bool (!decide (x = .non))) := by
  cases p <;> simp [isND, notND]
theorem fe_notN {j : Nat} {pos' : Pos} (ha : FEx X a fa) : FEx X (.Compare a [.IsNot] [.Constant .none j pos'] pos) (eUn notND fa) := by
  refine FEx.of (pe_cmp (pc_notN ha.pe) (nobehind _ (by decide) (by decide))) fun σ H ρ d r e => ?_
  simp only [eUn] at e
  obtain ⟨dx, ea, e⟩ := Option.bind_eq_some_iff.mp e
  refine ⟨ρ, dx, r, ea, fun v H' m p => ⟨m, ?_⟩⟩
  rw [(rep_non p).2] at e
  cases e
  exact .bl _
theorem FTx.of {e : Expr} {f : FT} {t : TT} (h : PT X e t) (hq : ∀ σ H ρ b, RepS X.K H σ ρ → f ρ = some b → t σ H fun c H' => c = b ∧ Same H H') : FTx X e f :=
  ⟨fun pins s σ H ρ b I r ef => thn (h pins s σ H _ I (hq σ H ρ b r ef)) fun c s' ⟨H', I', a, m⟩ => ⟨a, H', I', m⟩⟩
theorem ft_isN {j : Nat} {pos' : Pos} (ha : FEx X a fa) : FTx X (.Compare a [.Is] [.Constant .none j pos'] pos) (tVal (eUn isND fa)) := by
  refine FTx.of (pt_cmp (pc_isN ha.pe) (nobehind _ (by decide) (by decide))) fun σ H ρ c r e => ?_
  simp only [tVal, eUn] at e
  obtain ⟨d, ed, e⟩ := Option.bind_eq_some_iff.mp e
  obtain ⟨dx, ea, ed⟩ := Option.bind_eq_some_iff.mp ed
  refine ⟨ρ, dx, r, ea, fun v H' m p => ?_⟩
  rw [(rep_non p).1] at ed
  cases ed
  simp only [boolOf, Option.some.injEq] at e
  exact ⟨_, rfl, e, m⟩
theorem ft_notN {j : Nat} {pos' : Pos} (ha : FEx X a fa) : FTx X (.Compare a [.IsNot] [.Constant .none j pos'] pos) (tVal (eUn notND fa)) := by
  refine FTx.of (pt_cmp (pc_notN ha.pe) (nobehind _ (by decide) (by decide))) fun σ H ρ c r e => ?_
  simp only [tVal, eUn] at e
  obtain ⟨d, ed, e⟩ := Option.bind_eq_some_iff.mp e
  obtain ⟨dx, ea, ed⟩ := Option.bind_eq_some_iff.mp ed
  refine ⟨ρ, dx, r, ea, fun v H' m p => ?_⟩
  rw [(rep_non p).2] at ed
  cases ed
  simp only [boolOf, Option.some.injEq] at e
  exact ⟨_, rfl, e, m⟩
theorem ft_val {e : Expr} {f : FE} (h : FEx X e f) (he : ∀ whole, isTrue e X.env whole = (do let v ← whole; standAt e.pos; holding [v] (truthy v)) := by intro _; rfl) : FTx X e (tVal f) := by
  refine ⟨fun pins s σ H ρ c I r ef => ?_⟩
  simp only [tVal] at ef
  obtain ⟨d, ed, ef⟩ := Option.bind_eq_some_iff.mp ef
  exact isTrue_plain (thn (h pins s σ H ρ d I r ed) fun u s1 q => tru q ef) (he _)
variable {ta tb : FT} {rest : List Expr}
theorem TPx.up {pins : List (Addr × Obj)} {σ : St} {H H2 : Hp} {b c : Bool} {s' : Shared} (m : Same H H2) (h : TPx X pins σ H2 b c s') : TPx X pins σ H b c s' :=
  let ⟨e, H', I', a⟩ := h; ⟨e, H', I', m.trans a⟩
theorem fw_and1 (ha : FTx X a ta) : FWx X (.BoolOp .And [a] pos) ta := by
  refine ⟨fun wh pins s σ H ρ c I r e => ?_⟩
  refine isTrue_and (thn (ha pins s σ H ρ c I r e) fun c' s1 h => ?_)
  cases c' with
  | true => exact isTrue_and_nil h
  | false => exact h
theorem fw_or1 (ha : FTx X a ta) : FWx X (.BoolOp .Or [a] pos) ta := by
  refine ⟨fun wh pins s σ H ρ c I r e => ?_⟩
  refine isTrue_or (thn (ha pins s σ H ρ c I r e) fun c' s1 h => ?_)
  cases c' with
  | false => exact isTrue_or_nil h
  | true => exact h
theorem fw_and (ha : FTx X a ta) (hb : FWx X (.BoolOp .And (b :: rest) pos) tb) : FWx X (.BoolOp .And (a :: b :: rest) pos) (FD.tAnd ta tb) := by
  refine ⟨fun wh pins s σ H ρ c I r e => ?_⟩
  simp only [FD.tAnd] at e
  obtain ⟨c1, e1, e⟩ := Option.bind_eq_some_iff.mp e
  refine isTrue_and (thn (ha pins s σ H ρ c1 I r e1) fun c' s1 ⟨ec, H1, I1, m1⟩ => ?_)
  subst ec
  cases c' with
  | true => exact thn (hb wh pins s1 σ H1 ρ c I1 (r.mono m1) (by simpa using e)) fun _ _ h => h.up m1
  | false =>
    have e' : false = c := by simpa using e
    exact ⟨e', H1, I1, m1⟩
theorem fw_or (ha : FTx X a ta) (hb : FWx X (.BoolOp .Or (b :: rest) pos) tb) : FWx X (.BoolOp .Or (a :: b :: rest) pos) (FD.tOr ta tb) := by
  refine ⟨fun wh pins s σ H ρ c I r e => ?_⟩
  simp only [FD.tOr] at e
  obtain ⟨c1, e1, e⟩ := Option.bind_eq_some_iff.mp e
  refine isTrue_or (thn (ha pins s σ H ρ c1 I r e1) fun c' s1 ⟨ec, H1, I1, m1⟩ => ?_)
  subst ec
  cases c' with
  | false => exact thn (hb wh pins s1 σ H1 ρ c I1 (r.mono m1) (by simpa using e)) fun _ _ h => h.up m1
  | true =>
    have e' : true = c := by simpa using e
    exact ⟨e', H1, I1, m1⟩
theorem ft_not (ha : FTx X a ta) : FTx X (.UnaryOp .Not a pos) (FD.tNot ta) := by
  refine ⟨fun pins s σ H ρ c I r e => ?_⟩
  simp only [FD.tNot] at e
  obtain ⟨c1, e1, e⟩ := Option.bind_eq_some_iff.mp e
  simp only [Option.some.injEq] at e
  refine isTrue_not (thn (ha pins s σ H ρ c1 I r e1) fun c' s1 ⟨ec, H1, I1, m1⟩ => ?_)
  exact ⟨by rw [ec]; exact e, H1, I1, m1⟩
theorem fe_one {op : BoolOp} {f : FE} (h : FEx X a f) : FEx X (.BoolOp op [a] pos) f := ⟨fun pins s σ H ρ d I r e => BoolOp_one (h pins s σ H ρ d I r e)⟩
theorem of_boolOf {K : PySem.W.Frag} {H : Hp} {v : V} {d : D} {c : Bool} (p : Rep K H v d) (e : boolOf d = some c) : v = .bl c := by
  cases p <;> simp only [boolOf] at e <;> first | contradiction | (simp only [Option.some.injEq] at e; rw [e])
theorem fe_and (ha : FEx X a fa) (hb : FEx X (.BoolOp .And (b :: rest) pos) fb) : FEx X (.BoolOp .And (a :: b :: rest) pos) (eAnd fa fb) := by
  refine ⟨fun pins s σ H ρ d I r e => ?_⟩
  simp only [eAnd] at e
  obtain ⟨c, ec, e⟩ := Option.bind_eq_some_iff.mp e
  obtain ⟨dx, ea, ec⟩ := Option.bind_eq_some_iff.mp ec
  refine BoolOp_and (thn (ha pins s σ H ρ dx I r ea) fun u s1 ⟨x, H1, I1, r1, m1, p1⟩ => ?_)
  obtain rfl := of_boolOf p1 ec
  cases r1
  refine wpAny_truthy_bool ?_
  cases c with
  | true => exact thn (hb pins s1 σ H1 ρ d I1 (r.mono m1) (by simpa using e)) fun _ _ h => h.up m1
  | false =>
    have e' : PyData.bool false = d := by simpa using e
    subst e'
    exact ⟨.bl false, H1, I1, rfl, m1, .bl _⟩
theorem fe_or (ha : FEx X a fa) (hb : FEx X (.BoolOp .Or (b :: rest) pos) fb) : FEx X (.BoolOp .Or (a :: b :: rest) pos) (eOr fa fb) := by
  refine ⟨fun pins s σ H ρ d I r e => ?_⟩
  simp only [eOr] at e
  obtain ⟨c, ec, e⟩ := Option.bind_eq_some_iff.mp e
  obtain ⟨dx, ea, ec⟩ := Option.bind_eq_some_iff.mp ec
  refine BoolOp_or (thn (ha pins s σ H ρ dx I r ea) fun u s1 ⟨x, H1, I1, r1, m1, p1⟩ => ?_)
  obtain rfl := of_boolOf p1 ec
  cases r1
  refine wpAny_truthy_bool ?_
  cases c with
  | false => exact thn (hb pins s1 σ H1 ρ d I1 (r.mono m1) (by simpa using e)) fun _ _ h => h.up m1
  | true =>
    have e' : PyData.bool true = d := by simpa using e
    subst e'
    exact ⟨.bl true, H1, I1, rfl, m1, .bl _⟩
end
end FD
end
section
set_option Elab.async false
set_option linter.all false
set_option maxRecDepth 100000
set_option maxHeartbeats 4000000
namespace FD
open PySem PySem.Spec PyProof.Rows L2
section
variable {X : Cx} {a b : Expr} {fa fb : FE} {pos : Pos}

theorem le_line {n : Nat} (h : n ≤ 1000) : n ≤ sizeLine := Nat.le_of_lt (small1000 h)
theorem fI {f : Value → Value → Sem Value} {C : Int → Int → Prop} {gv : Int → Int → V} {g : D → D → Option D} (h : OpR X f (rI C gv))
    (hg : ∀ H x y dx dy d, Rep X.K H x dx → Rep X.K H y dy → g dx dy = some d → ∃ i j, x = .int i ∧ y = .int j ∧ C i j ∧ Rep X.K H (gv i j) d) : OpD X f g :=
  OpD.of h fun H x y dx dy d px py e => let ⟨i, j, e1, e2, c, p⟩ := hg H x y dx dy d px py e; ⟨i, j, e1, e2, c, Same.refl _, p⟩
theorem fI0 {f : Value → Value → Sem Value} {gv : Int → Int → V} {g : D → D → Option D} (h : OpR X f (rI0 gv))
    (hg : ∀ H x y dx dy d, Rep X.K H x dx → Rep X.K H y dy → g dx dy = some d → ∃ i j, x = .int i ∧ y = .int j ∧ Rep X.K H (gv i j) d) : OpD X f g :=
  OpD.of h fun H x y dx dy d px py e => let ⟨i, j, e1, e2, p⟩ := hg H x y dx dy d px py e; ⟨i, j, e1, e2, Same.refl _, p⟩
theorem op_subD : OpD X (binaryOp .Sub) subD := fI0 op_sub fun H x y dx dy d px py e => by
  cases px <;> cases py <;> simp only [subD] at e <;> first | contradiction | (cases e; exact ⟨_, _, rfl, rfl, .int _⟩)
theorem op_fdivD : OpD X (binaryOp .FloorDiv) fdivD := fI op_fdiv fun H x y dx dy d px py e => by
  cases px <;> cases py <;> simp only [fdivD] at e <;> first | contradiction | skip
  split at e
  · rename_i hc; cases e; exact ⟨_, _, rfl, rfl, hc, .int _⟩
  · exact nomatch e
theorem op_modD : OpD X (binaryOp .Mod) modD := fI op_mod fun H x y dx dy d px py e => by
  cases px <;> cases py <;> simp only [modD] at e <;> first | contradiction | skip
  split at e
  · rename_i hc; cases e; exact ⟨_, _, rfl, rfl, hc, .int _⟩
  · exact nomatch e
theorem bits_500 {i : Int} (h : i.natAbs < 2 ^ 500) : Builtin.Int.intBits i ≤ 2 ^ 20 := by
  unfold Builtin.Int.intBits
  split
  · exact Nat.zero_le _
  · rename_i hz
    have hz' : i.natAbs ≠ 0 := by
      intro z
      have : i = 0 := Int.natAbs_eq_zero.mp z
      simp [this] at hz
    have h1 : i.natAbs.log2 < 500 := (Nat.log2_lt hz').mpr h
    have e : (2 : Nat) ^ 20 = 1048576 := by decide
    omega
theorem okMul_ok {i j : Int} (h : okMul i j = true) : IntMulOk i j := by
  simp only [okMul, Bool.or_eq_true, Bool.and_eq_true, decide_eq_true_eq] at h
  rcases h with (h | h) | ⟨h1, h2⟩
  · exact IntMulOk.of_left (intBits_le_64 (by omega) (by omega))
  · exact IntMulOk.of_right (intBits_le_64 (by omega) (by omega))
  · exact IntMulOk.of_bits (bits_500 h1) (bits_500 h2)
theorem op_mulD : OpD X (binaryOp .Mult) mulD := by
  intro pins s σ H x y u v dx dy d I rx ry px py e
  cases px <;> cases py <;> simp only [mulD] at e <;> first | contradiction | skip
  split at e
  · rename_i hc
    cases e
    obtain ⟨t, rfl⟩ := rx
    obtain ⟨t', rfl⟩ := ry
    exact mul_int ⟨.int _, H, I.tok _, ⟨_, rfl⟩, Same.refl _, .int _⟩ (okMul_ok hc)
  · exact nomatch e
theorem rep_new_lst {K : PySem.W.Frag} {H : Hp} {p : Addr} {xs : List V} {ds : List D} (hp : H p = none) (r : Reps K H xs ds) : Rep K (upd H p (.lst xs)) (.ref p) (.list ds) := .lst (SqL.of upd_same) (r.mono (same_new hp _))
theorem rep_new_tup {K : PySem.W.Frag} {H : Hp} {p : Addr} {xs : List V} {ds : List D} (hp : H p = none) (r : Reps K H xs ds) : Rep K (upd H p (.tup xs)) (.ref p) (.tuple ds) := .tup (SqT.of upd_same) (r.mono (same_new hp _))
/-- a new tuple, a new list laid -/
theorem laid_tup {pins : List (Addr × Obj)} {σ : St} {H : Hp} {s : Shared} {xs : List V} {us : List Value} {ds : List D} (I : Inv X pins σ H s) (r : Vals xs us) (p : Reps X.K H xs ds) (hz : xs.length ≤ sizeLine) :
    FP X pins σ H (.tuple ds) (.ref s.heap.objs.size) { s with heap := s.heap.push { cls := .type "tuple", data := .seq us.toArray } } :=
  ⟨.ref s.heap.objs.size, upd H s.heap.objs.size (.tup xs), I.laid (t' := s.toks) (fun b ob q => Heap.get?_push_of_some _ q) (Nat.le_refl _) ⟨hz, _, r, IsTup.new _ _⟩, rfl, same_new (I.hok.fresh (Nat.le_refl _)) _, rep_new_tup (I.hok.fresh (Nat.le_refl _)) p⟩
theorem laid_lst {pins : List (Addr × Obj)} {σ : St} {H : Hp} {s : Shared} {xs : List V} {us : List Value} {ds : List D} (I : Inv X pins σ H s) (r : Vals xs us) (p : Reps X.K H xs ds) (hz : xs.length ≤ sizeLine) :
    FP X pins σ H (.list ds) (.ref s.heap.objs.size) { s with heap := s.heap.push { cls := .type "list", data := .seq us.toArray } } :=
  ⟨.ref s.heap.objs.size, upd H s.heap.objs.size (.lst xs), I.laid (t' := s.toks) (fun b ob q => Heap.get?_push_of_some _ q) (Nat.le_refl _) ⟨hz, _, 0, r, Heap.get?_push_size _ rfl⟩, rfl, same_new (I.hok.fresh (Nat.le_refl _)) _, rep_new_lst (I.hok.fresh (Nat.le_refl _)) p⟩
theorem op_addD : OpD X (binaryOp .Add) addD := by
  intro pins s σ H x y u v dx dy d I rx ry px py e
  cases px <;> cases py <;> simp only [addD] at e <;> first | contradiction | skip
  · cases e
    exact fin (op_add pins s σ H _ _ u v _ I rx ry ⟨_, _, rfl, rfl, Same.refl _, .int _⟩)
  · split at e
    · rename_i hc
      cases e
      exact fin (op_add_str pins s σ H _ _ u v _ I rx ry ⟨_, _, rfl, rfl, le_line hc, Same.refl _, .str _⟩)
    · exact nomatch e
  · rename_i l1 xs1 ds1 h1 p1 l2 xs2 ds2 h2 p2
    split at e
    · rename_i hc
      cases e
      cases rx
      cases ry
      obtain ⟨its, r1, q1, z1⟩ := I.list h1
      obtain ⟨its2, r2, q2, z2⟩ := I.list h2
      have n1 := p1.length
      have n2 := p2.length
      have e1 := r1.length
      have e2 := r2.length
      have ea : its.toArray ++ its2.toArray = (its ++ its2).toArray := by simp
      obtain ⟨⟨cls, dd, data, sl⟩, ho, hc', n, hd⟩ := q1.isList
      obtain ⟨⟨cls2, dd2, data2, sl2⟩, ho2, hc2, m, hd2⟩ := q2.isList
      simp only at hc' hd hc2 hd2
      subst hc' hd hc2 hd2
      refine concat_meets ⟨_, ho, rfl⟩ ⟨_, ho2, rfl⟩ noFill_list_add seq_list_add PySem.F.slot_list_add PySem.F.entry_list_add (PySem.F.args_list_add_2 _ _) (list_addW l1 l2 its.toArray its2.toArray n m dd dd2 sl sl2 (by rw [List.size_toArray, List.size_toArray]; exact le_line (by omega))) ⟨ho, ho2, ?_⟩
      rw [ea]
      exact laid_lst I (r1.append r2) (p1.append p2) (by rw [List.length_append]; exact le_line (by omega))
    · exact nomatch e
  · rename_i l1 xs1 ds1 h1 p1 l2 xs2 ds2 h2 p2
    split at e
    · rename_i hc
      cases e
      have n1 := p1.length
      have n2 := p2.length
      cases rx
      cases ry
      obtain ⟨its, r1, q1, z1⟩ := I.tuple h1
      obtain ⟨its2, r2, q2, z2⟩ := I.tuple h2
      have e1 := r1.length
      have e2 := r2.length
      by_cases hz : its = []
      · subst hz
        cases r1
        cases p1
        obtain ⟨⟨cls, dd, data, sl⟩, ho, hc', n, hd⟩ := id q1
        obtain ⟨⟨cls2, dd2, data2, sl2⟩, ho2, hc2, m, hd2⟩ := id q2
        simp only at hc' hd hc2 hd2
        subst hc' hd hc2 hd2
        exact concat_meets ⟨_, ho, rfl⟩ ⟨_, ho2, rfl⟩ noFill_tuple_add seq_tuple_add PySem.F.slot_tuple_add PySem.F.entry_tuple_add (PySem.F.args_tuple_add_2 _ _) (tuple_addW0 l1 l2 _ its2.toArray n m dd dd2 sl sl2 (by simp))
          ⟨ho, ho2, ⟨.ref l2, H, I, rfl, Same.refl _, by rw [List.nil_append]; exact .tup h2 p2⟩⟩
      · refine HT.cat_tup q1 q2 hz (fun z => ?_) (fun z => ?_) (by rw [← e1, ← e2]; exact le_line (by omega))
        · subst z
          cases r2
          cases p2
          exact ⟨.ref l1, H, I, rfl, Same.refl _, by rw [List.append_nil]; exact .tup h1 p1⟩
        · exact laid_tup I (r1.append r2) (p1.append p2) (by rw [List.length_append]; exact le_line (by omega))
    · exact nomatch e
theorem op_ltD : OpD X (compareOp .Lt) ltD := fI0 op_lt fun H x y dx dy d px py e => by
  cases px <;> cases py <;> simp only [ltD, cmpD] at e <;> first | contradiction | (cases e; exact ⟨_, _, rfl, rfl, .bl _⟩)
theorem op_leD : OpD X (compareOp .LtE) leD := fI0 op_le fun H x y dx dy d px py e => by
  cases px <;> cases py <;> simp only [leD, cmpD] at e <;> first | contradiction | (cases e; exact ⟨_, _, rfl, rfl, .bl _⟩)
theorem op_gtD : OpD X (compareOp .Gt) gtD := fI0 op_gt fun H x y dx dy d px py e => by
  cases px <;> cases py <;> simp only [gtD, cmpD] at e <;> first | contradiction | (cases e; exact ⟨_, _, rfl, rfl, .bl _⟩)
theorem op_geD : OpD X (compareOp .GtE) geD := fI0 op_ge fun H x y dx dy d px py e => by
  cases px <;> cases py <;> simp only [geD, cmpD] at e <;> first | contradiction | (cases e; exact ⟨_, _, rfl, rfl, .bl _⟩)
theorem op_eqD (hu : X.A.units + 64 < cLine) : OpD X (compareOp .Eq) eqD := by
  intro pins s σ H x y u v dx dy d I rx ry px py e
  simp only [eqD] at e
  split at e
  · rename_i hk
    cases e
    simp only [okEq, Bool.and_eq_true, decide_eq_true_eq] at hk
    obtain ⟨as, ra⟩ := px.reads I rx
    obtain ⟨bs, rb⟩ := py.reads I ry
    exact PySem.SeqAt.compareEq_reads ra rb hk.1.1 hk.1.2 (by omega) ⟨.bl _, H, I, rfl, Same.refl _, .bl _⟩
  · exact nomatch e
theorem op_neD (hu : X.A.units + 64 < cLine) : OpD X (compareOp .NotEq) neD := by
  intro pins s σ H x y u v dx dy d I rx ry px py e
  simp only [neD] at e
  split at e
  · rename_i hk
    cases e
    simp only [okEq, Bool.and_eq_true, decide_eq_true_eq] at hk
    obtain ⟨as, ra⟩ := px.reads I rx
    obtain ⟨bs, rb⟩ := py.reads I ry
    exact PySem.SeqAt.compareNe_reads ra rb hk.1.1 hk.1.2 (by omega) ⟨.bl _, H, I, rfl, Same.refl _, .bl _⟩
  · exact nomatch e
def nostar : Expr → Bool
  | .Starred _ _ => false
  | _ => true
theorem star_no {e : Expr} {es : List Expr} {env : Env} (h : nostar e = true) : starEach (e :: es) env = (false, eval e env) :: starEach es env := by
  cases e <;> first | rfl | cases h
theorem back_no {p : Pos} {env : Env} : ∀ {es : List Expr}, es.all nostar = true → (backTo p (starEach es env)).any (·.1) = false
  | [], _ => rfl
  | e :: es, h => by
    simp only [List.all_cons, Bool.and_eq_true] at h
    have ih := back_no (p := p) (env := env) h.2
    rw [star_no h.1]
    simp only [backTo, List.map_cons, List.any_cons, Bool.false_or] at ih ⊢
    exact ih
theorem fa_nil : FAx X [] aNil := by
  refine ⟨fun pos pins s σ H ρ ds I r e => ?_⟩
  simp only [aNil, Option.some.injEq] at e
  subst e
  exact Calls.spliced_nil ⟨[], H, I, .nil, Same.refl _, .nil⟩
theorem fa_cons {e : Expr} {es : List Expr} {f : FE} {g : FA} (ha : FEx X e f) (hr : FAx X es g) (hs : nostar e = true := by rfl) : FAx X (e :: es) (aCons f g) := by
  refine ⟨fun pos pins s σ H ρ ds I r ef => ?_⟩
  simp only [aCons] at ef
  obtain ⟨d, e1, ef⟩ := Option.bind_eq_some_iff.mp ef
  obtain ⟨dr, e2, ef⟩ := Option.bind_eq_some_iff.mp ef
  cases ef
  rw [star_no hs]
  show wpAny _ _ (spliced ((false, eval e X.env) :: backTo pos (starEach es X.env))) _ _ s
  refine Calls.spliced_cons (thn (ha pins s σ H ρ d I r e1) fun u s1 ⟨x, H1, I1, r1, m1, p1⟩ => ?_)
  exact thn (hr pos pins s1 σ H1 ρ dr I1 (r.mono m1) e2) fun us s2 ⟨xs, H2, I2, r2, m2, p2⟩ => ⟨x :: xs, H2, I2, .cons r1 r2, m1.trans m2, .cons (p1.mono m2) p2⟩
theorem fe_tup {es : List Expr} {g : FA} {x1 : Nat} (h : FAx X es g) : FEx X (.Tuple es x1 pos) (eTup g) := by
  refine FEx.of (pe_tup h.pa) fun σ H ρ d r e => ?_
  simp only [eTup] at e
  obtain ⟨ds, e1, e⟩ := Option.bind_eq_some_iff.mp e
  split at e
  · rename_i hf
    cases e
    simp only [few, decide_eq_true_eq] at hf
    exact ⟨ρ, ds, r, e1, fun vs H' m p => ⟨le_line (by rw [p.length]; exact hf), fun q hq => ⟨m.trans (same_new hq _), rep_new_tup hq p⟩⟩⟩
  · exact nomatch e
theorem fe_lst {es : List Expr} {g : FA} (h : FAx X es g) : FEx X (.List es pos) (eLst g) := by
  refine FEx.of (pe_lst h.pa) fun σ H ρ d r e => ?_
  simp only [eLst] at e
  obtain ⟨ds, e1, e⟩ := Option.bind_eq_some_iff.mp e
  split at e
  · rename_i hf
    cases e
    simp only [few, decide_eq_true_eq] at hf
    exact ⟨ρ, ds, r, e1, fun vs H' m p => ⟨le_line (by rw [p.length]; exact hf), fun q hq => ⟨m.trans (same_new hq _), rep_new_lst hq p⟩⟩⟩
  · exact nomatch e

/-- what a def promises: F tells its answer -/
def spF (K : PySem.W.Frag) (F : List D → Option D) : Sp := fun vs H Q _ => ∃ ds d, Reps K H vs ds ∧ F ds = some d ∧ ∀ v H', Same H H' → Rep K H' v d → Q v H'
/-- a def of the text, as it is called -/
structure Kn (P : Program) (w : World) (K : PySem.W.Frag) (mg : Str → Option Value) (base : Heap) (k : Nat) (x : Str) (ps : List Str) (F : List D → Option D) : Prop where
  ex : ∃ (f : Addr) (fd : FuncData), FnOk P w K mg base CX0 k f fd ps (spF K F) ∧ mg x = some (.ref f) ∧ PySem.W.keepIn K (.ref f) = true ∧ Binds K fd ps []
theorem fe_call {k : Nat} {x : Str} {ps : List Str} {F : List D → Option D} {e : Expr} {es : List Expr} {g : FA} {p : Pos} (h : Kn X.prog X.w X.K X.mg X.base k x ps F) (hr : Room k X.A) (hg : Gl X x) (ha : FAx X (e :: es) g)
    (hdb : (x == ("__debug__" : Str)) = false := by decide) (he : nostar e = true := by rfl) (hpl : es.all nostar = true := by rfl) :
    FEx X (.Call (.Name x p) (e :: es) [] pos) (eCall F g) := by
  obtain ⟨f, fd, G, hm, hk, hb⟩ := h.ex
  refine FEx.of (pe_call G hr hg hm hk hb .nil pass0 ha.pa hdb (star_no he) (back_no hpl)) fun σ H ρ d r e => ?_
  simp only [eCall] at e
  obtain ⟨ds, e1, e⟩ := Option.bind_eq_some_iff.mp e
  refine ⟨ρ, ds, r, e1, fun vs H' m q => ?_⟩
  show spF X.K F (vs ++ []) H' (fun v H' => Same H H' ∧ Rep X.K H' v d) E0
  rw [List.append_nil]
  exact ⟨ds, d, q, e, fun v H2 m2 p2 => ⟨m.trans m2, p2⟩⟩
/-- a built-in by its values -/
def CbD (X : Cx) (f : Value) (g : List D → Option D) : Prop :=
  ∀ (pins : List (Addr × Obj)) (s : Shared) (σ : St) (H : Hp) (xs : List V) (us : List Value) (ds : List D) (d : D), Inv X pins σ H s → Vals xs us → Reps X.K H xs ds → g ds = some d → wpAny (model X.prog X.w) X.A (call f us) (FP X pins σ H d) X.xe s
theorem cbR {f : Value} {g : List D → Option D} (h : CbD X f g) : CallR X f (fun xs H Q => ∃ ds d, Reps X.K H xs ds ∧ g ds = some d ∧ ∀ v H', Same H H' → Rep X.K H' v d → Q v H') :=
  fun pins s σ H xs us Q I r ⟨ds, d, p, e, q⟩ => thn (h pins s σ H xs us ds d I r p e) fun u s' ⟨v, H', I', rv, m, pv⟩ => ⟨v, H', I', rv, q v H' m pv⟩
theorem fe_blt {id : String} {x : Str} {g : List D → Option D} {e : Expr} {es : List Expr} {ga : FA} {p : Pos} (hc : CbD X (.builtin id) g) (hg : Gl X x) (hm : X.mg x = none) (hv : bootBuiltins x = some (.builtin id)) (ha : FAx X (e :: es) ga) (hn : x ≠ "__name__" := by decide) (hdb : (x == ("__debug__" : Str)) = false := by decide)
    (he : nostar e = true := by rfl) (hpl : es.all nostar = true := by rfl) : FEx X (.Call (.Name x p) (e :: es) [] pos) (eCall g ga) := by
  refine FEx.of (pe_callB (cbR hc) hg hm hv ha.pa hn hdb (star_no he) (back_no hpl)) fun σ H ρ d r e => ?_
  simp only [eCall] at e
  obtain ⟨ds, e1, e⟩ := Option.bind_eq_some_iff.mp e
  exact ⟨ρ, ds, r, e1, fun vs H' m q => ⟨ds, d, q, e, fun v H2 m2 p2 => ⟨m.trans m2, p2⟩⟩⟩
theorem fe_typ {T : String} {x : Str} {g : List D → Option D} {e : Expr} {es : List Expr} {ga : FA} {p : Pos} (hc : CbD X (.type T) g) (hg : Gl X x) (hm : X.mg x = none) (hv : bootBuiltins x = some (.type T)) (ha : FAx X (e :: es) ga) (hn : x ≠ "__name__" := by decide) (hdb : (x == ("__debug__" : Str)) = false := by decide)
    (he : nostar e = true := by rfl) (hpl : es.all nostar = true := by rfl) : FEx X (.Call (.Name x p) (e :: es) [] pos) (eCall g ga) := by
  refine FEx.of (pe_callTy (cbR hc) hg hm hv ha.pa hn hdb (star_no he) (back_no hpl)) fun σ H ρ d r e => ?_
  simp only [eCall] at e
  obtain ⟨ds, e1, e⟩ := Option.bind_eq_some_iff.mp e
  exact ⟨ρ, ds, r, e1, fun vs H' m q => ⟨ds, d, q, e, fun v H2 m2 p2 => ⟨m.trans m2, p2⟩⟩⟩
theorem CbD.of {f : Value} {r : List V → Hp → VK → Prop} {g : List D → Option D} (h : CallR X f r) (hr : ∀ H xs ds d, Reps X.K H xs ds → g ds = some d → r xs H fun v H' => Same H H' ∧ Rep X.K H' v d) : CbD X f g :=
  fun pins s σ H xs us ds d I rv p e => fin (h pins s σ H xs us _ I rv (hr H xs ds d p e))
theorem cb_len : CbD X (.builtin "len") lenD := CbD.of (call_len_seq.or call_len_str) fun H xs ds d p e => by
  cases p with
  | nil => exact nomatch e
  | cons p1 p2 =>
    cases p2 with
    | cons _ _ => cases p1 <;> exact nomatch e
    | nil =>
      cases p1 <;> simp only [lenD] at e <;> first | contradiction | skip
      · split at e
        · rename_i hz; cases e; exact .inr ⟨_, rfl, le_line hz, Same.refl _, .int _⟩
        · exact nomatch e
      · rename_i h r; cases e; exact .inl ⟨_, _, rfl, .inl h, Same.refl _, by rw [r.length]; exact .int _⟩
      · rename_i h r; cases e; exact .inl ⟨_, _, rfl, .inr h, Same.refl _, by rw [r.length]; exact .int _⟩
theorem cb_int : CbD X (.type "int") intD := CbD.of call_int1 fun H xs ds d p e => by
  cases p with
  | nil => exact nomatch e
  | cons p1 p2 =>
    cases p2 with
    | cons _ _ => cases p1 <;> exact nomatch e
    | nil =>
      cases p1 <;> simp only [intD] at e <;> first | contradiction | skip
      · cases e; exact .inr ⟨_, rfl, Same.refl _, .int _⟩
      · cases e; exact .inl ⟨_, rfl, Same.refl _, .int _⟩
theorem cb_tuple : CbD X (.type "tuple") tupleD := CbD.of call_tuple_of fun H xs ds d p e => by
  cases p with
  | nil => exact nomatch e
  | cons p1 p2 =>
    cases p2 with
    | cons _ _ => cases p1 <;> exact nomatch e
    | nil =>
      cases p1 <;> simp only [tupleD] at e <;> first | contradiction | skip
      · rename_i h r; cases e; exact ⟨_, _, rfl, .inl ⟨h, fun l hl => ⟨same_new hl _, rep_new_tup hl r⟩⟩⟩
      · rename_i h r; cases e; exact ⟨_, _, rfl, .inr ⟨h, Same.refl _, .tup h r⟩⟩
theorem cb_isi {T : String} {t : Ty} (hT : ∀ (d : D) (tv : String), plainD d = true → (tv = match d with | .none => "NoneType" | .bool _ => "bool" | .int _ => "int" | .str _ => "str" | .list _ => "list" | .tuple _ => "tuple" | .dict _ => "dict") → PySem.W.kitOne X.K (.type tv) (.type T) = some (isiB t d))
    (pins : List (Addr × Obj)) (s : Shared) (σ : St) (H : Hp) (x : V) (u : Value) (dx d : D) (I : Inv X pins σ H s) (rx : RelV x u) (p : Rep X.K H x dx) (e : isiD t dx = some d) :
    wpAny (model X.prog X.w) X.A (call (.builtin "isinstance") [u, .type T]) (FP X pins σ H d) X.xe s := by
  simp only [isiD] at e
  split at e
  · rename_i hp
    cases e
    have done : ∀ tv, TyOf X.K H x (.type tv) → PySem.W.kitOne X.K (.type tv) (.type T) = some (isiB t dx) → wpAny (model X.prog X.w) X.A (call (.builtin "isinstance") [u, .type T]) (FP X pins σ H (.bool (isiB t dx))) X.xe s := fun tv ty hk =>
      isinst_ok I rx ty hk fun tk => ⟨.bl _, H, I.tok tk, rfl, Same.refl _, .bl _⟩
    cases p with
    | non => exact done _ .non (hT _ _ hp rfl)
    | bl b => exact done _ (.bl b) (hT _ _ hp rfl)
    | int i => exact done _ (.int i) (hT _ _ hp rfl)
    | str z => exact done _ (.str z) (hT _ _ hp rfl)
    | lst h r =>
      cases rx
      obtain ⟨its, _, ⟨o, n, e1, c1, _⟩, _⟩ := I.list h
      exact PySem.W.kia_one PySem.W.kitx_list I.kIn ⟨o, e1, c1⟩ (hT _ _ hp rfl) (fun z => nomatch z) fun tk => ⟨.bl _, H, I.tok tk, rfl, Same.refl _, .bl _⟩
    | tup h r =>
      cases rx
      obtain ⟨its, _, ⟨o, e1, c1, _⟩, _⟩ := I.tuple h
      exact PySem.W.kia_one PySem.W.kitx_tuple I.kIn ⟨o, e1, c1⟩ (hT _ _ hp rfl) (fun z => nomatch z) fun tk => ⟨.bl _, H, I.tok tk, rfl, Same.refl _, .bl _⟩
  · exact nomatch e
end
end FD
end
section
set_option Elab.async false
set_option linter.all false
set_option maxRecDepth 100000
set_option maxHeartbeats 4000000
namespace FD
open PySem PyProof.Rows PySem.Builtin PySem.Builtin.Str
theorem fm_range {α : Type} (l : List α) (a : Nat) : ∀ k : Nat, (List.range k).filterMap (fun m => l[a + m]?) = (l.drop a).take k
  | 0 => by simp
  | k + 1 => by
    rw [List.range_succ, List.filterMap_append, fm_range l a k, List.take_add_one, List.getElem?_drop]
    cases h : l[a + k]? <;> simp [h]
theorem slice_cut (x : Str) (lo hi : Option Int) : Txt.slice x lo hi = ⟨(cut x.cps.toList lo hi).toArray⟩ := by
  have key : ∀ (a b : Nat), strSliceIndices lo hi 1 x.length = (List.range (b - a)).map (fun k => a + k) → a = clip x.length 0 lo → b = clip x.length x.length hi → (⟨((strSliceIndices lo hi 1 x.length).filterMap (x.cps[·]?)).toArray⟩ : Str) = ⟨(cut x.cps.toList lo hi).toArray⟩ := fun a b h ha hb => by
    rw [h, List.filterMap_map]
    have e : ((fun y => x.cps[y]?) ∘ fun k => a + k) = fun m => x.cps.toList[a + m]? := by funext m; simp
    rw [e, fm_range]
    have hl : x.cps.toList.length = x.length := by simp [Str.length]
    simp only [cut, hl, ← ha, ← hb]
  have hidx : strSliceIndices lo hi 1 x.length = (List.range (clip x.length x.length hi - clip x.length 0 lo)).map (fun k => clip x.length 0 lo + k) := by
    have e1 : ∀ (o : Option Int) (d : Nat), d ≤ x.length → (match o with | none => (d : Int) | some i => max 0 (min (if i < 0 then i + (x.length : Int) else i) (x.length : Int))) = ((clip x.length d o : Nat) : Int) := fun o d hd => by
      cases o with
      | none => rfl
      | some i =>
        simp only [clip]
        split <;> omega
    have h0 := e1 lo 0 (Nat.zero_le _)
    have hn := e1 hi x.length (Nat.le_refl _)
    have hs : strSliceIndices lo hi 1 x.length = sliceRange (clip x.length 0 lo : Nat) (clip x.length x.length hi : Nat) 1 := by
      rw [← h0, ← hn]
      cases lo <;> cases hi <;> simp [strSliceIndices]
    rw [hs, sliceRange_one]
  have hk := key _ _ hidx rfl rfl
  unfold Txt.slice
  split
  · rename_i hc
    rw [← hk]
    have hlen : (strSliceIndices lo hi 1 x.length).length = x.length := by simpa using hc
    rw [hidx, List.length_map, List.length_range] at hlen
    have hc0 : clip x.length x.length hi ≤ x.length := by
      cases hi with
      | none => exact Nat.le_refl _
      | some i => simp only [clip]; split <;> omega
    have hc1 : clip x.length 0 lo ≤ x.length := by
      cases lo with
      | none => exact Nat.zero_le _
      | some i => simp only [clip]; split <;> omega
    have ha : clip x.length 0 lo = 0 := by omega
    have hb : clip x.length x.length hi = x.length := by omega
    rw [hk]
    have hl : x.cps.toList.length = x.length := by simp [Str.length]
    simp only [cut, hl, ha, hb, List.drop_zero, Nat.sub_zero]
    rw [← hl, List.take_length]
  · exact hk
theorem find_lr (x : Str) (c : Nat) (hx : x.cps = #[108, 114]) : Txt.find x ⟨#[c]⟩ = findLR c := by
  cases x with
  | mk xs =>
    simp only at hx
    subst hx
    have e0 : (#[108, 114] : Array Nat).extract 0 (0 + 1) = #[108] := by decide
    have e1 : (#[108, 114] : Array Nat).extract 1 (1 + 1) = #[114] := by decide
    have h0 : subAt ⟨#[108, 114]⟩ ⟨#[c]⟩ 0 = decide (c = 108) := by
      show ((#[108, 114] : Array Nat).extract 0 (0 + 1) == #[c]) = _
      rw [e0, Bool.eq_iff_iff, beq_iff_eq, decide_eq_true_eq]
      exact ⟨fun h => by injection h with h; injection h with h _; exact h.symm, fun h => by rw [h]⟩
    have h1 : subAt ⟨#[108, 114]⟩ ⟨#[c]⟩ 1 = decide (c = 114) := by
      show ((#[108, 114] : Array Nat).extract 1 (1 + 1) == #[c]) = _
      rw [e1, Bool.eq_iff_iff, beq_iff_eq, decide_eq_true_eq]
      exact ⟨fun h => by injection h with h; injection h with h _; exact h.symm, fun h => by rw [h]⟩
    unfold Txt.find occurrences
    by_cases c0 : c = 108
    · subst c0; decide +kernel
    · by_cases c1 : c = 114
      · subst c1; decide +kernel
      · simp [Str.length, Std.Legacy.Range.forIn_eq_forIn_range', Std.Legacy.Range.size, List.range', h0, h1, findLR, c0, c1]
section
variable {prog : Program} {w : World} {A : Around} {E : Value → Shared → Prop} {s : Shared} {x y : Str} {t u : Tok} {Q : Value → Shared → Prop}
theorem find2 (hq : Q (.int (Txt.find x y) s.toks) { s with toks := s.toks + 1 }) : wpAny (model prog w) A (call (.builtin "str.find") [.str x t, .str y u]) Q E s :=
  call_gives F.slot_str_find (typeIs_str _ _ _) F.entry_str_find (F.args_str_find_2 _ _) (gives_str_find x y t u) hq
theorem str_slice {sl : Addr} {vl vu : Value} {lo hi : Option Int} (hs : s.heap.IsSliceOf sl vl vu .none) (pl : IsPart vl lo) (pu : IsPart vu hi) (hsz : x.length ≤ sizeLine) (hq : ∀ t' k, Q (.str (Txt.slice x lo hi) t') { s with toks := k }) :
    wpAny (model prog w) A (getItem (.str x t) (.ref sl)) Q E s := by
  cases pl with
  | none =>
    cases pu with
    | none => exact wpAny_getItem_str_slice (l := none) (u := none) (st := none) hs rfl (post_val_or_str ⟨Nat.le_trans (Txt.slice_le x _ _) hsz, fun t' k => hq t' k⟩)
    | int j uj => exact wpAny_getItem_str_slice (l := none) (u := some (j, uj)) (st := none) hs rfl (post_val_or_str ⟨Nat.le_trans (Txt.slice_le x _ _) hsz, fun t' k => hq t' k⟩)
  | int i ui =>
    cases pu with
    | none => exact wpAny_getItem_str_slice (l := some (i, ui)) (u := none) (st := none) hs rfl (post_val_or_str ⟨Nat.le_trans (Txt.slice_le x _ _) hsz, fun t' k => hq t' k⟩)
    | int j uj => exact wpAny_getItem_str_slice (l := some (i, ui)) (u := some (j, uj)) (st := none) hs rfl (post_val_or_str ⟨Nat.le_trans (Txt.slice_le x _ _) hsz, fun t' k => hq t' k⟩)
end
end FD
namespace FD
open PySem PyProof.Rows
section
variable {prog : Program} {w : World} {A : Around} {E : Value → Shared → Prop} {s : Shared}
theorem tuple_whole {t sl : Addr} {items : Array Value} {vl vu : Value} {lo hi : Option Int} {Q : Value → Shared → Prop} (ht : IsTup s.heap t items) (hs : s.heap.IsSliceOf sl vl vu .none) (pl : IsPart vl lo) (pu : IsPart vu hi)
    (hw : HT.sIx items.size 0 lo = 0 ∧ HT.sIx items.size items.size hi = items.size) (h : Q (.ref t) s) : wpAny (model prog w) A (getItem (.ref t) (.ref sl)) Q E s := by
  obtain ⟨os, hos, hcs, hds⟩ := id hs
  have hTs : s.TypeIs (.ref sl) "slice" := ⟨os, hos, hcs⟩
  unfold getItem
  try with_reducible refine wpAny_holding ?_
  first | refine wpAny_bind (wpAny_pure ?_) | skip
  refine wpAny_bind (wpAny_sequenceKey ht.typeIs (by decide) ?_)
  refine wpAny_bind (wpAny_callSpecial?_slot (name := Str.ofString "__getitem__") ht.typeIs PyProof.Rows.slot_tuple_getitem
    (wpAny_call_entry PyProof.Rows.slot_tuple_getitem ht.typeIs entry_tuple_getitem ?_ (args_tuple_getitem _ _)))
  show wpAny _ _ (Builtin.Tuple.tupleItemsOf (.ref t) >>= _) _ _ s
  refine wpAny_bind (tupleItemsOf_ ht ?_)
  refine wpAny_bind (wpAny_typeOf hTs ?_)
  rw [if_pos (by decide)]
  refine wpAny_bind (HT.sliceApplied_gen hs pl pu ?_)
  show wpAny _ _ (if (((HT.sIx items.size 0 lo : Nat) : Int) == 0 && (1 : Int) == 1 && (HT.sIx items.size items.size hi - HT.sIx items.size 0 lo) == items.size) = true then _ else _) _ _ s
  rw [if_pos (by rw [hw.1, hw.2]; simp)]
  unfold Builtin.Tuple.tupleIsExact
  refine wpAny_bind (wpAny_bind (wpAny_typeOf ht.typeIs (wpAny_pure ?_)))
  rw [if_pos (by decide)]
  refine wpAny_bind (wpAny_rule ?_)
  exact wpAny_pure ⟨_, rfl, wpAny_pure h⟩
theorem fm_congr {α β : Type} {f g : α → Option β} : ∀ l : List α, (∀ x ∈ l, f x = g x) → l.filterMap f = l.filterMap g
  | [], _ => rfl
  | x :: r, h => by
    rw [List.filterMap_cons, List.filterMap_cons, h x (List.mem_cons_self ..), fm_congr r fun y hy => h y (List.mem_cons_of_mem _ hy)]
theorem rev_pick (l : List Value) : (List.range l.length).filterMap (fun (k : Nat) => l[((l.length : Int) - 1 + (k : Int) * -1).toNat]?) = l.reverse := by
  have h1 : ∀ k ∈ List.range l.length, l[((l.length : Int) - 1 + (k : Int) * -1).toNat]? = some (l.reverse.getD k .none) := fun k hk => by
    have hk' : k < l.length := List.mem_range.mp hk
    have e : ((l.length : Int) - 1 + (k : Int) * -1).toNat = l.length - 1 - k := by omega
    rw [e, List.getD_eq_getElem?_getD, List.getElem?_reverse hk', List.getElem?_eq_getElem (by omega)]
    rfl
  have h2 : (List.range l.length).filterMap (fun (k : Nat) => l[((l.length : Int) - 1 + (k : Int) * -1).toNat]?) = (List.range l.length).map fun k => l.reverse.getD k .none := by
    rw [← List.filterMap_eq_map]
    exact fm_congr _ h1
  rw [h2]
  apply List.ext_getElem?
  intro i
  by_cases hi : i < l.length
  · rw [List.getElem?_map, List.getElem?_range hi, List.getElem?_eq_getElem (by simpa using hi)]
    simp [List.getD_eq_getElem?_getD, hi]
  · rw [List.getElem?_eq_none_iff.mpr (by simp; omega), List.getElem?_eq_none_iff.mpr (by simp; omega)]
theorem tuple_rev {t sl : Addr} {items : Array Value} {tk : Tok} {Q : Value → Shared → Prop} (ht : IsTup s.heap t items) (hs : s.heap.IsSliceOf sl .none .none (.int (-1) tk)) (hsz : items.size ≤ sizeLine)
    (h : Q (.ref s.heap.objs.size) { s with heap := s.heap.push { cls := .type "tuple", data := .seq items.toList.reverse.toArray } }) : wpAny (model prog w) A (getItem (.ref t) (.ref sl)) Q E s := by
  obtain ⟨os, hos, hcs, hds⟩ := id hs
  have hTs : s.TypeIs (.ref sl) "slice" := ⟨os, hos, hcs⟩
  have hpick : ((List.range items.size).filterMap fun (k : Nat) => items[((items.size : Int) - 1 + (k : Int) * -1).toNat]?).toArray = items.toList.reverse.toArray := by
    apply congrArg List.toArray
    have := rev_pick items.toList
    simpa using this
  unfold getItem
  try with_reducible refine wpAny_holding ?_
  first | refine wpAny_bind (wpAny_pure ?_) | skip
  refine wpAny_bind (wpAny_sequenceKey ht.typeIs (by decide) ?_)
  refine wpAny_bind (wpAny_callSpecial?_slot (name := Str.ofString "__getitem__") ht.typeIs PyProof.Rows.slot_tuple_getitem
    (wpAny_call_entry PyProof.Rows.slot_tuple_getitem ht.typeIs entry_tuple_getitem ?_ (args_tuple_getitem _ _)))
  show wpAny _ _ (Builtin.Tuple.tupleItemsOf (.ref t) >>= _) _ _ s
  refine wpAny_bind (tupleItemsOf_ ht ?_)
  refine wpAny_bind (wpAny_typeOf hTs ?_)
  rw [if_pos (by decide)]
  unfold Builtin.Slice.sliceApplied Builtin.Slice.sliceFields
  refine wpAny_bind (wpAny_bind (wpAny_bind (wpAny_field hos hds (x := .none) rfl (wpAny_bind (wpAny_field hos hds (x := .none) rfl (wpAny_bind (wpAny_field hos hds (x := .int (-1) tk) rfl (wpAny_pure ?_))))))))
  refine wpAny_bind (HT.slicePart_ (.int (-1) tk) ?_)
  show wpAny _ _ (if ((-1 : Int) == 0) = true then _ else _) _ _ s
  rw [if_neg (by decide)]
  refine wpAny_bind (HT.slicePart_ .none (wpAny_bind (HT.slicePart_ .none (wpAny_bind (wpAny_pure ?_)))))
  have e : Builtin.Slice.sliceAdjust none none (-1) (items.size : Int) = ((items.size : Int) - 1, -1) := by
    simp [Builtin.Slice.sliceAdjust]
  have e2 : Builtin.Slice.slicePlaces ((items.size : Int) - 1) (-1) (-1) = items.size := by
    simp only [Builtin.Slice.slicePlaces]
    by_cases h0 : items.size = 0
    · rw [h0]; decide
    · simp; omega
  show wpAny _ _ (match Builtin.Slice.sliceAdjust none none (-1) (items.size : Int) with | (lo, hi) => pure (lo, (-1 : Int), Builtin.Slice.slicePlaces lo hi (-1))) _ _ s
  rw [e]
  show wpAny _ _ (pure ((items.size : Int) - 1, (-1 : Int), Builtin.Slice.slicePlaces ((items.size : Int) - 1) (-1) (-1))) _ _ s
  rw [e2]
  refine wpAny_pure ?_
  show wpAny _ _ (if (((items.size : Int) - 1 == 0) && ((-1 : Int) == 1) && items.size == items.size) = true then _ else _) _ _ s
  rw [if_neg (by simp), hpick]
  have htake : sizeOk (.seq items.toList.reverse.toArray) := by
    show items.toList.reverse.toArray.size ≤ sizeLine
    simpa using hsz
  first
    | exact wpAny_bind (m := Builtin.Tuple.tupleExact _) (wpAny_newObj_type (wpAny_pure ⟨_, rfl, wpAny_pure h⟩) htake)
    | exact wpAny_bind (m := Builtin.Tuple.tupleExact _) (wpAny_newObj_type (wpAny_bind (wpAny_pure (wpAny_pure ⟨_, rfl, wpAny_pure h⟩))) htake)
    | exact wpAny_bind (wpAny_bind (m := Builtin.Tuple.tupleExact _) (wpAny_newObj_type (wpAny_pure (wpAny_pure ⟨_, rfl, wpAny_pure h⟩)) htake))
    | exact wpAny_bind (wpAny_bind (m := Builtin.Tuple.tupleExact _) (wpAny_newObj_type (wpAny_pure ⟨_, rfl, wpAny_pure h⟩) htake))
end
end FD
namespace FD
open PySem PySem.Spec PyProof.Rows L2
theorem at_eq {α : Type} (xs : List α) (i : Int) : at? xs i = atI xs i := by
  unfold at? atI ixN
  by_cases h : 0 ≤ i
  · rw [if_pos h, if_pos h]
    by_cases h2 : i < xs.length
    · rw [if_pos h2]; rfl
    · rw [if_neg h2]
      exact List.getElem?_eq_none_iff.mpr (by omega)
  · rw [if_neg h, if_neg h]
    by_cases h2 : -(xs.length : Int) ≤ i
    · rw [if_pos h2, if_pos h2]; rfl
    · rw [if_neg h2, if_neg h2] <;> rfl
theorem Reps.at {K : PySem.W.Frag} {H : Hp} {vs : List V} {ds : List D} {i : Int} {d : D} (r : Reps K H vs ds) (e : at? ds i = some d) : ∃ v, atI vs i = some v ∧ Rep K H v d := by
  rw [← at_eq]
  have hl := r.length
  unfold at? at e ⊢
  by_cases h : 0 ≤ i
  · rw [if_pos h] at e ⊢
    exact r.get e
  · rw [if_neg h] at e ⊢
    by_cases h2 : -(ds.length : Int) ≤ i
    · rw [if_pos h2] at e
      rw [if_pos (by rw [hl]; exact h2), hl]
      exact r.get e
    · rw [if_neg h2] at e; cases e
theorem clip_eq (n d : Nat) (o : Option Int) : clip n d o = HT.sIx n d o := by
  cases o with
  | none => rfl
  | some v =>
    simp only [clip, HT.sIx]
theorem Reps.cut {K : PySem.W.Frag} {H : Hp} {vs : List V} {ds : List D} (r : Reps K H vs ds) (lo hi : Option Int) : Reps K H (cutV vs lo hi) (FD.cut ds lo hi) := by
  unfold cutV FD.cut
  rw [clip_eq, clip_eq, ← r.length]
  exact (r.drop _).take _


section
variable {X : Cx} {a b : Expr} {fa fb : FE} {pos : Pos}
theorem fe_ix (ha : FEx X a fa) (hb : FEx X b fb) (hs : PlainIx b) : FEx X (.Subscript a b pos) (eBin ixD fa fb) := by
  refine ⟨fun pins s σ H ρ d I r e => ?_⟩
  refine Subscript_ (fbin ha hb I r e fun u v s2 x y H2 dx dy I2 rx ry m px py e' => ?_)
  refine thn (ix_seq a b pins s2 σ H2 x y u v (fun z H' => Same H2 H' ∧ Rep X.K H' z d) I2 rx ry ?_ (hs _ _)) fun _ _ ⟨z, H', I', rz, m', pz⟩ => ⟨z, H', I', rz, m.trans m', pz⟩
  cases px <;> cases py <;> simp only [ixD] at e' <;> first | contradiction | skip
  · split at e'
    · rename_i hz
      obtain ⟨c, hc, e'⟩ := Option.map_eq_some_iff.mp e'
      subst e'
      exact .inr (.inr ⟨_, _, c, rfl, rfl, le_line hz, by rw [← at_eq]; exact hc, Same.refl _, .str _⟩)
    · exact nomatch e'
  · rename_i h q i
    obtain ⟨z, hz, pz⟩ := q.at e'
    exact .inl ⟨_, _, _, z, rfl, rfl, h, hz, Same.refl _, pz⟩
  · rename_i h q i
    obtain ⟨z, hz, pz⟩ := q.at e'
    exact .inr (.inl ⟨_, _, _, z, rfl, rfl, h, hz, Same.refl _, pz⟩)
def FOxR (X : Cx) (e : Option Expr) (f : FO) : Prop :=
  ∀ (pins : List (Addr × Obj)) (s : Shared) (σ : St) (H : Hp) (ρ : En) (o : Option Int), Inv X pins σ H s → RepS X.K H σ ρ → f ρ = some o →
    wpAny (model X.prog X.w) X.A (evalPart e X.env) (fun u s' => ∃ H', Inv X pins σ H' s' ∧ IsPart u o ∧ Same H H') X.xe s
structure FOx (X : Cx) (e : Option Expr) (f : FO) : Prop where
  go : FOxR X e f
instance {X : Cx} {e : Option Expr} {f : FO} : CoeFun (FOx X e f) (fun _ => FOxR X e f) := ⟨fun h => h.go⟩
theorem fo_none : FOx X none oNone := by
  refine ⟨fun pins s σ H ρ o I r e => ?_⟩
  simp only [oNone, Option.some.injEq] at e
  subst e
  rw [evalPart_none]
  exact wpAny_pure ⟨H, I, .none, Same.refl _⟩
theorem fo_some (h : FEx X a fa) : FOx X (some a) (oSome fa) := by
  refine ⟨fun pins s σ H ρ o I r e => ?_⟩
  simp only [oSome] at e
  obtain ⟨i, ei, e⟩ := Option.map_eq_some_iff.mp e
  obtain ⟨d, ed, ei⟩ := Option.bind_eq_some_iff.mp ei
  subst e
  rw [evalPart_some]
  refine thn (h pins s σ H ρ d I r ed) fun u s1 ⟨x, H1, I1, r1, m1, p1⟩ => ?_
  cases p1 <;> simp only [intOf] at ei <;> first | contradiction | skip
  cases ei
  obtain ⟨t, rfl⟩ := r1
  exact ⟨H1, I1, .int _ t, m1⟩
theorem fe_slice {lo hi : Option Expr} {fl fh : FO} {p2 : Pos} (he : FEx X a fa) (hl : FOx X lo fl) (hu : FOx X hi fh) : FEx X (.Subscript a (.Slice lo hi none p2) pos) (eSlice fa fl fh) := by
  refine ⟨fun pins s σ H ρ d I r e => ?_⟩
  simp only [eSlice] at e
  obtain ⟨dx, ea, e⟩ := Option.bind_eq_some_iff.mp e
  obtain ⟨l, el, e⟩ := Option.bind_eq_some_iff.mp e
  obtain ⟨h, eh, e⟩ := Option.bind_eq_some_iff.mp e
  refine Subscript_ (thn (he pins s σ H ρ dx I r ea) fun v s1 ⟨x, H1, I1, r1, m1, p1⟩ => ?_)
  refine wpAny_Slice (thn (hl pins s1 σ H1 ρ l I1 (r.mono m1) el) fun vl s2 ⟨H2, I2, pl, m2⟩ => thn (hu pins s2 σ H2 ρ h I2 (r.mono (m1.trans m2)) eh) fun vu s3 ⟨H3, I3, pu, m3⟩ => ?_)
  rw [evalPart_none]
  refine wpAny_pure ?_
  have I4 : Inv X pins σ H3 { s3 with heap := s3.heap.push { cls := .type "slice", data := .fields #[vl, vu, .none] } } := I3.kept (t' := s3.toks) fun b ob q => Heap.get?_push_of_some _ q
  have hsl := Heap.IsSliceOf.new s3.heap vl vu .none
  have m13 : Same H H3 := m1.trans (m2.trans m3)
  have p3 : Rep X.K H3 x dx := p1.mono (m2.trans m3)
  show wpAny (model X.prog X.w) X.A (subscriptTail a (.Slice lo hi none p2) v (.ref s3.heap.objs.size)) (FP X pins σ H d) X.xe { s3 with heap := s3.heap.push { cls := .type "slice", data := .fields #[vl, vu, .none] } }
  have up : ∀ {q : Sem Value}, wpAny (model X.prog X.w) X.A q (FP X pins σ H3 d) X.xe { s3 with heap := s3.heap.push { cls := .type "slice", data := .fields #[vl, vu, .none] } } → wpAny (model X.prog X.w) X.A q (FP X pins σ H d) X.xe { s3 with heap := s3.heap.push { cls := .type "slice", data := .fields #[vl, vu, .none] } } := fun h => thn h fun _ _ z => z.up m13
  cases p3 with
  | str z =>
    simp only [sliceD] at e
    split at e
    · rename_i hz
      cases e
      obtain ⟨t, rfl⟩ := r1
      refine up (tail_any (ops := [.ref s3.heap.objs.size, .str z t]) (typeIs_str _ z t) slot_str_getitem.lookup (str_slice hsl pl pu (le_line hz) fun t' k => ⟨.str _, H3, I4.tok k, ⟨t', rfl⟩, Same.refl _, ?_⟩) (by with_unfolding_all rfl))
      rw [slice_cut]
      exact .str _
    · exact nomatch e
  | @lst a1 xs1 ds1 h1 q1 =>
    simp only [sliceD, Option.some.injEq] at e
    subst e
    cases r1
    refine up (tail_any (ops := [.ref s3.heap.objs.size, .ref a1]) ?_ slot_list_getitem.lookup ?_ (by with_unfolding_all rfl))
    · obtain ⟨its, r, ht, hz⟩ := I4.list h1
      exact ht.isList.typeIs
    · obtain ⟨_, _, _, _, hg⟩ := sl_list pins _ σ H3 (.ref a1) (.ref a1) vl vu l h _ (fun v H' => Same H3 H' ∧ Rep X.K H' v (.list (FD.cut ds1 l h))) I4 (show RelV (.ref a1) (.ref a1) from rfl) hsl pl pu ⟨_, _, rfl, h1, fun p hp => ⟨same_new hp _, rep_new_lst hp (q1.cut l h)⟩⟩
      exact fin hg
  | @tup a1 xs1 ds1 h1 q1 =>
    simp only [sliceD, Option.some.injEq] at e
    subst e
    cases r1
    obtain ⟨its, rv, ht, hz⟩ := I4.tuple h1
    have hlen : its.toArray.size = xs1.length := by rw [List.size_toArray]; exact rv.length.symm
    refine up (tail_any (ops := [.ref s3.heap.objs.size, .ref a1]) ht.typeIs PyProof.Rows.slot_tuple_getitem.lookup ?_ (by with_unfolding_all rfl))
    by_cases hw : HT.sIx xs1.length 0 l = 0 ∧ HT.sIx xs1.length xs1.length h = xs1.length
    · refine tuple_whole ht hsl pl pu (by rw [hlen]; exact hw) ⟨.ref a1, H3, I4, rfl, Same.refl _, ?_⟩
      have hd : FD.cut ds1 l h = ds1 := by
        unfold FD.cut
        rw [clip_eq, clip_eq, ← q1.length, hw.1, hw.2, List.drop_zero, Nat.sub_zero, q1.length, List.take_length]
      rw [hd]
      exact .tup h1 q1
    · obtain ⟨_, _, _, _, hg⟩ := sl_tup pins _ σ H3 (.ref a1) (.ref a1) vl vu l h _ (fun v H' => Same H3 H' ∧ Rep X.K H' v (.tuple (FD.cut ds1 l h))) I4 (show RelV (.ref a1) (.ref a1) from rfl) hsl pl pu ⟨_, _, rfl, h1, hw, fun p hp => ⟨same_new hp _, rep_new_tup hp (q1.cut l h)⟩⟩
      exact fin hg
  | non => simp only [sliceD] at e; contradiction
  | bl _ => simp only [sliceD] at e; contradiction
  | int _ => simp only [sliceD] at e; contradiction
theorem fe_rev {p2 p3 p4 : Pos} {j : Nat} (he : FEx X a fa) : FEx X (.Subscript a (.Slice none none (some (.UnaryOp .USub (.Constant (.int 1) j p4) p3)) p2) pos) (eUn revD fa) := by
  refine ⟨fun pins s σ H ρ d I r e => ?_⟩
  simp only [eUn] at e
  obtain ⟨dx, ea, e⟩ := Option.bind_eq_some_iff.mp e
  refine Subscript_ (thn (he pins s σ H ρ dx I r ea) fun v s1 ⟨x, H1, I1, r1, m1, p1⟩ => ?_)
  refine wpAny_Slice ?_
  rw [evalPart_none, evalPart_some]
  refine wpAny_pure (wpAny_pure ?_)
  have hneg : FEx X (.UnaryOp .USub (.Constant (.int 1) j p4) p3) (eUn negD (eC (.int 1))) := fe_un un_negD fe_int
  refine thn (hneg pins s1 σ H1 ρ (.int (-1)) I1 (r.mono m1) rfl) fun vs s2 ⟨y, H2, I2, r2, m2, p2⟩ => ?_
  cases p2
  obtain ⟨tk, rfl⟩ := r2
  have I4 : Inv X pins σ H2 { s2 with heap := s2.heap.push { cls := .type "slice", data := .fields #[.none, .none, .int (-1) tk] } } := I2.kept (t' := s2.toks) fun b ob q => Heap.get?_push_of_some _ q
  have hsl := Heap.IsSliceOf.new s2.heap .none .none (.int (-1) tk)
  have p3' : Rep X.K H2 x dx := p1.mono m2
  cases p3' with
  | @tup a1 xs1 ds1 h1 q1 =>
    simp only [revD, Option.some.injEq] at e
    subst e
    cases r1
    obtain ⟨its, rv, ht, hz⟩ := I4.tuple h1
    have hlen := rv.length
    refine tail_any (ops := [.ref a1, .ref s2.heap.objs.size]) ht.typeIs PyProof.Rows.slot_tuple_getitem.lookup (tuple_rev ht hsl (by rw [List.size_toArray, ← hlen]; exact hz) ?_) (by with_unfolding_all rfl)
    have := laid_tup (X := X) I4 (rv.reverse) (q1.reverse) (by rw [List.length_reverse]; exact hz)
    exact this.up (m1.trans m2)
  | non => simp only [revD] at e; contradiction
  | bl _ => simp only [revD] at e; contradiction
  | int _ => simp only [revD] at e; contradiction
  | str _ => simp only [revD] at e; contradiction
  | lst _ _ => simp only [revD] at e; contradiction
theorem bm1 {name : Str} {id : String} {g : D → D → Option D} {apos cpos : Pos} (pa : PlainAttrs "str") (slot : Slot "str" name id) (hty : typeOf (.builtin id) = pure (.type "method_descriptor"))
    (hg : ∀ (pins : List (Addr × Obj)) (s : Shared) (σ : St) (H : Hp) (x y : Str) (t u : Tok) (d : D), Inv X pins σ H s → g (.str x) (.str y) = some d → wpAny (model X.prog X.w) X.A (call (.builtin id) [.str x t, .str y u]) (FP X pins σ H d) X.xe s)
    (hstr : ∀ dx dy d, g dx dy = some d → ∃ x y, dx = .str x ∧ dy = .str y)
    (ha : FEx X a fa) (hb : FEx X b fb) (hbase : attributeBase a name X.env (eval a X.env) = eval a X.env)
    (hfew : ((backTo cpos (starEach [b] X.env)).all (fun x => !x.1) && (backToKw cpos (keywordEach [] X.env)).all (fun x => x.1.isSome)
      && decide (([b] : List Expr).length + ([] : List Keyword).length + (if ([] : List Keyword).isEmpty then 0 else 1) < 30)) = true)
    (hline : (apos.endLine == cpos.line) = true) (hs : starEach [b] X.env = (false, eval b X.env) :: starEach [] X.env) (hplain : (backTo cpos (starEach [] X.env)).any (·.1) = false) :
    FEx X (.Call (.Attribute a name apos) [b] [] cpos) (eBin g fa fb) := by
  have hm : MtR X id (fun x xs H Q => ∃ p q d, x = .str p ∧ xs = [.str q] ∧ g (.str p) (.str q) = some d ∧ ∀ v H', Same H H' → Rep X.K H' v d → Q v H') := by
    intro pins s σ H x xs v us Q I rx rs ⟨p, q, d, e1, e2, e3, k⟩
    subst e1 e2
    obtain ⟨t, rfl⟩ := rx
    obtain ⟨u, rfl, t', rfl⟩ := vals1 rs
    exact thn (hg pins s σ H p q t t' d I e3) fun _ _ ⟨z, H', I', rz, m, pz⟩ => ⟨z, H', I', rz, k z H' m pz⟩
  refine FEx.of (pe_bm pa slot hty hm ha.pe (pa_cons hb.pe pa_nil hs) hbase hfew hline hs hplain) fun σ H ρ d r e => ?_
  simp only [eBin] at e
  obtain ⟨dx, ea, e⟩ := Option.bind_eq_some_iff.mp e
  obtain ⟨dy, eb, e⟩ := Option.bind_eq_some_iff.mp e
  obtain ⟨p, q, rfl, rfl⟩ := hstr dx dy d e
  refine ⟨ρ, _, r, ea, fun v H1 m1 p1 => ?_⟩
  cases p1
  refine ⟨rfl, ρ, _, r.mono m1, eb, fun v2 H2 m2 p2 => ?_⟩
  cases p2
  exact ⟨p, q, d, rfl, rfl, e, fun v H' m pv => ⟨m1.trans (m2.trans m), pv⟩⟩
theorem fe_find {apos cpos : Pos} (ha : FEx X a fa) (hb : FEx X b fb) (hbase : attributeBase a "find" X.env (eval a X.env) = eval a X.env := by rfl)
    (hfew : ((backTo cpos (starEach [b] X.env)).all (fun x => !x.1) && (backToKw cpos (keywordEach [] X.env)).all (fun x => x.1.isSome)
      && decide (([b] : List Expr).length + ([] : List Keyword).length + (if ([] : List Keyword).isEmpty then 0 else 1) < 30)) = true := by rfl)
    (hline : (apos.endLine == cpos.line) = true := by rfl) (hs : starEach [b] X.env = (false, eval b X.env) :: starEach [] X.env := by rfl) (hplain : (backTo cpos (starEach [] X.env)).any (·.1) = false := by rfl) :
    FEx X (.Call (.Attribute a "find" apos) [b] [] cpos) (eBin findD fa fb) := by
  refine bm1 PySem.F.plainAttrs_str PySem.F.slot_str_find PySem.F.type_str_find (fun pins s σ H x y t u d I e => ?_) (fun dx dy d e => ?_) ha hb hbase hfew hline hs hplain
  · simp only [findD] at e
    split at e
    · rename_i hx
      split at e
      · rename_i c hc
        cases e
        have ey : y = ⟨#[c]⟩ := by cases y; simp only at hc; simp [← Array.toList_inj, hc]
        subst ey
        exact find2 ⟨.int _, H, I.tok _, ⟨_, rfl⟩, Same.refl _, by rw [find_lr x c hx]; exact .int _⟩
      · exact nomatch e
    · exact nomatch e
  · cases dx <;> cases dy <;> simp only [findD] at e <;> first | contradiction | exact ⟨_, _, rfl, rfl⟩
theorem fe_isi {x y : Str} {T : String} {t : Ty} {p p' : Pos} (hT : ∀ (d : D) (tv : String), plainD d = true → (tv = match d with | .none => "NoneType" | .bool _ => "bool" | .int _ => "int" | .str _ => "str" | .list _ => "list" | .tuple _ => "tuple" | .dict _ => "dict") → PySem.W.kitOne X.K (.type tv) (.type T) = some (isiB t d))
    (hv : bootBuiltins x = some (.builtin "isinstance")) (hv' : bootBuiltins y = some (.type T)) (hg : Gl X x) (hm : X.mg x = none) (hg' : Gl X y) (hm' : X.mg y = none) (ha : FEx X a fa) (hn : x ≠ "__name__") (hdb : (x == ("__debug__" : Str)) = false) (hn' : y ≠ "__name__") (hdb' : (y == ("__debug__" : Str)) = false)
    (he : starEach [a, .Name y p'] X.env = (false, eval a X.env) :: starEach [.Name y p'] X.env) (he' : starEach [.Name y p'] X.env = (false, eval (.Name y p') X.env) :: starEach [] X.env) (hpl : (backTo pos (starEach [.Name y p'] X.env)).any (·.1) = false) :
    FEx X (.Call (.Name x p) [a, .Name y p'] [] pos) (eUn (isiD t) fa) := by
  have hc : CallR X (.builtin "isinstance") (fun xs H Q => ∃ v dx d, xs = [v, .ty T] ∧ Rep X.K H v dx ∧ isiD t dx = some d ∧ ∀ v H', Same H H' → Rep X.K H' v d → Q v H') := by
    intro pins s σ H xs us Q I r ⟨v, dx, d, e1, pv, e2, k⟩
    subst e1
    obtain ⟨u, w', rfl, rv, rw'⟩ := vals2 r
    cases rw'
    exact thn (cb_isi hT pins s σ H v u dx d I rv pv e2) fun _ _ ⟨z, H', I', rz, m, pz⟩ => ⟨z, H', I', rz, k z H' m pz⟩
  have hy : PE X (.Name y p') (tC (.ty T)) := pe_bltn hg' hm' hv' rfl hn' hdb'
  refine FEx.of (pe_callB hc hg hm hv (pa_cons ha.pe (pa_cons hy pa_nil he') he) hn hdb he hpl) fun σ H ρ d r e => ?_
  simp only [eUn] at e
  obtain ⟨dx, ea, e⟩ := Option.bind_eq_some_iff.mp e
  exact ⟨ρ, dx, r, ea, fun v H1 m1 p1 => ⟨v, dx, d, rfl, p1, e, fun z H' m pz => ⟨m1.trans m, pz⟩⟩⟩
end
end FD
end
section
set_option Elab.async false
set_option linter.all false
set_option maxRecDepth 100000
set_option maxHeartbeats 4000000
namespace FD
open PySem PySem.Spec PyProof.Rows L2

/-- what is wanted behind a statement that comes to o -/
def endsOf (K : PySem.W.Frag) (H : Hp) (o : Out) : Ends where
  nx := fun σ' H' => ∃ ρ', o = .nx ρ' ∧ Same H H' ∧ RepS K H' σ' ρ'
  rt := fun v H' => ∃ d, o = .rt d ∧ Same H H' ∧ Rep K H' v d
  bk := fun σ' H' => ∃ ρ', o = .bk ρ' ∧ Same H H' ∧ RepS K H' σ' ρ'
  ct := fun σ' H' => ∃ ρ', o = .ct ρ' ∧ Same H H' ∧ RepS K H' σ' ρ'
def FSxR (X : Cx) (st : Stmt) (g : FS) : Prop :=
  ∀ (pins : List (Addr × Obj)) (s : Shared) (σ : St) (H : Hp) (ρ : En) (o : Out), Inv X pins σ H s → RepS X.K H σ ρ → g ρ = some o → wpAny (model X.prog X.w) X.A (exec st X.env) (SP X pins (endsOf X.K H o)) X.xe s
structure FSx (X : Cx) (st : Stmt) (g : FS) : Prop where
  go : FSxR X st g
instance {X : Cx} {st : Stmt} {g : FS} : CoeFun (FSx X st g) (fun _ => FSxR X st g) := ⟨fun h => h.go⟩
def FSsR (X : Cx) (sts : List Stmt) (g : FS) : Prop :=
  ∀ (pins : List (Addr × Obj)) (s : Shared) (σ : St) (H : Hp) (ρ : En) (o : Out), Inv X pins σ H s → RepS X.K H σ ρ → g ρ = some o → wpAny (model X.prog X.w) X.A (execs sts X.env) (SP X pins (endsOf X.K H o)) X.xe s
structure FSs (X : Cx) (sts : List Stmt) (g : FS) : Prop where
  go : FSsR X sts g
instance {X : Cx} {sts : List Stmt} {g : FS} : CoeFun (FSs X sts g) (fun _ => FSsR X sts g) := ⟨fun h => h.go⟩
structure Ent (E D : Ends) : Prop where
  nx : ∀ σ H, E.nx σ H → D.nx σ H
  rt : ∀ v H, E.rt v H → D.rt v H
  bk : ∀ σ H, E.bk σ H → D.bk σ H
  ct : ∀ σ H, E.ct σ H → D.ct σ H
theorem spImp {X : Cx} {pins : List (Addr × Obj)} {E D : Ends} {f : Flow} {s' : Shared} (h : SP X pins E f s') (e : Ent E D) : SP X pins D f s' := by
  cases f with
  | next => obtain ⟨σ', H', I, q⟩ := h; exact ⟨σ', H', I, e.nx _ _ q⟩
  | brk => obtain ⟨σ', H', I, q⟩ := h; exact ⟨σ', H', I, e.bk _ _ q⟩
  | cont => obtain ⟨σ', H', I, q⟩ := h; exact ⟨σ', H', I, e.ct _ _ q⟩
  | ret u => obtain ⟨v, σ', H', I, r, q⟩ := h; exact ⟨v, σ', H', I, r, e.rt _ _ q⟩
theorem ends_up {K : PySem.W.Frag} {H H1 : Hp} {o : Out} (m : Same H H1) : Ent (endsOf K H1 o) (endsOf K H o) where
  nx := fun _ _ ⟨ρ', e, m', r⟩ => ⟨ρ', e, m.trans m', r⟩
  rt := fun _ _ ⟨d, e, m', r⟩ => ⟨d, e, m.trans m', r⟩
  bk := fun _ _ ⟨ρ', e, m', r⟩ => ⟨ρ', e, m.trans m', r⟩
  ct := fun _ _ ⟨ρ', e, m', r⟩ => ⟨ρ', e, m.trans m', r⟩
def tFS (K : PySem.W.Frag) (g : FS) : TS := fun D σ H => ∃ (ρ : En) (o : Out), RepS K H σ ρ ∧ g ρ = some o ∧ Ent (endsOf K H o) D
theorem FSs.ps {X : Cx} {sts : List Stmt} {g : FS} (h : FSs X sts g) : PSs X sts (tFS X.K g) := fun pins s σ H D I ⟨ρ, o, r, e, k⟩ => thn (h pins s σ H ρ o I r e) fun f s' q => spImp q k
theorem FSx.of {X : Cx} {st : Stmt} {g : FS} {t : TS} (h : PS X st t) (hq : ∀ σ H ρ o, RepS X.K H σ ρ → g ρ = some o → t (endsOf X.K H o) σ H) : FSx X st g :=
  ⟨fun pins s σ H ρ o I r e => h pins s σ H _ I (hq σ H ρ o r e)⟩

section
variable {X : Cx} {pos : Pos}
theorem fs_nil : FSs X [] sNil := by
  refine ⟨fun pins s σ H ρ o I r e => ?_⟩
  simp only [sNil, Option.some.injEq] at e
  subst e
  exact wpAny_execs_nil ⟨σ, H, I, ρ, rfl, Same.refl _, r⟩
theorem fs_one {st : Stmt} {g : FS} (h : FSx X st g) : FSs X [st] g := by
  refine ⟨fun pins s σ H ρ o I r e => ?_⟩
  refine wpAny_execs_cons (thn (h pins s σ H ρ o I r e) fun f s1 q => ?_)
  cases f with
  | next => exact wpAny_execs_nil q
  | ret v => exact q
  | brk => exact q
  | cont => exact q
theorem fs_cons {st : Stmt} {rest : List Stmt} {g1 g2 : FS} (h1 : FSx X st g1) (h2 : FSs X rest g2) : FSs X (st :: rest) (sSeq g1 g2) := by
  refine ⟨fun pins s σ H ρ o I r e => ?_⟩
  simp only [sSeq] at e
  obtain ⟨o1, e1, e⟩ := Option.bind_eq_some_iff.mp e
  refine wpAny_execs_cons (thn (h1 pins s σ H ρ o1 I r e1) fun f s1 q => ?_)
  cases f with
  | next =>
    obtain ⟨σ', H', I', ρ', eo, m, r'⟩ := q
    subst eo
    exact thn (h2 pins s1 σ' H' ρ' o I' r' e) fun _ _ z => spImp z (ends_up m)
  | ret u =>
    obtain ⟨v, σ', H', I', rv, d, eo, m, p⟩ := q
    subst eo
    simp only [Option.some.injEq] at e
    subst e
    exact ⟨v, σ', H', I', rv, d, rfl, m, p⟩
  | brk =>
    obtain ⟨σ', H', I', ρ', eo, m, r'⟩ := q
    subst eo
    simp only [Option.some.injEq] at e
    subst e
    exact ⟨σ', H', I', ρ', rfl, m, r'⟩
  | cont =>
    obtain ⟨σ', H', I', ρ', eo, m, r'⟩ := q
    subst eo
    simp only [Option.some.injEq] at e
    subst e
    exact ⟨σ', H', I', ρ', rfl, m, r'⟩
theorem fs_ret {e : Expr} {f : FE} (h : FEx X e f) : FSx X (.Return (some e) pos) (sRet f) := by
  refine ⟨fun pins s σ H ρ o I r ef => ?_⟩
  simp only [sRet] at ef
  obtain ⟨d, ed, ef⟩ := Option.bind_eq_some_iff.mp ef
  cases ef
  exact wpAny_Return_some (thn (h pins s σ H ρ d I r ed) fun u s1 ⟨v, H1, I1, rv, m, p⟩ => ⟨v, σ, H1, I1, rv, d, rfl, m, p⟩)
theorem fs_if {c : Expr} {a b : List Stmt} {t : FT} {ga gb : FS} (hc : FTx X c t) (ha : FSs X a ga) (hb : FSs X b gb) : FSx X (.If c a b pos) (sIf t ga gb) := by
  refine ⟨fun pins s σ H ρ o I r e => ?_⟩
  simp only [sIf] at e
  obtain ⟨c1, e1, e⟩ := Option.bind_eq_some_iff.mp e
  refine wpAny_If (thn (hc pins s σ H ρ c1 I r e1) fun c' s1 ⟨ec, H1, I1, m1⟩ => ?_)
  subst ec
  cases c' with
  | true => exact thn (ha pins s1 σ H1 ρ o I1 (r.mono m1) (by simpa using e)) fun _ _ z => spImp z (ends_up m1)
  | false => exact thn (hb pins s1 σ H1 ρ o I1 (r.mono m1) (by simpa using e)) fun _ _ z => spImp z (ends_up m1)
theorem fs_set {i : Nat} {x : Str} {e : Expr} {f : FE} {pos' : Pos} (hN : X.N.Nodup) (hi : X.N[i]? = some x) (hx : Loc X.env.scope x) (he : FEx X e f) (hs : swapsWith e (some (.Name x pos')) pos.line X.env = pure false := by rfl)
    (hf : X.fn x = true ∨ X.env.scope.names.lookup x = some .local := by first | exact .inl rfl | exact .inr rfl | assumption) : FSx X (.Assign [.Name x pos'] e pos) (sSet i f) := by
  refine FSx.of (ps_set hN hi hx he.pe hs hf) fun σ H ρ o r eo => ?_
  simp only [sSet] at eo
  obtain ⟨d, ed, eo⟩ := Option.bind_eq_some_iff.mp eo
  cases eo
  exact ⟨ρ, d, r, ed, fun v H' m p => ⟨_, rfl, m, (r.mono m).set p i⟩⟩
def gNames : List Nat → TGs
  | [] => gNil
  | i :: is => gCons (gName i) (gNames is)
theorem fg_nil : PGs X [] (gNames []) := pgs_nil
theorem fg_cons {i : Nat} {x : Str} {es : List Expr} {is : List Nat} {pos : Pos} (hN : X.N.Nodup) (hi : X.N[i]? = some x) (hx : Loc X.env.scope x) (h2 : PGs X es (gNames is))
    (hf : X.fn x = true ∨ X.env.scope.names.lookup x = some .local := by first | exact .inl rfl | exact .inr rfl | assumption)
    (hs : (assignEach (.Name x pos :: es) X.env).map (·.2) = assign (.Name x pos) X.env :: (assignEach es X.env).map (·.2) := by rfl) : PGs X (.Name x pos :: es) (gNames (i :: is)) := pgs_cons (pg_name hN hi hx hf) h2 hs
theorem gNames_read {K : PySem.W.Frag} {H : Hp} : ∀ (is : List Nat) {vs : List V} {ds : List D} {σ : St} {ρ : En} {Q : St → Hp → Prop}, Reps K H vs ds → ds.length = is.length → RepS K H σ ρ → (∀ σ', RepS K H σ' (setAll is ds ρ) → Q σ' H) → gNames is vs σ H Q
  | [], _, _, σ, ρ, Q, .nil, _, r, k => ⟨rfl, k σ r⟩
  | [], _, _, _, _, _, .cons _ _, h, _, _ => by simp at h
  | i :: is, _, _, _, _, _, .nil, h, _, _ => by simp at h
  | i :: is, v :: vs, d :: ds, σ, ρ, Q, .cons p q, h, r, k => ⟨v, vs, rfl, gNames_read is q (by simpa using h) (r.set p i) k⟩
theorem fs_unp {es : List Expr} {is : List Nat} {e : Expr} {f : FE} {k : Nat} {p2 : Pos} (hc : X.calm = true) (he : FEx X e f) (hg : PGs X es (gNames is)) (hn : (assignEach es X.env).length = is.length := by rfl)
    (hst : (assignEach es X.env).findIdx? (·.1) = none := by rfl) (hs : swapsWithSole [.Tuple es k p2] e pos.line X.env = pure false := by rfl) (hw : swappedStores [.Tuple es k p2] e X.env = pure none := by rfl)
    (h1 : (assignEach [.Tuple es k p2] X.env).map (·.2) = [assign (.Tuple es k p2) X.env] := by rfl) : FSx X (.Assign [.Tuple es k p2] e pos) (sUnp is f) := by
  refine FSx.of (ps_asg he.pe (pg_tup hc hg hn hst) hs hw h1) fun σ H ρ o r eo => ?_
  simp only [sUnp] at eo
  obtain ⟨xs, exs, eo⟩ := Option.bind_eq_some_iff.mp eo
  obtain ⟨d, ed, exs⟩ := Option.bind_eq_some_iff.mp exs
  split at eo
  · rename_i hl
    cases eo
    refine ⟨ρ, d, r, ed, fun v H' m p => ?_⟩
    cases p <;> simp only [tupOf] at exs <;> first | contradiction | skip
    rename_i h q
    cases exs
    exact ⟨_, _, rfl, h, by rw [q.length]; exact hl, gNames_read is q hl (r.mono m) fun σ' r' => ⟨_, rfl, m, r'⟩⟩
  · exact nomatch eo

def PI.or' {tg iter : Expr} {w1 w2 : TI} (h1 : PI X tg iter w1) (h2 : PI X tg iter w2) : PI X tg iter (fun σ H R => w1 σ H R ∨ w2 σ H R) := fun pins s σ H R I h => h.elim (h1 pins s σ H R I) (h2 pins s σ H R I)
/-- one turn, as the loop's rule asks it -/
theorem for_turn {K : PySem.W.Frag} {i : Nat} {gb : FS} {H0 H1 H' : Hp} {σ' : St} {ρ' : En} {o : Out} {x : V} {d : D} {rest : List D} {Pn : St → Hp → Prop} (hx : Rep K H' x d) (r : RepS K H' σ' ρ') (m0 : Same H0 H1) (m : Same H1 H') (e : forGo i gb (d :: rest) ρ' = some o)
    (hP : ∀ ρ3 σ3 H3, Same H1 H3 → RepS K H3 σ3 ρ3 → forGo i gb rest ρ3 = some o → Pn σ3 H3) :
    tFS K gb { endsOf K H0 o with nx := Pn, ct := Pn, bk := (endsOf K H0 o).nx } (σ'.set i (some x)) H' := by
  simp only [forGo] at e
  obtain ⟨o2, e2, e⟩ := Option.bind_eq_some_iff.mp e
  refine ⟨ρ'.set i (some d), o2, r.set hx i, e2, ?_, ?_, ?_, ?_⟩
  · rintro σ3 H3 ⟨ρ3, eo, m3, r3⟩
    subst eo
    exact hP ρ3 σ3 H3 (m.trans m3) r3 e
  · rintro v H3 ⟨d3, eo, m3, p3⟩
    subst eo
    simp only [Option.some.injEq] at e
    exact ⟨d3, e.symm, m0.trans (m.trans m3), p3⟩
  · rintro σ3 H3 ⟨ρ3, eo, m3, r3⟩
    subst eo
    simp only [Option.some.injEq] at e
    exact ⟨ρ3, e.symm, m0.trans (m.trans m3), r3⟩
  · rintro σ3 H3 ⟨ρ3, eo, m3, r3⟩
    subst eo
    exact hP ρ3 σ3 H3 (m.trans m3) r3 e
theorem drop_at {α : Type} {xs : List α} {k : Nat} {x : α} (h : xs[k]? = some x) : xs.drop k = x :: xs.drop (k + 1) := by
  obtain ⟨h1, h2⟩ := List.getElem?_eq_some_iff.mp h
  rw [← h2]
  exact List.drop_eq_getElem_cons h1
def Itc (z : Str) : It := ⟨fun i _ => i < z.length, fun i H x H' => H' = H ∧ ∃ c, z.cps.toList[i]? = some c ∧ x = .str ⟨#[c]⟩, fun i _ => z.length ≤ i⟩
theorem turn_str {P : Program} {w : World} {K : PySem.W.Frag} {tg : Expr} (z : Str) (t : Tok) (it : Addr) : Turn P w K tg (Itc z) [it] it (fun i h => h.IsStrIter it "str_ascii_iterator" z t i ∨ h.IsStrIter it "str_iterator" z t i) where
  mem := by simp
  obj := fun i h st b hb => by
    have e : b = it := by simpa using hb
    subst e
    rcases st with ⟨o, e, c, d⟩ | ⟨o, e, c, d⟩
    · exact ⟨o, e, fun v z => by rw [d] at z; cases z⟩
    · exact ⟨o, e, fun v z => by rw [d] at z; cases z⟩
  keep := fun i h h' st k => by
    rcases st with ⟨o, e, c⟩ | ⟨o, e, c⟩
    · exact .inl ⟨o, k it (by simp) o e, c⟩
    · exact .inr ⟨o, k it (by simp) o e, c⟩
  item := by
    intro X hP hw hK hc i pins s σ H E I hf st hg
    subst hP hw hK
    obtain ⟨f0, f1, f2, f3, f4, f5⟩ := hf it (by simp)
    have hg' : i < z.cps.size := hg
    have hcx : z.cps[i]? = some z.cps[i] := by simp [hg']
    have hcl : z.cps.toList[i]? = some z.cps[i] := by simp [hg']
    rcases st with st | st
    · refine wpAny_pyNext_ascii_item st hcx fun h' st' sb => ?_
      have I1 : Inv X pins σ H { s with heap := h', toks := s.toks + 1 } := I.turned (fun b o hb e => (sb.2 b hb).trans e) f0 f1 f3 f4 f5
      obtain ⟨o, e, c, d⟩ := id st'
      exact ⟨_, rfl, go_of (s := { s with heap := h', toks := s.toks + 1 }) e c d (by decide) ⟨.str ⟨#[z.cps[i]]⟩, H, I1, ⟨_, rfl⟩, ⟨rfl, _, hcl, rfl⟩, .inl st', fun b hb => (hf b hb).1⟩⟩
    · refine wpAny_pyNext_wide_item st hcx fun h' st' sb => ?_
      have I1 : Inv X pins σ H { s with heap := h', toks := s.toks + 1 } := I.turned (fun b o hb e => (sb.2 b hb).trans e) f0 f1 f3 f4 f5
      obtain ⟨o, e, c, d⟩ := id st'
      exact ⟨_, rfl, go_of (s := { s with heap := h', toks := s.toks + 1 }) e c d (by decide) ⟨.str ⟨#[z.cps[i]]⟩, H, I1, ⟨_, rfl⟩, ⟨rfl, _, hcl, rfl⟩, .inr st', fun b hb => (hf b hb).1⟩⟩
  done := by
    intro X hP hw hK hc i pins s σ H E I hf st hg
    subst hP hw hK
    obtain ⟨f0, f1, f2, f3, f4, f5⟩ := hf it (by simp)
    have hg' : z.cps.size ≤ i := hg
    have hcx : z.cps[i]? = none := by simp [hg']
    rcases st with st | st
    · exact wpAny_pyNext_ascii_end (I.ok.hd hc) st hcx fun h' eb => ⟨rfl, I.turned (t' := s.toks) (fun b o hb e => eb b o hb e) f0 f1 f3 f4 f5⟩
    · exact wpAny_pyNext_wide_end (I.ok.hd hc) st hcx fun h' eb => ⟨rfl, I.turned (t' := s.toks) (fun b o hb e => eb b o hb e) f0 f1 f3 f4 f5⟩
  self := fun A i s Q E st h => by
    rcases st with st | st
    · exact wpAny_pyIter_striter_ascii st h
    · exact wpAny_pyIter_striter_wide st h
def iStr (tl : TE) : TI := fun σ H R => tl σ H fun x H1 => ∃ z, x = .str z ∧ R (Itc z) H1
theorem pi_str {tg l : Expr} {tl : TE} (hl : PE X l tl) : PI X tg l (iStr tl) := by
  intro pins s σ H R I h
  refine thn (hl pins s σ H _ I h) fun v s1 ⟨x, H1, I1, r1, q1⟩ => ?_
  obtain ⟨z, e, q⟩ := q1
  subst e
  obtain ⟨t, rfl⟩ := r1
  by_cases ha : z.cps.all (· < 128) = true
  · refine wpAny_pyIter_ascii ha ⟨s1.heap.objs.size, [s1.heap.objs.size], _, _, H1, rfl, I1.kept (t' := s1.toks) fun b o e => Heap.get?_push_of_some _ e, turn_str z t _, .inl ⟨_, Heap.get?_push_size _ rfl, rfl, rfl⟩, fun b hb => ?_, q⟩
    have e : b = s1.heap.objs.size := by simpa using hb
    subst e
    exact I1.fpOk (Nat.le_refl _) (I1.hok.fresh (Nat.le_refl _))
  · refine wpAny_pyIter_wide (by simpa using ha) ⟨s1.heap.objs.size, [s1.heap.objs.size], _, _, H1, rfl, I1.kept (t' := s1.toks) fun b o e => Heap.get?_push_of_some _ e, turn_str z t _, .inr ⟨_, Heap.get?_push_size _ rfl, rfl, rfl⟩, fun b hb => ?_, q⟩
    have e : b = s1.heap.objs.size := by simpa using hb
    subst e
    exact I1.fpOk (Nat.le_refl _) (I1.hok.fresh (Nat.le_refl _))
theorem fs_forStr {i : Nat} {x : Str} {iter : Expr} {f : FE} {body : List Stmt} {gb : FS} {p2 : Pos} (hN : X.N.Nodup) (hi : X.N[i]? = some x) (hx : Loc X.env.scope x) (he : FEx X iter f) (hb : FSs X body gb)
    (hp : PassesOwn (model X.prog X.w) X.A X.env X.xe := by exact PassesOwn.never) (hc : X.calm = true := by rfl)
    (hf : X.fn x = true ∨ X.env.scope.names.lookup x = some .local := by first | exact .inl rfl | exact .inr rfl | assumption)
    (hs : ∀ x, foldedSetIterable iter X.env x = pure x := by intro _; rfl) : FSx X (.For (.Name x p2) iter body [] pos) (sForStr i f gb) := by
  refine FSx.of (ps_for hp hc (pi_str he.pe) (pg_name hN hi hx hf) hb.ps hs) fun σ H ρ o r eo => ?_
  simp only [sForStr] at eo
  obtain ⟨z, exs, eo⟩ := Option.bind_eq_some_iff.mp eo
  obtain ⟨d, ed, exs⟩ := Option.bind_eq_some_iff.mp exs
  cases d <;> simp only [strOf] at exs <;> first | contradiction | skip
  cases exs
  refine ⟨ρ, _, r, ed, fun v H1 m1 p1 => ?_⟩
  cases p1
  refine ⟨z, rfl, ?_⟩
  have hlen : (chars z).length = z.length := by simp [chars, Str.length]
  refine ⟨fun k n σ' H' => n = z.length - k ∧ k ≤ z.length ∧ ∃ ρ', RepS X.K H' σ' ρ' ∧ Same H1 H' ∧ forGo i gb ((chars z).drop k) ρ' = some o, ⟨z.length, rfl, Nat.zero_le _, ρ, r.mono m1, Same.refl _, by rw [List.drop_zero]; exact eo⟩, ?_⟩
  rintro k n σ' H' ⟨rfl, hk, ρ', r', m', e'⟩
  by_cases hlt : k < z.length
  · refine .inr ⟨hlt, fun σ3 H3 => ∃ ρ3, RepS X.K H3 σ3 ρ3 ∧ Same H1 H3 ∧ forGo i gb ((chars z).drop (k + 1)) ρ3 = some o, fun σ3 H3 ⟨ρ3, a, b, c⟩ => ⟨z.length - (k + 1), by omega, rfl, hlt, ρ3, a, b, c⟩, ?_⟩
    rintro y H2 ⟨rfl, c, hc1, rfl⟩
    have hd : (chars z)[k]? = some (chr1 c) := by simp only [chars, List.getElem?_map, hc1, Option.map_some]
    rw [drop_at hd] at e'
    exact for_turn (Rep.str _) r' m1 m' e' fun ρ3 σ3 H3 m3 r3 e3 => ⟨ρ3, r3, m3, e3⟩
  · refine .inl ⟨Nat.le_of_not_lt hlt, ?_⟩
    have : (chars z).drop k = [] := List.drop_eq_nil_of_le (by rw [hlen]; exact Nat.le_of_not_lt hlt)
    rw [this] at e'
    simp only [forGo, Option.some.injEq] at e'
    exact ⟨ρ', e'.symm, m1.trans m', r'⟩
end

theorem repS_start {K : PySem.W.Frag} {H : Hp} {vs : List V} {ds : List D} (N : List Str) (r : Reps K H vs ds) : RepS K H (L2.start N vs) (FD.start N.length ds) := by
  have hl := r.length
  refine ⟨by simp [L2.start, FD.start, hl], fun i d h => ?_⟩
  simp only [L2.start, FD.start] at h ⊢
  by_cases hi : i < ds.length
  · rw [List.getElem?_append_left (by simpa using hi)] at h
    rw [List.getElem?_append_left (by simpa [hl] using hi)]
    rw [List.getElem?_map] at h ⊢
    cases hd : ds[i]? with
    | none => rw [hd] at h; cases h
    | some d' =>
      rw [hd] at h
      simp only [Option.map_some, Option.some.injEq] at h
      subst h
      obtain ⟨v, hv, p⟩ := r.get hd
      exact ⟨v, by rw [hv]; rfl, p⟩
  · rw [List.getElem?_append_right (by simpa using hi)] at h
    rw [List.getElem?_replicate] at h
    split at h <;> cases h
theorem okF {P : Program} {w : World} {K : PySem.W.Frag} {mg : Str → Option Value} {base : Heap} {x qual : Str} {st : Stmt} {f : Addr} {fd : FuncData} {N ps : List Str} {k : Nat} {g : FS} (F : Fun K x qual st f fd) (S : FnScope N ps (defScope st))
    (hbody : ∀ (cdv : Value) (A : Around) (outer : List Env) (s : Shared) (H : Hp) (E : XK), Room k (A.deeper (envOfC qual (defScope st) s.heap.objs.size f cdv)) →
      FSs (cxOf CX0 P w K mg base N qual (defScope st) f cdv A outer s H E).nox (defBody st) g) : FnOk P w K mg base CX0 (k + 1) f fd ps (spF K (bodyF N.length ps.length g)) := by
  have hlen : ∀ {ds : List D} {d : D}, bodyF N.length ps.length g ds = some d → ds.length = ps.length := fun {ds d} e => by
    simp only [bodyF] at e
    split at e
    · assumption
    · exact nomatch e
  refine F.ok S (fun vs H Q E h => ?_) fun cdv A outer s H vs Q E hr h => ?_
  · obtain ⟨ds, d, r, e, _⟩ := h
    rw [r.length]
    exact hlen e
  obtain ⟨ds, d, r, e, q⟩ := h
  refine ⟨tFS K g, (hbody cdv A outer s H E hr).ps, ?_⟩
  have hv := hlen e
  simp only [bodyF] at e
  rw [if_pos hv] at e
  obtain ⟨o, eo, e⟩ := Option.bind_eq_some_iff.mp e
  refine ⟨_, o, repS_start N r, eo, ?_, ?_, ?_, ?_⟩
  · rintro σ' H' ⟨ρ', rfl, m, _⟩
    simp only [retOf, Option.some.injEq] at e
    subst e
    exact q .non H' m .non
  · rintro v H' ⟨d', rfl, m, p⟩
    simp only [retOf, Option.some.injEq] at e
    subst e
    exact q v H' m p
  · rintro σ' H' ⟨ρ', rfl, _, _⟩
    simp [retOf] at e
  · rintro σ' H' ⟨ρ', rfl, _, _⟩
    simp [retOf] at e
end FD
end
section
set_option Elab.async false
set_option linter.all false
set_option maxRecDepth 100000
set_option maxHeartbeats 4000000
namespace FD
open PySem PySem.Spec PyProof.Rows L2

def clOf (fr : List Str) (env : Env) : List (Str × Addr) := fr.reverse.map fun n => (n, (env.cells.lookup n).getD 0)
/-- the block's table, seen from around it -/
structure CompSc (X : Cx) (scope : Scope) (x : Str) (fr : List Str) (caps : List Nat) : Prop where
  kind : scope.kind = .function
  ncell : ∀ y ∈ scope.names, y.2 ≠ .cell
  names : ∀ y ∈ scope.names, y.2 = .local → scope.names.lookup y.1 = some .local
  hx : scope.names.lookup x = some .local
  frk' : (fr.all fun n => X.env.kindOf n == some .cell) = true
  frl' : (fr.all fun n => (relabel scope X.env).names.lookup n == some .cell || (relabel scope X.env).names.lookup n == some .free) = true
  all' : ((relabel scope X.env).names.all fun y => !(y.2 == .cell || y.2 == .free) || fr.contains y.1) = true
  caps : caps.map (X.N[·]?) = fr.map some
  nd : (x :: fr).Nodup
  clos : closureFor scope X.env = pure (clOf fr X.env)
theorem CompSc.all {X : Cx} {scope : Scope} {x : Str} {fr : List Str} {caps : List Nat} (S : CompSc X scope x fr caps) : ∀ y ∈ (relabel scope X.env).names, (y.2 = .cell ∨ y.2 = .free) → y.1 ∈ fr := fun y hy h => by
  have := List.all_eq_true.mp S.all' y hy
  have h' : (y.2 == .cell || y.2 == .free) = true := by rcases h with h | h <;> simp [h]
  rw [h'] at this
  simpa using this
section
variable {prog : Program} {w : World} {A : Around} {R : Result → Shared → Prop} {s : Shared}
end

section
variable {X : Cx} {pos : Pos}
end
end FD
end
section
set_option Elab.async false
set_option linter.all false
set_option maxRecDepth 100000
set_option maxHeartbeats 4000000
namespace FD
open PySem PySem.Spec PyProof.Rows L2
theorem bt_len : bootBuiltins "len" = some (.builtin "len") := by decide +kernel
theorem bt_isinstance : bootBuiltins "isinstance" = some (.builtin "isinstance") := by decide +kernel
theorem bt_int : bootBuiltins "int" = some (.type "int") := by decide +kernel
theorem bt_bool : bootBuiltins "bool" = some (.type "bool") := by decide +kernel
theorem bt_str : bootBuiltins "str" = some (.type "str") := by decide +kernel
theorem bt_list : bootBuiltins "list" = some (.type "list") := by decide +kernel
theorem bt_tuple : bootBuiltins "tuple" = some (.type "tuple") := by decide +kernel
section
variable {K : PySem.W.Frag}
theorem kit_of {T : String} {t : Ty} (h : ∀ tv ∈ ["NoneType", "bool", "int", "str", "list", "tuple"], (if (Value.type tv == Value.type T) = true then some true else if PySem.W.kitMeta T = true then (PySem.fastBuiltinMro tv).map (·.contains (Value.type T)) else none) = some (decide (tv ∈ match t with | .tup => ["tuple"] | .lst => ["list"] | .int => ["int", "bool"] | .bool => ["bool"] | .str => ["str"]))) :
    ∀ (d : D) (tv : String), plainD d = true → (tv = match d with | .none => "NoneType" | .bool _ => "bool" | .int _ => "int" | .str _ => "str" | .list _ => "list" | .tuple _ => "tuple" | .dict _ => "dict") → PySem.W.kitOne K (.type tv) (.type T) = some (isiB t d) := by
  intro d tv hp e
  have hk : ∀ tv ∈ ["NoneType", "bool", "int", "str", "list", "tuple"], PySem.W.kitOne K (.type tv) (.type T) = some (decide (tv ∈ match t with | .tup => ["tuple"] | .lst => ["list"] | .int => ["int", "bool"] | .bool => ["bool"] | .str => ["str"])) := fun tv htv => h tv htv
  cases d <;> simp only at e <;> subst e <;> first | (cases hp; done) | (rw [hk _ (by simp)]; cases t <;> rfl)
theorem kit_tup : ∀ (d : D) (tv : String), plainD d = true → (tv = match d with | .none => "NoneType" | .bool _ => "bool" | .int _ => "int" | .str _ => "str" | .list _ => "list" | .tuple _ => "tuple" | .dict _ => "dict") → PySem.W.kitOne K (.type tv) (.type "tuple") = some (isiB .tup d) := kit_of (by decide +kernel)
theorem kit_bool : ∀ (d : D) (tv : String), plainD d = true → (tv = match d with | .none => "NoneType" | .bool _ => "bool" | .int _ => "int" | .str _ => "str" | .list _ => "list" | .tuple _ => "tuple" | .dict _ => "dict") → PySem.W.kitOne K (.type tv) (.type "bool") = some (isiB .bool d) := kit_of (by decide +kernel)
theorem kit_str : ∀ (d : D) (tv : String), plainD d = true → (tv = match d with | .none => "NoneType" | .bool _ => "bool" | .int _ => "int" | .str _ => "str" | .list _ => "list" | .tuple _ => "tuple" | .dict _ => "dict") → PySem.W.kitOne K (.type tv) (.type "str") = some (isiB .str d) := kit_of (by decide +kernel)
end
/-- what law(script) promises: for a list of at most 63 ints the answer is True -/
def spLaw (K : PySem.W.Frag) : Sp := fun vs H Q _ => ∃ (a : Addr) (ns : List Int), vs = [.ref a] ∧ SqL K H a (ns.map V.int) ∧ ns.length ≤ 63 ∧ ∀ H', Q (.bl true) H'
theorem reps_ints {K : PySem.W.Frag} {H : Hp} : ∀ ns : List Int, Reps K H (ns.map V.int) (ns.map PyData.int)
  | [] => .nil
  | n :: r => .cons (.int n) (reps_ints r)
theorem sp_of {K : PySem.W.Frag} {F : List D → Option D} (h : ∀ ns : List Int, F [.list (ns.map .int)] = some (.bool true)) : ∀ vs H Q E, spLaw K vs H Q E → spF K F vs H Q E := fun vs H Q E ⟨a, ns, e, hS, _, q⟩ => by
  subst e
  refine ⟨[.list (ns.map .int)], .bool true, .cons (.lst hS (reps_ints ns)) .nil, h ns, fun v H' _ p => ?_⟩
  cases p
  exact q H'
end FD
end
section
set_option Elab.async false
set_option linter.all false
set_option maxRecDepth 100000
set_option maxHeartbeats 4000000
namespace FD
open PySem PySem.Spec PyProof.Rows L2
@[simp] def eChain (g g' : D → D → Option D) (a b c : FE) : FE := fun ρ => (a ρ).bind fun x => (b ρ).bind fun y => ((g x y).bind boolOf).bind fun k => if k then (c ρ).bind fun z => g' y z else some (.bool false)
/-- a loop over range(e) -/
@[simp] def rng (n : Nat) : List D := (List.range n).map fun i => .int (i : Nat)
@[simp] def sForRng (i : Nat) (a : FE) (body : FS) : FS := fun ρ => ((a ρ).bind intOf).bind fun j => if -1000 ≤ j ∧ j ≤ 1000 then forGo i body (rng j.toNat) ρ else none
section
variable {X : Cx} {a b c : Expr} {fa fb fc : FE} {pos : Pos}
def rD (K : PySem.W.Frag) (g : D → D → Option D) : R2 := fun x y H Q => ∃ dx dy d, Rep K H x dx ∧ Rep K H y dy ∧ g dx dy = some d ∧ ∀ v H', Same H H' → Rep K H' v d → Q v H'
theorem OpD.r {f : Value → Value → Sem Value} {g : D → D → Option D} (h : OpD X f g) : OpR X f (rD X.K g) := fun pins s σ H x y u v Q I rx ry ⟨dx, dy, d, px, py, e, q⟩ =>
  thn (h pins s σ H x y u v dx dy d I rx ry px py e) fun u s' ⟨w, H', I', rw', m, p⟩ => ⟨w, H', I', rw', q w H' m p⟩
theorem ft_chain {op op' : CmpOp} {g g' : D → D → Option D} (ho : OpD X (compareOp op) g) (ho' : OpD X (compareOp op') g') (ha : FEx X a fa) (hb : FEx X b fb) (hc : FEx X c fc)
    (hm : lastMarks [op, op'] [b, c] = false := by with_unfolding_all rfl) : FTx X (.Compare a [op, op'] [b, c] pos) (tVal (eChain g g' fa fb fc)) := by
  refine FTx.of (pt_chain ho.r ho'.r ha.pe hb.pe hc.pe hm) fun σ H ρ bb r e => ?_
  simp only [tVal, eChain] at e
  obtain ⟨d, e, ebb⟩ := Option.bind_eq_some_iff.mp e
  obtain ⟨dx, ea, e⟩ := Option.bind_eq_some_iff.mp e
  obtain ⟨dy, eb, e⟩ := Option.bind_eq_some_iff.mp e
  obtain ⟨k, ek, e⟩ := Option.bind_eq_some_iff.mp e
  obtain ⟨dk, eg, ek⟩ := Option.bind_eq_some_iff.mp ek
  refine ⟨ρ, dx, r, ea, fun v H1 m1 p1 => ⟨ρ, dy, r.mono m1, eb, fun w H2 m2 p2 => ⟨dx, dy, dk, p1.mono m2, p2, eg, fun z H3 m3 p3 => ?_⟩⟩⟩
  obtain rfl := of_boolOf p3 ek
  refine ⟨k, rfl, ?_⟩
  have m := (m1.trans m2).trans m3
  cases k with
  | true =>
    rw [if_pos rfl] at e ⊢
    obtain ⟨dz, ec, e⟩ := Option.bind_eq_some_iff.mp e
    refine ⟨ρ, dz, r.mono m, ec, fun z H4 m4 p4 => ⟨dy, dz, d, p2.mono (m3.trans m4), p4, e, fun q H5 m5 p5 => ?_⟩⟩
    obtain rfl := of_boolOf p5 ebb
    exact ⟨bb, rfl, rfl, m.trans (m4.trans m5)⟩
  | false =>
    rw [if_neg Bool.false_ne_true] at e ⊢
    cases e
    simp only [boolOf, Option.some.injEq] at ebb
    subst ebb
    exact ⟨false, rfl, rfl, m⟩
theorem vals_of_get : ∀ {xs : List V} {us : List Value}, xs.length = us.length → (∀ (i : Nat) (x : V), xs[i]? = some x → ∃ u, us[i]? = some u ∧ RelV x u) → Vals xs us
  | [], [], _, _ => .nil
  | [], _ :: _, h, _ => by simp at h
  | _ :: _, [], h, _ => by simp at h
  | x :: xs, u :: us, h, g => by
    obtain ⟨w, e, r⟩ := g 0 x rfl
    simp only [List.getElem?_cons_zero, Option.some.injEq] at e
    subst e
    exact .cons r (vals_of_get (by simpa using h) fun i y e => g (i + 1) y (by simpa using e))
def tRng (ta : TA) : TE := fun σ H Q => ta σ H fun vs H1 => ∃ j : Int, vs = [.int j] ∧ ∀ p, H1 p = none → Q (.ref p) (upd H1 p (.rng 0 j))
theorem pe_rng {a : Expr} {ta : TA} {p pos : Pos} (hg : Gl X "range") (hm : X.mg "range" = none) (ha : PA X [a] ta) (hs : starEach [a] X.env = [(false, eval a X.env)]) : PE X (.Call (.Name "range" p) [a] [] pos) (tRng ta) := by
  intro pins s σ H Q I h
  refine Call_ (ld_blt I hg hm boot_range (PyProof.Rows.callWith_type1 (thn (ha pos pins s σ H _ I h) fun us s1 ⟨vs, H1, I1, r1, q1⟩ => ?_) hs rfl))
  obtain ⟨j, e, q⟩ := q1
  subst e
  cases r1 with
  | cons r rr =>
    cases rr
    obtain ⟨t, rfl⟩ := r
    exact call_range_1 ⟨.ref s1.heap.objs.size, upd H1 s1.heap.objs.size (.rng 0 j), I1.laid (fun b o e => Heap.get?_push_of_some _ e) (Nat.le_refl _) (show ObjOk X.prog X.w _ _ _ (.rng 0 j) from ⟨_, _, _, Heap.get?_push_size _ rfl⟩), rfl, q _ (I1.hok.fresh (Nat.le_refl _))⟩
theorem call_list_rng (calm : X.calm = true) : CallR X (.type "list") (fun xs H Q => ∃ p j, xs = [.ref p] ∧ H p = some (.rng 0 j) ∧ -1000 ≤ j ∧ j ≤ 1000 ∧ ∀ l, H l = none → Q (.ref l) (upd H l (.lst ((List.range j.toNat).map fun i => V.int (i : Nat))))) := by
  intro pins s σ H xs us Q I r h
  obtain ⟨p, j, rfl, hp, h1, h2, q⟩ := h
  obtain ⟨u, rfl, rx⟩ := vals1 r
  cases rx
  obtain ⟨t, u, v, e⟩ := I.hok p _ hp
  refine call_list_range (n := j.toNat) (I.ok.hd calm) e (small_one (by omega) (by omega) (by omega) (by omega)) ?_ (by omega) fun h' tk acc c kp hS hacc => ?_
  · rw [rangeSize_one]; split <;> omega
  have hv : Vals ((List.range j.toNat).map fun i => V.int (i : Nat)) acc.toList := by
    obtain ⟨hl, hi⟩ := hacc
    refine vals_of_get (by simp [hl]) fun i x e => ?_
    simp only [List.getElem?_map] at e
    by_cases hij : i < j.toNat
    · rw [List.getElem?_range hij] at e
      simp only [Option.map_some, Option.some.injEq] at e
      subst e
      obtain ⟨z, hz⟩ : ∃ z, acc[i]? = some z := ⟨acc[i]'(by omega), by simp [hl, hij]⟩
      obtain ⟨tt, rfl⟩ := hi i z hz
      exact ⟨_, by simpa using hz, tt, by simp⟩
    · rw [List.getElem?_eq_none (by simpa using hij)] at e; cases e
  refine ⟨.ref s.heap.objs.size, _, I.laid kp (Nat.le_refl _) (show ObjOk X.prog X.w _ h' _ (.lst ((List.range j.toNat).map fun i => V.int (i : Nat))) from ⟨?_, acc.toList, c, hv, by simpa using hS⟩), rfl, q _ (I.hok.fresh (Nat.le_refl _))⟩
  simp only [List.length_map, List.length_range]
  exact le_line (by omega)
def eListRng (f : FE) : FE := fun ρ => ((f ρ).bind intOf).bind fun j => if -1000 ≤ j ∧ j ≤ 1000 then some (.list (rng j.toNat)) else none
theorem reps_range {K : PySem.W.Frag} {H : Hp} (l : List Nat) : Reps K H (l.map fun i => V.int (i : Nat)) (l.map fun i => .int (i : Nat)) := by
  induction l with
  | nil => exact .nil
  | cons n r ih => exact .cons (.int _) ih
theorem fe_listRng {e : Expr} {f : FE} {p p1 p3 : Pos} (hg : Gl X "range") (hm : X.mg "range" = none) (hg' : Gl X "list") (hm' : X.mg "list" = none) (he : FEx X e f) (calm : X.calm = true := by rfl) (hns : nostar e = true := by rfl) :
    FEx X (.Call (.Name "list" p) [.Call (.Name "range" p1) [e] [] p3] [] pos) (eListRng f) := by
  have hs1 : starEach [e] X.env = [(false, eval e X.env)] := by rw [star_no hns]; rfl
  refine FEx.of (pe_callTy (call_list_rng calm) hg' hm' bt_list (pa_cons (pe_rng hg hm (FAx.pa (fa_cons he fa_nil hns)) hs1) pa_nil (star_no rfl)) (by decide) (by decide) (star_no rfl) rfl) fun σ H ρ d r e => ?_
  simp only [eListRng] at e
  obtain ⟨j, ej, e⟩ := Option.bind_eq_some_iff.mp e
  obtain ⟨dj, ed, ej⟩ := Option.bind_eq_some_iff.mp ej
  split at e
  · rename_i hj
    cases e
    cases dj <;> simp only [intOf] at ej <;> first | contradiction | skip
    cases ej
    refine ⟨ρ, [.int j], r, by simp [ed], fun vs H1 m1 p1 => ?_⟩
    cases p1 with
    | cons p1 p2 =>
      cases p2
      cases p1
      refine ⟨j, rfl, fun q hq => ?_⟩
      refine ⟨q, j, rfl, upd_same, hj.1, hj.2, fun l hl => ?_⟩
      have m2 := same_new hq (.rng 0 j)
      exact ⟨m1.trans (m2.trans (same_new hl _)), rep_new_lst hl (reps_range _)⟩
  · exact nomatch e
end
end FD
end
section
set_option Elab.async false
set_option linter.all false
set_option maxRecDepth 100000
set_option maxHeartbeats 4000000
namespace FD
open PySem PySem.Spec PyProof.Rows L2
def strsD : List D → Option (List Str)
  | [] => some []
  | .str x :: r => (strsD r).map (x :: ·)
  | _ => none
def idxOf (y : Str) : List Str → Option Nat
  | [] => none
  | x :: r => if x = y then some 0 else (idxOf y r).map (· + 1)
def indexD : D → D → Option D
  | .list xs, .str y => (strsD xs).bind fun ss => (idxOf y ss).bind fun j => some (.int (j : Nat))
  | _, _ => none
theorem idxOf_get {y : Str} : ∀ {ss : List Str} {j : Nat}, idxOf y ss = some j → ss[j]? = some y ∧ ∀ m, m < j → ss[m]? ≠ some y
  | [], _, e => by simp [idxOf] at e
  | x :: r, j, e => by
    simp only [idxOf] at e
    split at e
    · rename_i hx
      cases e
      exact ⟨by simp [hx], fun m hm => absurd hm (Nat.not_lt_zero _)⟩
    · rename_i hx
      obtain ⟨k, ek, rfl⟩ := Option.map_eq_some_iff.mp e
      obtain ⟨h1, h2⟩ := idxOf_get ek
      refine ⟨by simpa using h1, fun m hm => ?_⟩
      cases m with
      | zero => simpa using hx
      | succ m => simpa using h2 m (by omega)
theorem reps_strs {K : PySem.W.Frag} {H : Hp} : ∀ {vs : List V} {ds : List D} {ss : List Str}, Reps K H vs ds → strsD ds = some ss → vs = ss.map V.str
  | _, _, _, .nil, e => by simp only [strsD] at e; cases e; rfl
  | _, _, _, .cons h r, e => by
    cases h <;> simp only [strsD] at e <;> first | contradiction | skip
    obtain ⟨ss', e', rfl⟩ := Option.map_eq_some_iff.mp e
    rw [reps_strs r e']; rfl
def strB (y : Str) : Value → Bool
  | .str x _ => x == y
  | _ => false
section
variable {X : Cx} {a b c : Expr} {fa fb fc : FE} {pos : Pos}
theorem mt_index : MtR X "list.index" (fun x vs H Q => ∃ l ss y j, x = .ref l ∧ vs = [.str y] ∧ SqL X.K H l (ss.map V.str) ∧ idxOf y ss = some j ∧ Q (.int (j : Nat)) H) := by
  intro pins s σ H x vs v us Q I rx rv h
  obtain ⟨l, ss, y, j, rfl, rfl, hq, hj, q⟩ := h
  cases rx
  obtain ⟨u, rfl, t, rfl⟩ := rv.one
  obtain ⟨its, rs, ⟨o, n, e, c, _, d⟩, hz⟩ := I.list hq
  have hl := rs.length
  obtain ⟨h1, h2⟩ := idxOf_get hj
  have hj' : j < ss.length := (List.getElem?_eq_some_iff.mp h1).1
  have key : ∀ m (hm : m < its.toArray.size), ∃ z tt, ss[m]? = some z ∧ its.toArray[m] = .str z tt := fun m hm => by
    have hm' : m < ss.length := by simpa [← hl] using hm
    obtain ⟨z, hz⟩ : ∃ z, ss[m]? = some z := ⟨ss[m], by simp [hm']⟩
    obtain ⟨w, hw, tt, rfl⟩ := rs.get (i := m) (x := .str z) (by simp [hz])
    refine ⟨z, tt, hz, ?_⟩
    have : its.toArray[m]? = some (Value.str z tt) := by simpa using hw
    exact (Array.getElem?_eq_some_iff.mp this).2
  obtain ⟨cls, dict, data, slots⟩ := o
  simp only at c d
  subst c d
  refine call_meets F.slot_list_index ⟨_, e, rfl⟩ F.entry_list_index (F.args_list_index_2 _ _) (PySem.SeqAt.list_indexAt l its.toArray n dict slots _ (strB y) j (by simp [← hl]; omega) ?_ ?_ ?_) ⟨e, ?_, ?_⟩
  · have : (sizeLine : Nat) < 2 ^ 63 - 1 := by decide
    simp at hz; omega
  · obtain ⟨z, tt, hz, hi⟩ := key j (by simp [← hl]; omega)
    rw [hi]
    rw [h1] at hz; cases hz
    simp [strB]
  · intro m hm hmj
    obtain ⟨z, tt, hz, hi⟩ := key m hm
    rw [hi]
    have := h2 m hmj
    rw [hz] at this
    simp only [strB]
    simpa using this
  · intro w hw
    obtain ⟨m, hm, rfl⟩ := Array.mem_iff_getElem.mp hw
    obtain ⟨z, tt, hz, hi⟩ := key m hm
    rw [hi]
    exact (eqGives_str z y tt t).at _ _
  · exact ⟨.int (j : Nat), H, I.tok _, ⟨_, rfl⟩, q⟩
theorem fe_index {apos cpos : Pos} (ha : FEx X a fa) (hb : FEx X b fb) (hbase : attributeBase a "index" X.env (eval a X.env) = eval a X.env := by rfl)
    (hns : nostar b = true := by rfl)
    (hfew : ((backTo cpos (starEach [b] X.env)).all (fun x => !x.1) && (backToKw cpos (keywordEach [] X.env)).all (fun x => x.1.isSome)
      && decide (([b] : List Expr).length + ([] : List Keyword).length + (if ([] : List Keyword).isEmpty then 0 else 1) < 30)) = true := by rfl)
    (hline : (apos.endLine == cpos.line) = true := by rfl) :
    FEx X (.Call (.Attribute a "index" apos) [b] [] cpos) (eBin indexD fa fb) := by
  refine FEx.of (pe_bm PySem.F.plainAttrs_list PySem.F.slot_list_index PySem.F.type_list_index mt_index ha.pe (pa_cons hb.pe pa_nil (star_no hns)) hbase hfew hline (star_no hns) rfl) fun σ H ρ d r e => ?_
  simp only [eBin] at e
  obtain ⟨dx, ea, e⟩ := Option.bind_eq_some_iff.mp e
  obtain ⟨dy, eb, e⟩ := Option.bind_eq_some_iff.mp e
  cases dx <;> cases dy <;> simp only [indexD] at e <;> first | contradiction | skip
  obtain ⟨ss, es, e⟩ := Option.bind_eq_some_iff.mp e
  obtain ⟨j, ej, e⟩ := Option.bind_eq_some_iff.mp e
  cases e
  refine ⟨ρ, _, r, ea, fun v H1 m1 p1 => ?_⟩
  cases p1
  rename_i l xs hq q
  have hv := reps_strs q es
  subst hv
  refine ⟨.inl ⟨rfl, _, hq⟩, ρ, _, r.mono m1, eb, fun v2 H2 m2 p2 => ?_⟩
  cases p2
  exact ⟨l, ss, _, j, rfl, rfl, m2.seq hq, ej, m1.trans m2, .int _⟩
end
end FD
end
section
set_option Elab.async false
set_option linter.all false
set_option maxRecDepth 100000
set_option maxHeartbeats 4000000
namespace FD
open PySem PySem.Spec PyProof.Rows L2
mutual
def imm : D → Bool
  | .list _ => false
  | .dict _ => false
  | .tuple xs => immAll xs
  | _ => true
def immAll : List D → Bool
  | [] => true
  | x :: r => imm x && immAll r
end
/-- the abstract heap without the def's own lists -/
def hid (as : List Addr) (H : Hp) : Hp := fun b => if b ∈ as then none else H b
def Cells (as : List Addr) (H : Hp) : Prop := ∀ a ∈ as, ∃ vs, H a = some (.lst vs)
theorem hid_nil (H : Hp) : hid [] H = H := by funext b; simp [hid]
theorem hid_in {as : List Addr} {H : Hp} {b : Addr} (h : b ∈ as) : hid as H b = none := if_pos h
theorem hid_out {as : List Addr} {H : Hp} {b : Addr} (h : b ∉ as) : hid as H b = H b := if_neg h
theorem hid_some {as : List Addr} {H : Hp} {b : Addr} {o : HO} (h : hid as H b = some o) : b ∉ as ∧ H b = some o := by
  by_cases hb : b ∈ as
  · rw [hid_in hb] at h; cases h
  · rw [hid_out hb] at h; exact ⟨hb, h⟩
theorem hid_same (as : List Addr) (H : Hp) : Same (hid as H) H := fun b o h => (hid_some h).2
theorem hid_mono {as : List Addr} {H H' : Hp} (m : Same H H') : Same (hid as H) (hid as H') := fun b o h => by
  obtain ⟨h1, h2⟩ := hid_some h
  rw [hid_out h1]; exact m b o h2
theorem Cells.mono {as : List Addr} {H H' : Hp} (c : Cells as H) (m : Same H H') : Cells as H' := fun a ha => let ⟨vs, h⟩ := c a ha; ⟨vs, m a _ h⟩
theorem sqT_hid {K : PySem.W.Frag} {as : List Addr} {H : Hp} {a : Addr} {xs : List V} (c : Cells as H) (h : SqT K H a xs) : SqT K (hid as H) a xs := by
  have out : ∀ u, H a = some u → (∀ vs, u ≠ .lst vs) → hid as H a = some u := fun u e n => by
    rw [hid_out (fun ha => ?_)]
    · exact e
    · obtain ⟨vs, e'⟩ := c a ha
      rw [e] at e'; cases e'; exact n vs rfl
  rcases h with (h | ⟨o, h⟩) | h
  · exact .inl (.inl (out _ h (by simp)))
  · exact .inl (.inr ⟨o, out _ h (by simp)⟩)
  · exact .inr h
mutual
theorem rep_hid {K : PySem.W.Frag} {as : List Addr} {H : Hp} (c : Cells as H) : ∀ {v : V} {d : D}, Rep K H v d → imm d = true → Rep K (hid as H) v d
  | _, _, .non, _ => .non
  | _, _, .bl b, _ => .bl b
  | _, _, .int i, _ => .int i
  | _, _, .str x, _ => .str x
  | _, _, .lst _ _, e => by simp [imm] at e
  | _, _, .tup h r, e => .tup (sqT_hid c h) (reps_hid c r (by simpa [imm] using e))
theorem reps_hid {K : PySem.W.Frag} {as : List Addr} {H : Hp} (c : Cells as H) : ∀ {vs : List V} {ds : List D}, Reps K H vs ds → immAll ds = true → Reps K (hid as H) vs ds
  | _, _, .nil, _ => .nil
  | _, _, .cons h r, e => by
    simp only [immAll, Bool.and_eq_true] at e
    exact .cons (rep_hid c h e.1) (reps_hid c r e.2)
end
section
variable {X : Cx} {pins : List (Addr × Obj)} {σ : St} {H H' : Hp} {s s' : Shared} {as : List Addr}
theorem cell_nofs (I : Inv X pins σ H s) (c : Cells as H) : ∀ a ∈ as, a ∉ X.fs := fun a ha hf => by
  obtain ⟨vs, e⟩ := c a ha
  obtain ⟨hb, o, ho, _⟩ := I.ok.funs.mem hf
  have := I.base.free a o ho (I.ok.frf a hf) (fun hx => I.ok.exfs a hx hf)
  rw [e] at this; cases this
theorem hid_keep {b : Addr} {u : HO} (c : Cells as H) (e : H b = some u) (n : ∀ vs, u ≠ .lst vs) : hid as H b = some u := by
  rw [hid_out (fun ha => ?_)]
  · exact e
  · obtain ⟨vs, e'⟩ := c b ha
    rw [e] at e'; cases e'; exact n vs rfl
theorem hid_none {b : Addr} (e : H b = none) : hid as H b = none := by
  by_cases h : b ∈ as
  · exact hid_in h
  · rw [hid_out h]; exact e
theorem inv_hide (I : Inv X pins σ H s) (c : Cells as H) : Inv X (pins ++ pinsAt as s.heap) σ (hid as H) s where
  ok := I.ok
  os := I.os
  bare := I.bare
  base := ⟨I.base.keep, I.base.slot, fun b o q n hx => hid_none (I.base.free b o q n hx), I.base.there, fun b xs q => hid_keep c (I.base.tups b xs q) (by simp), fun b o u q => hid_keep c (I.base.frzs b o u q) (by simp),
    fun b ps q => let ⟨more, e⟩ := I.base.tbls b ps q; ⟨more, hid_keep c e (by simp)⟩⟩
  loc := I.loc
  cell := I.cell
  free := hid_none I.free
  freeC := fun x k e => hid_none (I.freeC x k e)
  pin := fun p hp => by
    rcases List.mem_append.mp hp with hp | hp
    · obtain ⟨h1, h2, h3⟩ := I.pin p (List.mem_append_left _ hp)
      exact ⟨h1, hid_none h2, h3⟩
    rcases List.mem_append.mp hp with hp | hp
    · obtain ⟨h1, h2, h3⟩ := I.pin p (List.mem_append_right _ hp)
      exact ⟨h1, hid_none h2, h3⟩
    · obtain ⟨h1, h2⟩ := of_pinsAt hp
      obtain ⟨vs, e⟩ := c p.1 h1
      obtain ⟨its, n, _, ho, _⟩ := I.lst e
      rw [h2] at ho
      refine ⟨h2, hid_in h1, fun z => ?_, cell_nofs I c _ h1, fun v z => ?_⟩
      · rw [z, I.free] at e; cases e
      · rw [Option.some.inj ho] at z; cases z
  hok := fun a o e => by
    obtain ⟨h1, h2⟩ := hid_some e
    exact (I.hok a o h2).stay (fun b u _ q => q) (fun b q => hid_keep c q (by simp)) fun b xs q => hid_keep c q (by simp)
  len := I.len
/-- the hidden part as it was, the rest as it is now -/
def both (as : List Addr) (H H' : Hp) : Hp := fun b => if b ∈ as then H b else H' b
theorem both_in {b : Addr} (h : b ∈ as) : both as H H' b = H b := if_pos h
theorem both_out {b : Addr} (h : b ∉ as) : both as H H' b = H' b := if_neg h
theorem inv_unhide (I : Inv X pins σ H s) (c : Cells as H) (I' : Inv X (pins ++ pinsAt as s.heap) σ H' s') (m : Same (hid as H) H') :
    Inv X pins σ (both as H H') s' ∧ Same H (both as H H') ∧ Same H' (hid as (both as H H')) := by
  have objs : ∀ a ∈ as, ∃ o, s.heap.get? a = some o ∧ s'.heap.get? a = some o ∧ H' a = none := fun a ha => by
    obtain ⟨vs, e⟩ := c a ha
    obtain ⟨its, n, _, ho, _⟩ := I.lst e
    obtain ⟨h1, h2, _⟩ := I'.pin (a, _) (List.mem_append_right _ (List.mem_append_right _ (mem_pinsAt ha ho)))
    exact ⟨_, ho, h1, h2⟩
  have up : ∀ b u, H' b = some u → both as H H' b = some u := fun b u e => by
    rw [both_out (fun ha => ?_)]
    · exact e
    · obtain ⟨o, _, _, h⟩ := objs b ha
      rw [e] at h; cases h
  have same : Same H (both as H H') := fun b o e => by
    by_cases hb : b ∈ as
    · rw [both_in hb]; exact e
    · rw [both_out hb]; exact m b o (by rw [hid_out hb]; exact e)
  have none' : ∀ b, H b = none → H' b = none → both as H H' b = none := fun b h h' => by
    by_cases hb : b ∈ as
    · rw [both_in hb]; exact h
    · rw [both_out hb]; exact h'
  refine ⟨⟨I'.ok, I'.os, I'.bare, ?_, I'.loc, I'.cell, none' _ I.free I'.free, fun x k e => none' _ (I.freeC x k e) (I'.freeC x k e), ?_, ?_, I'.len⟩, same, fun b o e => ?_⟩
  · exact ⟨I'.base.keep, I'.base.slot, fun b o q n hx => none' _ (I.base.free b o q n hx) (I'.base.free b o q n hx), I'.base.there, fun b xs q => up _ _ (I'.base.tups b xs q), fun b o u q => up _ _ (I'.base.frzs b o u q),
      fun b ps q => let ⟨more, e⟩ := I'.base.tbls b ps q; ⟨more, up _ _ e⟩⟩
  · intro p hp
    obtain ⟨h1, h2, h3⟩ := I'.pin p (by
      rcases List.mem_append.mp hp with hp | hp
      · exact List.mem_append_left _ hp
      · exact List.mem_append_right _ (List.mem_append_left _ hp))
    exact ⟨h1, none' _ (I.pin p hp).2.1 h2, h3⟩
  · intro a o e
    by_cases ha : a ∈ as
    · rw [both_in ha] at e
      obtain ⟨vs, e'⟩ := c a ha
      rw [e] at e'; cases e'
      obtain ⟨ob, h1, h2, _⟩ := objs a ha
      obtain ⟨z, its, n, r, e2⟩ := I.hok a _ e
      rw [h1] at e2
      exact ⟨z, its, n, r, by rw [h2]; exact e2⟩
    · rw [both_out ha] at e
      exact (I'.hok a o e).stay (fun b u _ q => q) (fun b q => up _ _ q) fun b xs q => up _ _ q
  · have := up b o e
    rw [hid_out (fun ha => ?_)]
    · exact this
    · obtain ⟨ob, _, _, h⟩ := objs b ha
      rw [e] at h; cases h
end
end FD
end
section
set_option Elab.async false
set_option linter.all false
set_option maxRecDepth 100000
set_option maxHeartbeats 4000000
namespace FD
open PySem PySem.Spec PyProof.Rows L2
/-- the state of a def that changes lists: its data (an own list by its contents), which slot bears which own list, how many own lists there are -/
structure MSt where
  ρ : En
  cm : List (Option Nat)
  k : Nat
@[simp] def hidR (m : MSt) : En := List.zipWith (fun (d : Option D) (c : Option Nat) => if c.isSome then none else d) m.ρ m.cm
@[simp] def MSt.set (m : MSt) (i : Nat) (d : D) : MSt := ⟨m.ρ.set i (some d), m.cm.set i none, m.k⟩
@[simp] def MSt.own (m : MSt) (i : Nat) (ds : List D) : MSt := ⟨m.ρ.set i (some (.list ds)), m.cm.set i (some m.k), m.k + 1⟩
@[simp] def MSt.put (m : MSt) (j : Nat) (ds : List D) : MSt := ⟨List.zipWith (fun (d : Option D) (c : Option Nat) => if c = some j then some (.list ds) else d) m.ρ m.cm, m.cm, m.k⟩
/-- which own list the slot bears, and its contents -/
@[simp] def MSt.cell (m : MSt) (i : Nat) : Option (Nat × List D) := match m.cm[i]?, m.ρ[i]? with
  | some (some j), some (some (.list ds)) => some (j, ds)
  | _, _ => none
structure MRep (K : PySem.W.Frag) (as : List Addr) (H : Hp) (σ : St) (m : MSt) : Prop where
  len : m.ρ.length = σ.length
  lenC : m.cm.length = σ.length
  nd : as.Nodup
  lk : as.length = m.k
  cells : Cells as H
  dat : ∀ (i : Nat) (d : D), m.cm[i]? = some none → m.ρ[i]? = some (some d) → ∃ v, σ[i]? = some (some v) ∧ Rep K (hid as H) v d
  own : ∀ (i j : Nat), m.cm[i]? = some (some j) → ∃ a ds vs, as[j]? = some a ∧ m.ρ[i]? = some (some (.list ds)) ∧ σ[i]? = some (some (.ref a)) ∧ H a = some (.lst vs) ∧ Reps K (hid as H) vs ds
section
variable {K : PySem.W.Frag} {as : List Addr} {H H' : Hp} {σ : St} {m : MSt}
theorem MRep.mono (r : MRep K as H σ m) (e : Same H H') : MRep K as H' σ m where
  len := r.len
  lenC := r.lenC
  nd := r.nd
  lk := r.lk
  cells := r.cells.mono e
  dat := fun i d h1 h2 => let ⟨v, h3, h4⟩ := r.dat i d h1 h2; ⟨v, h3, h4.mono (hid_mono e)⟩
  own := fun i j h => let ⟨a, ds, vs, h1, h2, h3, h4, h5⟩ := r.own i j h; ⟨a, ds, vs, h1, h2, h3, e _ _ h4, h5.mono (hid_mono e)⟩
theorem MRep.cmAt (r : MRep K as H σ m) {i : Nat} {o : Option D} (h : m.ρ[i]? = some o) : ∃ c, m.cm[i]? = some c := by
  have h1 : i < m.ρ.length := (List.getElem?_eq_some_iff.mp h).1
  have h2 : i < m.cm.length := by rw [r.lenC, ← r.len]; exact h1
  exact ⟨m.cm[i], by simp [h2]⟩
/-- all in sight -/
theorem MRep.vis (r : MRep K as H σ m) : RepS K H σ m.ρ := by
  refine ⟨r.len, fun i d h => ?_⟩
  obtain ⟨c, hc⟩ := r.cmAt h
  cases c with
  | none => obtain ⟨v, h1, h2⟩ := r.dat i d hc h; exact ⟨v, h1, h2.mono (hid_same _ _)⟩
  | some j =>
    obtain ⟨a, ds, vs, h1, h2, h3, h4, h5⟩ := r.own i j hc
    rw [h] at h2; cases h2
    exact ⟨_, h3, .lst (.inl (.inl h4)) (h5.mono (hid_same _ _))⟩
/-- the own lists out of sight -/
theorem MRep.hidden (r : MRep K as H σ m) : RepS K (hid as H) σ (hidR m) := by
  refine ⟨by simp [r.len, r.lenC], fun i d h => ?_⟩
  simp only [hidR, List.getElem?_zipWith] at h
  cases hr : m.ρ[i]? with
  | none => rw [hr] at h; simp at h
  | some o =>
    obtain ⟨c, hc⟩ := r.cmAt hr
    rw [hr, hc] at h
    cases c with
    | none =>
      have h' : o = some d := by simpa using h
      subst h'
      exact r.dat i d hc hr
    | some j => simp at h
theorem MRep.set (r : MRep K as H σ m) {v : V} {d : D} (p : Rep K (hid as H) v d) (i : Nat) : MRep K as H (σ.set i (some v)) (m.set i d) where
  len := by simp [r.len]
  lenC := by simp [r.lenC]
  nd := r.nd
  lk := r.lk
  cells := r.cells
  dat := fun n e h1 h2 => by
    simp only [MSt.set, List.getElem?_set] at h1 h2 ⊢
    by_cases c : i = n
    · rw [if_pos c] at h1 h2 ⊢
      by_cases hl : i < m.ρ.length
      · rw [if_pos hl] at h2
        rw [if_pos (by rw [← r.len]; exact hl)]
        simp only [Option.some.injEq] at h2
        subst h2
        exact ⟨v, rfl, p⟩
      · rw [if_neg hl] at h2; cases h2
    · rw [if_neg c] at h1 h2 ⊢
      exact r.dat n e h1 h2
  own := fun n j h => by
    simp only [MSt.set, List.getElem?_set] at h ⊢
    by_cases c : i = n
    · rw [if_pos c] at h
      split at h <;> simp at h
    · rw [if_neg c] at h ⊢
      rw [if_neg c]
      exact r.own n j h
theorem hid_new {p : Addr} {o : HO} (h : H p = none) : Same (hid as H) (hid (as ++ [p]) (upd H p o)) := fun b u e => by
  obtain ⟨h1, h2⟩ := hid_some e
  have hb : b ≠ p := ne_of_none h2 h
  rw [hid_out (by simp [h1, hb]), upd_ne hb]
  exact h2
theorem MRep.new (r : MRep K as H σ m) {p : Addr} {vs : List V} {ds : List D} (hp : H p = none) (q : Reps K (hid as H) vs ds) (i : Nat) : MRep K (as ++ [p]) (upd H p (.lst vs)) (σ.set i (some (.ref p))) (m.own i ds) where
  len := by simp [r.len]
  lenC := by simp [r.lenC]
  nd := by
    refine List.nodup_append.mpr ⟨r.nd, by simp, fun a ha b hb => ?_⟩
    have : b = p := by simpa using hb
    subst this
    rintro rfl
    obtain ⟨vs, e⟩ := r.cells a ha
    rw [hp] at e; cases e
  lk := by simp [r.lk]
  cells := fun a ha => by
    rcases List.mem_append.mp ha with ha | ha
    · obtain ⟨xs, e⟩ := r.cells a ha
      exact ⟨xs, by rw [upd_ne (ne_of_none e hp)]; exact e⟩
    · have : a = p := by simpa using ha
      subst this
      exact ⟨vs, upd_same⟩
  dat := fun n e h1 h2 => by
    simp only [MSt.own, List.getElem?_set] at h1 h2 ⊢
    by_cases c : i = n
    · rw [if_pos c] at h1
      split at h1 <;> simp at h1
    · rw [if_neg c] at h1 h2 ⊢
      obtain ⟨v, a1, a2⟩ := r.dat n e h1 h2
      exact ⟨v, a1, a2.mono (hid_new hp)⟩
  own := fun n j h => by
    simp only [MSt.own, List.getElem?_set] at h ⊢
    by_cases c : i = n
    · rw [if_pos c] at h ⊢
      by_cases hl : i < m.cm.length
      · rw [if_pos hl] at h
        simp only [Option.some.injEq] at h
        subst h
        rw [if_pos c, if_pos (show i < m.ρ.length by rw [r.len, ← r.lenC]; exact hl), if_pos (show i < σ.length by rw [← r.lenC]; exact hl)]
        exact ⟨p, ds, vs, by rw [← r.lk]; simp, rfl, rfl, upd_same, q.mono (hid_new hp)⟩
      · rw [if_neg hl] at h; cases h
    · rw [if_neg c] at h ⊢
      rw [if_neg c]
      obtain ⟨a, es, ws, h1, h2, h3, h4, h5⟩ := r.own n j h
      exact ⟨a, es, ws, by rw [List.getElem?_append_left (List.getElem?_eq_some_iff.mp h1).1]; exact h1, h2, h3, by rw [upd_ne (ne_of_none h4 hp)]; exact h4, h5.mono (hid_new hp)⟩
theorem hid_upd {a : Addr} {o : HO} (h : a ∈ as) : hid as (upd H a o) = hid as H := by
  funext b
  by_cases hb : b ∈ as
  · rw [hid_in hb, hid_in hb]
  · rw [hid_out hb, hid_out hb, upd_ne (fun e : b = a => hb (by rw [e]; exact h))]
theorem MRep.put (r : MRep K as H σ m) {j : Nat} {a : Addr} {vs : List V} {ds : List D} (ha : as[j]? = some a) (q : Reps K (hid as H) vs ds) : MRep K as (upd H a (.lst vs)) σ (m.put j ds) where
  len := by simp [r.len, r.lenC]
  lenC := r.lenC
  nd := r.nd
  lk := r.lk
  cells := fun b hb => by
    by_cases e : b = a
    · subst e; exact ⟨vs, upd_same⟩
    · rw [upd_ne e]; exact r.cells b hb
  dat := fun n e h1 h2 => by
    have hm := List.mem_of_getElem? ha
    rw [hid_upd hm]
    simp only [MSt.put] at h1 h2
    rw [List.getElem?_zipWith, h1] at h2
    cases hr : m.ρ[n]? with
    | none => rw [hr] at h2; simp at h2
    | some o =>
      rw [hr] at h2
      have h' : o = some e := by simpa using h2
      subst h'
      exact r.dat n e h1 hr
  own := fun n j' h => by
    have hm := List.mem_of_getElem? ha
    rw [hid_upd hm]
    obtain ⟨b, es, ws, h1, h2, h3, h4, h5⟩ := r.own n j' h
    simp only [MSt.put, List.getElem?_zipWith, h, h2] at h ⊢
    by_cases e : j' = j
    · subst e
      rw [ha] at h1; cases h1
      exact ⟨_, ds, vs, ha, by simp, h3, upd_same, q⟩
    · have hne : b ≠ a := by
        rintro rfl
        exact e ((List.getElem?_inj (List.getElem?_eq_some_iff.mp h1).1 r.nd).mp (h1.trans ha.symm))
      exact ⟨b, es, ws, h1, by simp [e], h3, by rw [upd_ne hne]; exact h4, h5⟩
end
end FD
end
section
set_option Elab.async false
set_option linter.all false
set_option maxRecDepth 100000
set_option maxHeartbeats 4000000
namespace FD
open PySem PySem.Spec PyProof.Rows L2
/-- an expression's datum in such a state: by the own lists unseen, or seen, if the datum holds no list -/
def ev (f : FE) (m : MSt) : Option D := match f (hidR m) with
  | some d => some d
  | none => (f m.ρ).bind fun d => if imm d then some d else none
inductive MOut where
  | nx (m : MSt) | rt (d : D) | bk (m : MSt) | ct (m : MSt)
abbrev FM := MSt → Option MOut
@[simp] def mNil : FM := fun m => some (.nx m)
@[simp] def mSeq (a b : FM) : FM := fun m => (a m).bind fun o => match o with
  | .nx m' => b m'
  | .rt d => some (.rt d)
  | .bk m' => some (.bk m')
  | .ct m' => some (.ct m')
@[simp] def mRet (f : FE) : FM := fun m => (f m.ρ).bind fun d => some (.rt d)
@[simp] def mIf (t : FT) (a b : FM) : FM := fun m => (t m.ρ).bind fun c => if c then a m else b m
@[simp] def mBrk : FM := fun m => some (.bk m)
@[simp] def mCnt : FM := fun m => some (.ct m)
@[simp] def mSet (i : Nat) (f : FE) : FM := fun m => (ev f m).bind fun d => some (.nx (m.set i d))
@[simp] def mOwn (i : Nat) (g : FA) : FM := fun m => (g m.ρ).bind fun ds => if immAll ds then some (.nx (m.own i ds)) else none
@[simp] def mApp (i : Nat) (f : FE) : FM := fun m => (m.cell i).bind fun c => (ev f m).bind fun d => if c.2.length < 1000 then some (.nx (m.put c.1 (c.2 ++ [d]))) else none
@[simp] def mPut (i : Nat) (fk f : FE) : FM := fun m => (ev f m).bind fun d => ((fk m.ρ).bind intOf).bind fun k => (m.cell i).bind fun c => (ixN c.2.length k).bind fun j => some (.nx (m.put c.1 (c.2.set j d)))
/-- name = [one, other][e] -/
@[simp] def MSt.ali (m : MSt) (i y : Nat) : MSt := ⟨m.ρ.set i (m.ρ[y]?.getD none), m.cm.set i (m.cm[y]?.getD none), m.k⟩
@[simp] def mPick (i y z : Nat) (f : FE) : FM := fun m => (m.cell y).bind fun _ => (m.cell z).bind fun _ => ((f m.ρ).bind intOf).bind fun k => if k = 0 then some (.nx (m.ali i y)) else if k = 1 then some (.nx (m.ali i z)) else none
def mforGo (i : Nat) (body : FM) : List D → MSt → Option MOut
  | [], m => some (.nx m)
  | x :: r, m => (body (m.set i x)).bind fun o => match o with
    | .nx m' => mforGo i body r m'
    | .ct m' => mforGo i body r m'
    | .bk m' => some (.nx m')
    | .rt d => some (.rt d)
@[simp] def mFor (i : Nat) (src : FE) (body : FM) : FM := fun m => ((src (hidR m)).bind seqOf).bind fun xs => mforGo i body xs m
@[simp] def mForRng (i : Nat) (a : FE) (body : FM) : FM := fun m => ((a m.ρ).bind intOf).bind fun j => if -1000 ≤ j ∧ j ≤ 1000 then mforGo i body (rng j.toNat) m else none
@[simp] def mstart (n : Nat) (ds : List D) : MSt := ⟨start n ds, List.replicate n none, 0⟩
@[simp] def mretOf : MOut → Option D
  | .rt d => some d
  | .nx _ => some .none
  | _ => none
@[simp] def bodyM (n np : Nat) (s : FM) (ds : List D) : Option D := if ds.length = np ∧ np ≤ n then (s (mstart n ds)).bind mretOf else none

def mends (K : PySem.W.Frag) (as : List Addr) (H : Hp) (o : MOut) : Ends where
  nx := fun σ' H' => ∃ m' as', o = .nx m' ∧ Same (hid as H) (hid as' H') ∧ MRep K as' H' σ' m'
  rt := fun v H' => ∃ d, o = .rt d ∧ Same (hid as H) H' ∧ Rep K H' v d
  bk := fun σ' H' => ∃ m' as', o = .bk m' ∧ Same (hid as H) (hid as' H') ∧ MRep K as' H' σ' m'
  ct := fun σ' H' => ∃ m' as', o = .ct m' ∧ Same (hid as H) (hid as' H') ∧ MRep K as' H' σ' m'
theorem mends_up {K : PySem.W.Frag} {as as1 : List Addr} {H H1 : Hp} {o : MOut} (m : Same (hid as H) (hid as1 H1)) : Ent (mends K as1 H1 o) (mends K as H o) where
  nx := fun _ _ ⟨m', as', e, s, r⟩ => ⟨m', as', e, m.trans s, r⟩
  rt := fun _ _ ⟨d, e, s, r⟩ => ⟨d, e, m.trans s, r⟩
  bk := fun _ _ ⟨m', as', e, s, r⟩ => ⟨m', as', e, m.trans s, r⟩
  ct := fun _ _ ⟨m', as', e, s, r⟩ => ⟨m', as', e, m.trans s, r⟩
def MSxR (X : Cx) (st : Stmt) (g : FM) : Prop :=
  ∀ (pins : List (Addr × Obj)) (s : Shared) (σ : St) (H : Hp) (as : List Addr) (m : MSt) (o : MOut), Inv X pins σ H s → MRep X.K as H σ m → g m = some o → wpAny (model X.prog X.w) X.A (exec st X.env) (SP X pins (mends X.K as H o)) X.xe s
structure MSx (X : Cx) (st : Stmt) (g : FM) : Prop where
  go : MSxR X st g
def MSsR (X : Cx) (sts : List Stmt) (g : FM) : Prop :=
  ∀ (pins : List (Addr × Obj)) (s : Shared) (σ : St) (H : Hp) (as : List Addr) (m : MSt) (o : MOut), Inv X pins σ H s → MRep X.K as H σ m → g m = some o → wpAny (model X.prog X.w) X.A (execs sts X.env) (SP X pins (mends X.K as H o)) X.xe s
structure MSs (X : Cx) (sts : List Stmt) (g : FM) : Prop where
  go : MSsR X sts g
def tM (K : PySem.W.Frag) (g : FM) : TS := fun D σ H => ∃ (as : List Addr) (m : MSt) (o : MOut), MRep K as H σ m ∧ g m = some o ∧ Ent (mends K as H o) D
theorem MSs.ps {X : Cx} {sts : List Stmt} {g : FM} (h : MSs X sts g) : PSs X sts (tM X.K g) := fun pins s σ H D I ⟨as, m, o, r, e, k⟩ => thn (h.go pins s σ H as m o I r e) fun f s' q => spImp q k
theorem MSx.of {X : Cx} {st : Stmt} {g : FM} {t : TS} (h : PS X st t) (hq : ∀ σ H as m o, MRep X.K as H σ m → g m = some o → t (mends X.K as H o) σ H) : MSx X st g :=
  ⟨fun pins s σ H as m o I r e => h pins s σ H _ I (hq σ H as m o r e)⟩
/-- an expression, as it is read in such a state -/
def tE (K : PySem.W.Frag) (f : FE) : TE := fun σ H Q => ∃ (as : List Addr) (m : MSt) (d : D), MRep K as H σ m ∧ ev f m = some d ∧ ∀ v H', Same H H' → Rep K (hid as H') v d → Q v H'
def tH (K : PySem.W.Frag) (f : FE) : TE := fun σ H Q => ∃ (as : List Addr) (m : MSt) (d : D), MRep K as H σ m ∧ f (hidR m) = some d ∧ ∀ v H', Same H H' → Rep K (hid as H') v d → Q v H'
section
variable {X : Cx} {pos : Pos} {e : Expr} {f : FE}
theorem FEx.ph (h : FEx X e f) : PE X e (tH X.K f) := by
  intro pins s σ H Q I ⟨as, m, d, r, ed, q⟩
  refine thn (h _ s σ (hid as H) (hidR m) d (inv_hide I r.cells) r.hidden ed) fun u s' ⟨v, H', I', rv, mm, p⟩ => ?_
  obtain ⟨I2, sm, sm2⟩ := inv_unhide I r.cells I' mm
  exact ⟨v, _, I2, rv, q v _ sm (p.mono sm2)⟩
theorem FEx.pm (h : FEx X e f) : PE X e (tE X.K f) := by
  intro pins s σ H Q I ⟨as, m, d, r, ed, q⟩
  unfold ev at ed
  split at ed
  · rename_i d' ed'
    cases ed
    exact h.ph pins s σ H Q I ⟨as, m, d, r, ed', q⟩
  · obtain ⟨d', ed', ed⟩ := Option.bind_eq_some_iff.mp ed
    split at ed
    · rename_i hi
      cases ed
      exact thn (h pins s σ H m.ρ d I r.vis ed') fun u s' ⟨v, H', I', rv, mm, p⟩ => ⟨v, H', I', rv, q v H' mm (rep_hid (r.cells.mono mm) p hi)⟩
    · cases ed
theorem ms_nil : MSs X [] mNil := by
  refine ⟨fun pins s σ H as m o I r e => ?_⟩
  simp only [mNil, Option.some.injEq] at e
  subst e
  exact wpAny_execs_nil ⟨σ, H, I, m, as, rfl, Same.refl _, r⟩
theorem ms_one {st : Stmt} {g : FM} (h : MSx X st g) : MSs X [st] g := by
  refine ⟨fun pins s σ H as m o I r e => ?_⟩
  refine wpAny_execs_cons (thn (h.go pins s σ H as m o I r e) fun f s1 q => ?_)
  cases f with
  | next => exact wpAny_execs_nil q
  | ret v => exact q
  | brk => exact q
  | cont => exact q
theorem ms_cons {st : Stmt} {rest : List Stmt} {g1 g2 : FM} (h1 : MSx X st g1) (h2 : MSs X rest g2) : MSs X (st :: rest) (mSeq g1 g2) := by
  refine ⟨fun pins s σ H as m o I r e => ?_⟩
  simp only [mSeq] at e
  obtain ⟨o1, e1, e⟩ := Option.bind_eq_some_iff.mp e
  refine wpAny_execs_cons (thn (h1.go pins s σ H as m o1 I r e1) fun f s1 q => ?_)
  cases f with
  | next =>
    obtain ⟨σ', H', I', m', as', eo, mm, r'⟩ := q
    subst eo
    exact thn (h2.go pins s1 σ' H' as' m' o I' r' e) fun _ _ z => spImp z (mends_up mm)
  | ret u =>
    obtain ⟨v, σ', H', I', rv, d, eo, mm, p⟩ := q
    subst eo
    simp only [Option.some.injEq] at e
    subst e
    exact ⟨v, σ', H', I', rv, d, rfl, mm, p⟩
  | brk =>
    obtain ⟨σ', H', I', m', as', eo, mm, r'⟩ := q
    subst eo
    simp only [Option.some.injEq] at e
    subst e
    exact ⟨σ', H', I', m', as', rfl, mm, r'⟩
  | cont =>
    obtain ⟨σ', H', I', m', as', eo, mm, r'⟩ := q
    subst eo
    simp only [Option.some.injEq] at e
    subst e
    exact ⟨σ', H', I', m', as', rfl, mm, r'⟩
theorem ms_ret (h : FEx X e f) : MSx X (.Return (some e) pos) (mRet f) := by
  refine MSx.of (ps_ret h.pe) fun σ H as m o r eo => ?_
  simp only [mRet] at eo
  obtain ⟨d, ed, eo⟩ := Option.bind_eq_some_iff.mp eo
  cases eo
  exact ⟨m.ρ, d, r.vis, ed, fun v H' mm p => ⟨d, rfl, (hid_same _ _).trans mm, p⟩⟩
theorem ms_if {c : Expr} {a b : List Stmt} {t : FT} {ga gb : FM} (hc : FTx X c t) (ha : MSs X a ga) (hb : MSs X b gb) : MSx X (.If c a b pos) (mIf t ga gb) := by
  refine ⟨fun pins s σ H as m o I r e => ?_⟩
  simp only [mIf] at e
  obtain ⟨c1, e1, e⟩ := Option.bind_eq_some_iff.mp e
  refine wpAny_If (thn (hc pins s σ H m.ρ c1 I r.vis e1) fun c' s1 ⟨ec, H1, I1, m1⟩ => ?_)
  subst ec
  cases c' with
  | true => exact thn (ha.go pins s1 σ H1 as m o I1 (r.mono m1) (by simpa using e)) fun _ _ z => spImp z (mends_up (hid_mono m1))
  | false => exact thn (hb.go pins s1 σ H1 as m o I1 (r.mono m1) (by simpa using e)) fun _ _ z => spImp z (mends_up (hid_mono m1))
theorem ms_set {i : Nat} {x : Str} {pos' : Pos} (hN : X.N.Nodup) (hi : X.N[i]? = some x) (hx : Loc X.env.scope x) (he : FEx X e f) (hs : swapsWith e (some (.Name x pos')) pos.line X.env = pure false := by rfl)
    (hf : X.fn x = true ∨ X.env.scope.names.lookup x = some .local := by first | exact .inl rfl | exact .inr rfl | assumption) : MSx X (.Assign [.Name x pos'] e pos) (mSet i f) := by
  refine MSx.of (ps_set hN hi hx he.pm hs hf) fun σ H as m o r eo => ?_
  simp only [mSet] at eo
  obtain ⟨d, ed, eo⟩ := Option.bind_eq_some_iff.mp eo
  cases eo
  exact ⟨as, m, d, r, ed, fun v H' mm p => ⟨_, as, rfl, hid_mono mm, (r.mono mm).set p i⟩⟩
def tL (K : PySem.W.Frag) (g : FA) : TE := fun σ H Q => ∃ (ρ : En) (ds : List D), RepS K H σ ρ ∧ g ρ = some ds ∧ ∀ vs H1 p, Same H H1 → H1 p = none → Reps K H1 vs ds → Q (.ref p) (upd H1 p (.lst vs))
structure FLx (X : Cx) (e : Expr) (g : FA) : Prop where
  pe : PE X e (tL X.K g)
@[simp] def gFew (g : FA) : FA := fun ρ => (g ρ).bind fun ds => if few ds then some ds else none
theorem fl_lst {es : List Expr} {g : FA} (h : FAx X es g) : FLx X (.List es pos) (gFew g) := by
  refine ⟨fun pins s σ H Q I ⟨ρ, ds, r, e, q⟩ => pe_lst h.pa pins s σ H Q I ?_⟩
  simp only [gFew] at e
  obtain ⟨ds', e1, e⟩ := Option.bind_eq_some_iff.mp e
  split at e
  · rename_i hf
    cases e
    simp only [few, decide_eq_true_eq] at hf
    exact ⟨ρ, ds, r, e1, fun vs H' m p => ⟨le_line (by rw [p.length]; exact hf), fun a ha => q vs H' a m ha p⟩⟩
  · cases e
@[simp] def gRep (g : FA) (f : FE) : FA := fun ρ => (g ρ).bind fun ds => ((f ρ).bind intOf).bind fun k => if 0 ≤ k ∧ k ≤ 1000 ∧ ds.length * k.toNat ≤ 1000 then some (List.replicate k.toNat ds).flatten else none
theorem Reps.rep {K : PySem.W.Frag} {H : Hp} {vs : List V} {ds : List D} (h : Reps K H vs ds) : ∀ k : Nat, Reps K H (List.replicate k vs).flatten (List.replicate k ds).flatten
  | 0 => .nil
  | k + 1 => by
    simp only [List.replicate_succ, List.flatten_cons]
    exact h.append (Reps.rep h k)
theorem fl_rep {a b : Expr} {g : FA} (ha : FLx X a g) (hb : FEx X b f) : FLx X (.BinOp a .Mult b pos) (gRep g f) := by
  refine ⟨fun pins s σ H Q I ⟨ρ, ds, r, e, q⟩ => pe_op op_rep ha.pe hb.pe pins s σ H Q I ?_⟩
  simp only [gRep] at e
  obtain ⟨ds', e1, e⟩ := Option.bind_eq_some_iff.mp e
  obtain ⟨k, ek, e⟩ := Option.bind_eq_some_iff.mp e
  obtain ⟨dk, edk, ek⟩ := Option.bind_eq_some_iff.mp ek
  split at e
  · rename_i hk
    cases e
    cases dk <;> simp only [intOf] at ek <;> first | contradiction | skip
    cases ek
    refine ⟨ρ, ds', r, e1, fun vs H1 p m1 hp q1 => ?_⟩
    have m2 := m1.trans (same_new hp (.lst vs))
    refine ⟨ρ, .int k, r.mono m2, edk, fun v H2 m3 p3 => ?_⟩
    cases p3
    refine ⟨p, k, vs, rfl, rfl, m3 _ _ upd_same, by omega, by omega, le_line (by rw [q1.length]; exact hk.2.2), fun a ha => ?_⟩
    exact q _ H2 a (m2.trans m3) ha ((q1.mono ((same_new hp _).trans m3)).rep _)
  · cases e
theorem ms_own {i : Nat} {x : Str} {pos' : Pos} {g : FA} (hN : X.N.Nodup) (hi : X.N[i]? = some x) (hx : Loc X.env.scope x) (he : FLx X e g) (hs : swapsWith e (some (.Name x pos')) pos.line X.env = pure false := by rfl)
    (hf : X.fn x = true ∨ X.env.scope.names.lookup x = some .local := by first | exact .inl rfl | exact .inr rfl | assumption) : MSx X (.Assign [.Name x pos'] e pos) (mOwn i g) := by
  refine MSx.of (ps_set hN hi hx he.pe hs hf) fun σ H as m o r eo => ?_
  simp only [mOwn] at eo
  obtain ⟨ds, ed, eo⟩ := Option.bind_eq_some_iff.mp eo
  split at eo
  · rename_i hi'
    cases eo
    refine ⟨m.ρ, ds, r.vis, ed, fun vs H1 p m1 hp q => ⟨_, as ++ [p], rfl, (hid_mono m1).trans (hid_new hp), (r.mono m1).new hp (reps_hid (r.cells.mono m1) q hi') i⟩⟩
  · cases eo
theorem of_cell {K : PySem.W.Frag} {as : List Addr} {H : Hp} {σ : St} {m : MSt} {i j : Nat} {ds : List D} (r : MRep K as H σ m) (h : m.cell i = some (j, ds)) : ∃ a vs, as[j]? = some a ∧ m.cm[i]? = some (some j) ∧ m.ρ[i]? = some (some (.list ds)) ∧ σ[i]? = some (some (.ref a)) ∧ H a = some (.lst vs) ∧ Reps K (hid as H) vs ds := by
  simp only [MSt.cell] at h
  split at h
  · rename_i j' ds' h1 h2
    cases h
    obtain ⟨a, es, vs, a1, a2, a3, a4, a5⟩ := r.own i j h1
    rw [h2] at a2; cases a2
    exact ⟨a, vs, a1, h1, h2, a3, a4, a5⟩
  · cases h
theorem Reps.set {K : PySem.W.Frag} {H : Hp} {v : V} {d : D} (p : Rep K H v d) : ∀ {vs : List V} {ds : List D} (j : Nat), Reps K H vs ds → Reps K H (vs.set j v) (ds.set j d)
  | _, _, _, .nil => .nil
  | _, _, 0, .cons _ r => .cons p r
  | _, _, j + 1, .cons h r => .cons h (Reps.set p j r)
theorem ms_put {i : Nat} {x : Str} {p1 tpos : Pos} {ek : Expr} {fk : FE} (hN : X.N[i]? = some x := by rfl) (hv : Vis X.env.scope x := by first | exact Or.inl rfl | exact Or.inr (Or.inl rfl) | exact Or.inr (Or.inr rfl)) (hk : FEx X ek fk) (he : FEx X e f)
    (hd : (x == ("__debug__" : Str)) = false := by decide) (hcd : (x == ("__classdict__" : Str)) = false := by decide)
    (ha : ∀ v, assign (.Subscript (.Name x p1) ek tpos) X.env v = (do
      let ov ← holding [v] (eval (.Name x p1) X.env)
      let iv ← holding [v, ov] (eval ek X.env)
      standAt tpos
      holding [v, ov, iv] (setItem ov iv v)
      release [v, ov, iv] []) := by intro _; rfl)
    (hs : swapsWithSole [.Subscript (.Name x p1) ek tpos] e pos.line X.env = pure false := by rfl) (hw : swappedStores [.Subscript (.Name x p1) ek tpos] e X.env = pure none := by rfl)
    (h1 : (assignEach [.Subscript (.Name x p1) ek tpos] X.env).map (·.2) = [assign (.Subscript (.Name x p1) ek tpos) X.env] := by rfl) :
    MSx X (.Assign [.Subscript (.Name x p1) ek tpos] e pos) (mPut i fk f) := by
  refine MSx.of (ps_asg he.pm (pg_sub (pe_var (i := i) hN hv hd hcd) hk.pe set_list ha) hs hw h1) fun σ H as m o r eo => ?_
  simp only [mPut] at eo
  obtain ⟨d, ed, eo⟩ := Option.bind_eq_some_iff.mp eo
  obtain ⟨k, ekk, eo⟩ := Option.bind_eq_some_iff.mp eo
  obtain ⟨dk, edk, ekk⟩ := Option.bind_eq_some_iff.mp ekk
  obtain ⟨⟨j, ds⟩, ec, eo⟩ := Option.bind_eq_some_iff.mp eo
  obtain ⟨jx, ej, eo⟩ := Option.bind_eq_some_iff.mp eo
  cases eo
  cases dk <;> simp only [intOf] at ekk <;> first | contradiction | skip
  cases ekk
  refine ⟨as, m, d, r, ed, fun v H' mm p => ?_⟩
  obtain ⟨a, vs, h1, h2, h3, h4, h5, h6⟩ := of_cell r ec
  refine ⟨_, h4, m.ρ, .int k, (r.mono mm).vis, edk, fun v2 H2 m2 p2 => ?_⟩
  cases p2
  refine ⟨a, vs, k, jx, rfl, rfl, m2 _ _ (mm _ _ h5), by rw [h6.length]; exact ej, ?_⟩
  have hm := List.mem_of_getElem? h1
  refine ⟨_, as, rfl, ?_, ((r.mono mm).mono m2).put h1 ((h6.mono (hid_mono (mm.trans m2))).set (p.mono (hid_mono m2)) jx)⟩
  rw [hid_upd hm]; exact hid_mono (mm.trans m2)
end
end FD
end
section
set_option Elab.async false
set_option linter.all false
set_option maxRecDepth 100000
set_option maxHeartbeats 4000000
namespace FD
open PySem PySem.Spec PyProof.Rows L2
theorem MRep.ali {K : PySem.W.Frag} {as : List Addr} {H : Hp} {σ : St} {m : MSt} (r : MRep K as H σ m) {i y j : Nat} {ds : List D} {a : Addr} (hc : m.cm[y]? = some (some j)) (hr : m.ρ[y]? = some (some (.list ds))) (hs : σ[y]? = some (some (.ref a))) : MRep K as H (σ.set i (some (.ref a))) (m.ali i y) where
  len := by simp [r.len]
  lenC := by simp [r.lenC]
  nd := r.nd
  lk := r.lk
  cells := r.cells
  dat := fun n e h1 h2 => by
    simp only [MSt.ali, hc, hr, Option.getD_some, List.getElem?_set] at h1 h2 ⊢
    by_cases c : i = n
    · rw [if_pos c] at h1
      split at h1 <;> simp at h1
    · rw [if_neg c] at h1 h2 ⊢
      exact r.dat n e h1 h2
  own := fun n j' h => by
    simp only [MSt.ali, hc, hr, Option.getD_some, List.getElem?_set] at h ⊢
    by_cases c : i = n
    · rw [if_pos c] at h ⊢
      by_cases hl : i < m.cm.length
      · rw [if_pos hl] at h
        simp only [Option.some.injEq] at h
        subst h
        obtain ⟨b, es, vs, a1, a2, a3, a4, a5⟩ := r.own y j hc
        rw [hr] at a2; cases a2
        rw [hs] at a3; cases a3
        rw [if_pos c, if_pos (show i < m.ρ.length by rw [r.len, ← r.lenC]; exact hl), if_pos (show i < σ.length by rw [← r.lenC]; exact hl)]
        exact ⟨_, _, vs, a1, rfl, rfl, a4, a5⟩
      · rw [if_neg hl] at h; cases h
    · rw [if_neg c] at h ⊢
      rw [if_neg c]
      exact r.own n j' h
section
variable {X : Cx} {pos : Pos} {e : Expr} {f : FE}
theorem ms_pick {i y z : Nat} {x xy xz : Str} {p1 p2 p3 p4 p5 : Pos} (hN : X.N.Nodup) (hi : X.N[i]? = some x) (hx : Loc X.env.scope x) (hy : PE X (.Name xy p2) (tVar y)) (hz : PE X (.Name xz p3) (tVar z)) (he : FEx X e f) (hix : PlainIx e)
    (hs : swapsWith (.Subscript (.List [.Name xy p2, .Name xz p3] p4) e p5) (some (.Name x p1)) pos.line X.env = pure false := by rfl)
    (hf : X.fn x = true ∨ X.env.scope.names.lookup x = some .local := by first | exact .inl rfl | exact .inr rfl | assumption) :
    MSx X (.Assign [.Name x p1] (.Subscript (.List [.Name xy p2, .Name xz p3] p4) e p5) pos) (mPick i y z f) := by
  refine MSx.of (ps_set hN hi hx (pe_ix ix_list (pe_lst (pa_cons hy (pa_cons hz pa_nil (star_no rfl)) (star_no rfl))) he.pe hix) hs hf) fun σ H as m o r eo => ?_
  simp only [mPick] at eo
  obtain ⟨⟨j1, ds1⟩, ec1, eo⟩ := Option.bind_eq_some_iff.mp eo
  obtain ⟨⟨j2, ds2⟩, ec2, eo⟩ := Option.bind_eq_some_iff.mp eo
  obtain ⟨k, ek, eo⟩ := Option.bind_eq_some_iff.mp eo
  obtain ⟨dk, edk, ek⟩ := Option.bind_eq_some_iff.mp ek
  cases dk <;> simp only [intOf] at ek <;> first | contradiction | skip
  cases ek
  obtain ⟨a, vs, h1, h2, h3, h4, h5, h6⟩ := of_cell r ec1
  obtain ⟨a', vs', h1', h2', h3', h4', h5', h6'⟩ := of_cell r ec2
  refine ⟨.ref a, h4, .ref a', h4', le_line (by simp), fun p hp => ?_⟩
  have m1 : Same H (upd H p (.lst [.ref a, .ref a'])) := same_new hp _
  refine ⟨m.ρ, .int k, (r.mono m1).vis, edk, fun v H2 m2 p2 => ?_⟩
  cases p2
  have mm := m1.trans m2
  split at eo
  · rename_i hk
    cases eo
    subst hk
    exact ⟨p, _, 0, .ref a, rfl, rfl, .inl (.inl (m2 _ _ upd_same)), by simp [atI, ixN], _, as, rfl, hid_mono mm, (r.mono mm).ali h2 h3 h4⟩
  · split at eo
    · rename_i hk
      cases eo
      subst hk
      exact ⟨p, _, 1, .ref a', rfl, rfl, .inl (.inl (m2 _ _ upd_same)), by simp [atI, ixN], _, as, rfl, hid_mono mm, (r.mono mm).ali h2' h3' h4'⟩
    · cases eo
theorem mfor_turn {K : PySem.W.Frag} {i : Nat} {gb : FM} {as0 as1 as' : List Addr} {H0 H1 H' : Hp} {σ' : St} {m' : MSt} {o : MOut} {x : V} {d : D} {rest : List D} {Pn : St → Hp → Prop} (hx : Rep K (hid as' H') x d) (r : MRep K as' H' σ' m') (m0 : Same (hid as0 H0) (hid as1 H1)) (mm : Same (hid as1 H1) (hid as' H'))
    (e : mforGo i gb (d :: rest) m' = some o)
    (hP : ∀ m3 as3 σ3 H3, Same (hid as1 H1) (hid as3 H3) → MRep K as3 H3 σ3 m3 → mforGo i gb rest m3 = some o → Pn σ3 H3) :
    tM K gb { mends K as0 H0 o with nx := Pn, ct := Pn, bk := (mends K as0 H0 o).nx } (σ'.set i (some x)) H' := by
  simp only [mforGo] at e
  obtain ⟨o2, e2, e⟩ := Option.bind_eq_some_iff.mp e
  refine ⟨as', m'.set i d, o2, r.set hx i, e2, ?_, ?_, ?_, ?_⟩
  · rintro σ3 H3 ⟨m3, as3, eo, s3, r3⟩
    subst eo
    exact hP m3 as3 σ3 H3 (mm.trans s3) r3 e
  · rintro v H3 ⟨d3, eo, s3, p3⟩
    subst eo
    simp only [Option.some.injEq] at e
    exact ⟨d3, e.symm, m0.trans (mm.trans s3), p3⟩
  · rintro σ3 H3 ⟨m3, as3, eo, s3, r3⟩
    subst eo
    simp only [Option.some.injEq] at e
    exact ⟨m3, as3, e.symm, m0.trans (mm.trans s3), r3⟩
  · rintro σ3 H3 ⟨m3, as3, eo, s3, r3⟩
    subst eo
    exact hP m3 as3 σ3 H3 (mm.trans s3) r3 e
theorem ms_for {i : Nat} {x : Str} {iter : Expr} {body : List Stmt} {gb : FM} {p2 : Pos} (hN : X.N.Nodup) (hi : X.N[i]? = some x) (hx : Loc X.env.scope x) (he : FEx X iter f) (hb : MSs X body gb)
    (hp : PassesOwn (model X.prog X.w) X.A X.env X.xe := by exact PassesOwn.never) (hc : X.calm = true := by rfl)
    (hf : X.fn x = true ∨ X.env.scope.names.lookup x = some .local := by first | exact .inl rfl | exact .inr rfl | assumption)
    (hs : ∀ x, foldedSetIterable iter X.env x = pure x := by intro _; rfl) : MSx X (.For (.Name x p2) iter body [] pos) (mFor i f gb) := by
  refine MSx.of (ps_for hp hc (PI.or' (pi_list he.ph) (pi_tup he.ph)) (pg_name hN hi hx hf) hb.ps hs) fun σ H as m o r eo => ?_
  simp only [mFor] at eo
  obtain ⟨xs, exs, eo⟩ := Option.bind_eq_some_iff.mp eo
  obtain ⟨d, ed, exs⟩ := Option.bind_eq_some_iff.mp exs
  cases d <;> simp only [seqOf] at exs <;> first | contradiction | skip
  · cases exs
    refine .inl ⟨as, m, _, r, ed, fun v H1 m1 p1 => ?_⟩
    cases p1
    rename_i a vs h q
    refine ⟨a, rfl, ⟨vs, (hid_same _ _).seq h⟩, ?_⟩
    refine for_list (xs := vs) (fun k σ' H' => ∃ m' as', MRep X.K as' H' σ' m' ∧ Same (hid as H1) (hid as' H') ∧ mforGo i gb (xs.drop k) m' = some o) ⟨m, as, r.mono m1, Same.refl _, by rw [List.drop_zero]; exact eo⟩ ?_ ?_ ?_
    · rintro k σ' H' _ ⟨m', as', _, s', _⟩
      exact (s'.trans (hid_same _ _)).seq h
    · rintro k z σ' H' hz ⟨m', as', r', s', e'⟩
      have hl := q.length
      have hk : k < xs.length := by rw [← hl]; exact (List.getElem?_eq_some_iff.mp hz).1
      obtain ⟨dk, hdk⟩ : ∃ dk, xs[k]? = some dk := ⟨xs[k], by simp [hk]⟩
      obtain ⟨z', hz', pz⟩ := q.get hdk
      rw [hz] at hz'; cases hz'
      rw [drop_at hdk] at e'
      exact mfor_turn (pz.mono s') r' (hid_mono m1) s' e' fun m3 as3 σ3 H3 s3 r3 e3 => ⟨m3, as3, r3, s3, e3⟩
    · rintro σ' H' ⟨m', as', r', s', e'⟩
      rw [q.length, List.drop_length] at e'
      simp only [mforGo, Option.some.injEq] at e'
      exact ⟨m', as', e'.symm, (hid_mono m1).trans s', r'⟩
  · cases exs
    refine .inr ⟨as, m, _, r, ed, fun v H1 m1 p1 => ?_⟩
    cases p1
    rename_i a vs h q
    refine ⟨a, rfl, ⟨vs, sqT_mono (hid_same _ _) h⟩, ?_⟩
    refine for_tup (xs := vs) (fun k σ' H' => ∃ m' as', MRep X.K as' H' σ' m' ∧ Same (hid as H1) (hid as' H') ∧ mforGo i gb (xs.drop k) m' = some o) ⟨m, as, r.mono m1, Same.refl _, by rw [List.drop_zero]; exact eo⟩ ?_ ?_ ?_
    · rintro k σ' H' _ ⟨m', as', _, s', _⟩
      exact sqT_mono (s'.trans (hid_same _ _)) h
    · rintro k z σ' H' hz ⟨m', as', r', s', e'⟩
      have hl := q.length
      have hk : k < xs.length := by rw [← hl]; exact (List.getElem?_eq_some_iff.mp hz).1
      obtain ⟨dk, hdk⟩ : ∃ dk, xs[k]? = some dk := ⟨xs[k], by simp [hk]⟩
      obtain ⟨z', hz', pz⟩ := q.get hdk
      rw [hz] at hz'; cases hz'
      rw [drop_at hdk] at e'
      exact mfor_turn (pz.mono s') r' (hid_mono m1) s' e' fun m3 as3 σ3 H3 s3 r3 e3 => ⟨m3, as3, r3, s3, e3⟩
    · rintro σ' H' ⟨m', as', r', s', e'⟩
      rw [q.length, List.drop_length] at e'
      simp only [mforGo, Option.some.injEq] at e'
      exact ⟨m', as', e'.symm, (hid_mono m1).trans s', r'⟩
end
theorem mrep_start {K : PySem.W.Frag} {H : Hp} {vs : List V} {ds : List D} (N : List Str) (r : Reps K H vs ds) (hle : ds.length ≤ N.length) : MRep K [] H (L2.start N vs) (mstart N.length ds) := by
  have h := repS_start N r
  have hl := r.length
  have hlen : (L2.start N vs).length = N.length := by simp [L2.start, hl]; omega
  refine ⟨h.1, by simp [hlen], .nil, rfl, fun a ha => (nomatch ha), fun i d h1 h2 => ?_, fun i j h1 => ?_⟩
  · rw [hid_nil]; exact h.2 i d h2
  · simp only [mstart, List.getElem?_replicate] at h1
    split at h1 <;> simp at h1
theorem okM {P : Program} {w : World} {K : PySem.W.Frag} {mg : Str → Option Value} {base : Heap} {x qual : Str} {st : Stmt} {f : Addr} {fd : FuncData} {N ps : List Str} {k : Nat} {g : FM} (F : Fun K x qual st f fd) (S : FnScope N ps (defScope st))
    (hbody : ∀ (cdv : Value) (A : Around) (outer : List Env) (s : Shared) (H : Hp) (E : XK), Room k (A.deeper (envOfC qual (defScope st) s.heap.objs.size f cdv)) →
      MSs (cxOf CX0 P w K mg base N qual (defScope st) f cdv A outer s H E).nox (defBody st) g) : FnOk P w K mg base CX0 (k + 1) f fd ps (spF K (bodyM N.length ps.length g)) := by
  have hlen : ∀ {ds : List D} {d : D}, bodyM N.length ps.length g ds = some d → ds.length = ps.length ∧ ps.length ≤ N.length := fun {ds d} e => by
    simp only [bodyM] at e
    split at e
    · assumption
    · exact nomatch e
  refine F.ok S (fun vs H Q E h => ?_) fun cdv A outer s H vs Q E hr h => ?_
  · obtain ⟨ds, d, r, e, _⟩ := h
    rw [r.length]
    exact (hlen e).1
  obtain ⟨ds, d, r, e, q⟩ := h
  refine ⟨tM K g, (hbody cdv A outer s H E hr).ps, ?_⟩
  have hv := hlen e
  simp only [bodyM] at e
  rw [if_pos hv] at e
  obtain ⟨o, eo, e⟩ := Option.bind_eq_some_iff.mp e
  refine ⟨[], _, o, mrep_start N r (by rw [hv.1]; exact hv.2), eo, ?_, ?_, ?_, ?_⟩
  · rintro σ' H' ⟨m', as', rfl, m, _⟩
    simp only [mretOf, Option.some.injEq] at e
    subst e
    rw [hid_nil] at m
    exact q .non H' (m.trans (hid_same _ _)) .non
  · rintro v H' ⟨d', rfl, m, p⟩
    simp only [mretOf, Option.some.injEq] at e
    subst e
    rw [hid_nil] at m
    exact q v H' m p
  · rintro σ' H' ⟨m', as', rfl, _, _⟩
    simp [mretOf] at e
  · rintro σ' H' ⟨m', as', rfl, _, _⟩
    simp [mretOf] at e
end FD
end
section
set_option Elab.async false
set_option linter.all false
set_option maxRecDepth 100000
set_option maxHeartbeats 4000000
namespace FD
open PySem PySem.Spec PyProof.Rows L2
abbrev FK := MSt → Option MSt
@[simp] def kPut (i : Nat) (fk f : FE) : FK := fun m => (ev f m).bind fun d => ((fk m.ρ).bind intOf).bind fun k => (m.cell i).bind fun c => (ixN c.2.length k).bind fun j => some (m.put c.1 (c.2.set j d))
@[simp] def kIf (t : FT) (a b : FK) : FK := fun m => (t m.ρ).bind fun c => if c then a m else b m
def kends (K : PySem.W.Frag) (as : List Addr) (H : Hp) (σ : St) (m' : MSt) : Ends where
  nx := fun σ' H' => σ' = σ ∧ Same (hid as H) (hid as H') ∧ MRep K as H' σ m'
  rt := fun _ _ => False
structure KSx (X : Cx) (st : Stmt) (g : FK) : Prop where
  go : ∀ (pins : List (Addr × Obj)) (s : Shared) (σ : St) (H : Hp) (as : List Addr) (m m' : MSt), Inv X pins σ H s → MRep X.K as H σ m → g m = some m' → wpAny (model X.prog X.w) X.A (exec st X.env) (SP X pins (kends X.K as H σ m')) X.xe s
structure KSs (X : Cx) (sts : List Stmt) (g : FK) : Prop where
  go : ∀ (pins : List (Addr × Obj)) (s : Shared) (σ : St) (H : Hp) (as : List Addr) (m m' : MSt), Inv X pins σ H s → MRep X.K as H σ m → g m = some m' → wpAny (model X.prog X.w) X.A (execs sts X.env) (SP X pins (kends X.K as H σ m')) X.xe s
theorem kends_up {K : PySem.W.Frag} {as : List Addr} {H H1 : Hp} {σ : St} {m' : MSt} (m : Same H H1) : Ent (kends K as H1 σ m') (kends K as H σ m') where
  nx := fun _ _ ⟨e, s, r⟩ => ⟨e, (hid_mono m).trans s, r⟩
  rt := fun _ _ h => h
  bk := fun _ _ h => h
  ct := fun _ _ h => h
section
variable {X : Cx} {pos : Pos} {e : Expr} {f : FE}
theorem ks_one {st : Stmt} {g : FK} (h : KSx X st g) : KSs X [st] g := by
  refine ⟨fun pins s σ H as m m' I r e => ?_⟩
  refine wpAny_execs_cons (thn (h.go pins s σ H as m m' I r e) fun f s1 q => ?_)
  cases f with
  | next => exact wpAny_execs_nil q
  | ret v => exact q
  | brk => exact q
  | cont => exact q
theorem ks_if {c : Expr} {a b : List Stmt} {t : FT} {ga gb : FK} (hc : FTx X c t) (ha : KSs X a ga) (hb : KSs X b gb) : KSx X (.If c a b pos) (kIf t ga gb) := by
  refine ⟨fun pins s σ H as m m' I r e => ?_⟩
  simp only [kIf] at e
  obtain ⟨c1, e1, e⟩ := Option.bind_eq_some_iff.mp e
  refine wpAny_If (thn (hc pins s σ H m.ρ c1 I r.vis e1) fun c' s1 ⟨ec, H1, I1, m1⟩ => ?_)
  subst ec
  cases c' with
  | true => exact thn (ha.go pins s1 σ H1 as m m' I1 (r.mono m1) (by simpa using e)) fun _ _ z => spImp z (kends_up m1)
  | false => exact thn (hb.go pins s1 σ H1 as m m' I1 (r.mono m1) (by simpa using e)) fun _ _ z => spImp z (kends_up m1)
theorem ks_put {i : Nat} {x : Str} {p1 tpos : Pos} {ek : Expr} {fk : FE} (hN : X.N[i]? = some x := by rfl) (hv : Vis X.env.scope x := by first | exact Or.inl rfl | exact Or.inr (Or.inl rfl) | exact Or.inr (Or.inr rfl)) (hk : FEx X ek fk) (he : FEx X e f)
    (hd : (x == ("__debug__" : Str)) = false := by decide) (hcd : (x == ("__classdict__" : Str)) = false := by decide)
    (ha : ∀ v, assign (.Subscript (.Name x p1) ek tpos) X.env v = (do
      let ov ← holding [v] (eval (.Name x p1) X.env)
      let iv ← holding [v, ov] (eval ek X.env)
      standAt tpos
      holding [v, ov, iv] (setItem ov iv v)
      release [v, ov, iv] []) := by intro _; rfl)
    (hs : swapsWithSole [.Subscript (.Name x p1) ek tpos] e pos.line X.env = pure false := by rfl) (hw : swappedStores [.Subscript (.Name x p1) ek tpos] e X.env = pure none := by rfl)
    (h1 : (assignEach [.Subscript (.Name x p1) ek tpos] X.env).map (·.2) = [assign (.Subscript (.Name x p1) ek tpos) X.env] := by rfl) :
    KSx X (.Assign [.Subscript (.Name x p1) ek tpos] e pos) (kPut i fk f) := by
  refine ⟨fun pins s σ H as m m' I r eo => ps_asg he.pm (pg_sub (pe_var (i := i) hN hv hd hcd) hk.pe set_list ha) hs hw h1 pins s σ H _ I ?_⟩
  simp only [kPut] at eo
  obtain ⟨d, ed, eo⟩ := Option.bind_eq_some_iff.mp eo
  obtain ⟨k, ekk, eo⟩ := Option.bind_eq_some_iff.mp eo
  obtain ⟨dk, edk, ekk⟩ := Option.bind_eq_some_iff.mp ekk
  obtain ⟨⟨j, ds⟩, ec, eo⟩ := Option.bind_eq_some_iff.mp eo
  obtain ⟨jx, ej, eo⟩ := Option.bind_eq_some_iff.mp eo
  cases eo
  cases dk <;> simp only [intOf] at ekk <;> first | contradiction | skip
  cases ekk
  refine ⟨as, m, d, r, ed, fun v H' mm p => ?_⟩
  obtain ⟨a, vs, h1, h2, h3, h4, h5, h6⟩ := of_cell r ec
  refine ⟨_, h4, m.ρ, .int k, (r.mono mm).vis, edk, fun v2 H2 m2 p2 => ?_⟩
  cases p2
  refine ⟨a, vs, k, jx, rfl, rfl, m2 _ _ (mm _ _ h5), by rw [h6.length]; exact ej, ?_⟩
  have hm := List.mem_of_getElem? h1
  refine ⟨rfl, ?_, ((r.mono mm).mono m2).put h1 ((h6.mono (hid_mono (mm.trans m2))).set (p.mono (hid_mono m2)) jx)⟩
  rw [hid_upd hm]; exact hid_mono (mm.trans m2)
end
/-- the contract of such a def -/
def spW (K : PySem.W.Frag) (np : Nat) (g : FK) : Sp := fun vs H Q _ => vs.length = np ∧ ∃ (as : List Addr) (m m' : MSt), MRep K as H (vs.map some) m ∧ g m = some m' ∧ ∀ H', Same (hid as H) (hid as H') → MRep K as H' (vs.map some) m' → Q .non H'
structure KnK (P : Program) (w : World) (K : PySem.W.Frag) (mg : Str → Option Value) (base : Heap) (k : Nat) (x : Str) (ps : List Str) (g : FK) : Prop where
  ex : ∃ (f : Addr) (fd : FuncData), FnOk P w K mg base CX0 k f fd ps (spW K ps.length g) ∧ mg x = some (.ref f) ∧ PySem.W.keepIn K (.ref f) = true ∧ Binds K fd ps []
theorem okK {P : Program} {w : World} {K : PySem.W.Frag} {mg : Str → Option Value} {base : Heap} {x qual : Str} {st : Stmt} {f : Addr} {fd : FuncData} {ps : List Str} {k : Nat} {g : FK} (F : Fun K x qual st f fd) (S : FnScope ps ps (defScope st))
    (hbody : ∀ (cdv : Value) (A : Around) (outer : List Env) (s : Shared) (H : Hp) (E : XK), Room k (A.deeper (envOfC qual (defScope st) s.heap.objs.size f cdv)) →
      KSs (cxOf CX0 P w K mg base ps qual (defScope st) f cdv A outer s H E).nox (defBody st) g) : FnOk P w K mg base CX0 (k + 1) f fd ps (spW K ps.length g) := by
  refine F.ok S (fun vs H Q E h => h.1) fun cdv A outer s H vs Q E hr h => ?_
  obtain ⟨hl, as, m, m', r, e, q⟩ := h
  refine ⟨fun D σ H => ∃ (as : List Addr) (m m' : MSt), MRep K as H σ m ∧ g m = some m' ∧ Ent (kends K as H σ m') D, fun pins s' σ H' D I ⟨as, m, m', r, e, k⟩ => thn ((hbody cdv A outer s H E hr).go pins s' σ H' as m m' I r e) fun f s' q => spImp q k, ?_⟩
  have hs : L2.start ps vs = vs.map some := by simp [L2.start, hl]
  rw [hs]
  exact ⟨as, m, m', r, e, ⟨fun σ' H' ⟨_, s, r'⟩ => q H' s r', fun _ _ h => h.elim, fun _ _ h => h.elim, fun _ _ h => h.elim⟩⟩
/-- behind such a call -/
theorem MRep.swap {K : PySem.W.Frag} {as : List Addr} {H H' : Hp} {σ σ' : St} {m m' : MSt} (r : MRep K as H σ m) (r' : MRep K as H' σ' m') (s : Same (hid as H) (hid as H')) (hk : m.k = 2) {x y : List D} (h0 : m'.cell 1 = some (0, x)) (h1 : m'.cell 2 = some (1, y)) :
    MRep K as H' σ ((m.put 0 x).put 1 y) where
  len := by simp [r.len, r.lenC]
  lenC := r.lenC
  nd := r.nd
  lk := r.lk
  cells := r'.cells
  dat := fun n e h1 h2 => by
    simp only [MSt.put] at h1 h2
    rw [List.getElem?_zipWith, h1, List.getElem?_zipWith, h1] at h2
    cases hr : m.ρ[n]? with
    | none => rw [hr] at h2; simp at h2
    | some o =>
      rw [hr] at h2
      have h' : o = some e := by simpa using h2
      subst h'
      obtain ⟨v, a1, a2⟩ := r.dat n e h1 hr
      exact ⟨v, a1, a2.mono s⟩
  own := fun n j h => by
    obtain ⟨b, es, ws, a1, a2, a3, a4, a5⟩ := r.own n j h
    have hj : j < 2 := by rw [← hk, ← r.lk]; exact (List.getElem?_eq_some_iff.mp a1).1
    simp only [MSt.put, List.getElem?_zipWith, h, a2] at h ⊢
    obtain ⟨p0, v0, b1, b2, b3, b4, b5, b6⟩ := of_cell r' h0
    obtain ⟨p1, v1, c1, c2, c3, c4, c5, c6⟩ := of_cell r' h1
    rcases (by omega : j = 0 ∨ j = 1) with rfl | rfl
    · rw [a1] at b1; cases b1
      exact ⟨b, x, v0, a1, by simp, a3, b5, b6⟩
    · rw [a1] at c1; cases c1
      exact ⟨b, y, v1, a1, by simp, a3, c5, c6⟩
@[simp] def mMove (i0 i1 i2 : Nat) (g : FK) : FM := fun m => ((m.ρ[i0]?).bind id).bind fun d0 => if m.cm[i0]? = some none ∧ m.k = 2 then (m.cell i1).bind fun c1 => (m.cell i2).bind fun c2 => if c1.1 = 0 ∧ c2.1 = 1 then
    (g ⟨[some d0, some (.list c1.2), some (.list c2.2)], [none, some 0, some 1], 2⟩).bind fun m' => (m'.cell 1).bind fun e1 => (m'.cell 2).bind fun e2 => if e1.1 = 0 ∧ e2.1 = 1 then some (.nx ((m.put 0 e1.2).put 1 e2.2)) else none else none else none
section
variable {X : Cx} {pos : Pos}
theorem ms_move {k i0 i1 i2 : Nat} {x x0 x1 x2 : Str} {ps : List Str} {g : FK} {p p0 p1 p2 cpos : Pos} (h : KnK X.prog X.w X.K X.mg X.base k x ps g) (hr : Room k X.A) (hg : Gl X x) (hl : ps.length = 3)
    (h0 : PE X (.Name x0 p0) (tVar i0)) (h1 : PE X (.Name x1 p1) (tVar i1)) (h2 : PE X (.Name x2 p2) (tVar i2))
    (hdb : (x == ("__debug__" : Str)) = false := by decide)
    (hs : swapsWith (.Call (.Name x p) [.Name x0 p0, .Name x1 p1, .Name x2 p2] [] cpos) none pos.line X.env = pure false := by rfl) :
    MSx X (.Expr (.Call (.Name x p) [.Name x0 p0, .Name x1 p1, .Name x2 p2] [] cpos) pos) (mMove i0 i1 i2 g) := by
  obtain ⟨f, fd, G, hm, hk, hb⟩ := h.ex
  refine MSx.of (ps_expr (pe_call G hr hg hm hk hb .nil pass0 (pa_cons h0 (pa_cons h1 (pa_cons h2 pa_nil (star_no rfl)) (star_no rfl)) (star_no rfl)) hdb (star_no rfl) (back_no rfl)) hs) fun σ H as m o r eo => ?_
  simp only [mMove] at eo
  obtain ⟨d0, e0, eo⟩ := Option.bind_eq_some_iff.mp eo
  obtain ⟨o0, e0', e0⟩ := Option.bind_eq_some_iff.mp e0
  have e0 : o0 = some d0 := e0
  subst e0
  split at eo
  · rename_i hc
    obtain ⟨⟨j1, ds1⟩, ec1, eo⟩ := Option.bind_eq_some_iff.mp eo
    obtain ⟨⟨j2, ds2⟩, ec2, eo⟩ := Option.bind_eq_some_iff.mp eo
    split at eo
    · rename_i hj
      obtain ⟨rfl, rfl⟩ := (show j1 = 0 ∧ j2 = 1 from hj)
      obtain ⟨m', em, eo⟩ := Option.bind_eq_some_iff.mp eo
      obtain ⟨⟨k1, x1'⟩, ek1, eo⟩ := Option.bind_eq_some_iff.mp eo
      obtain ⟨⟨k2, x2'⟩, ek2, eo⟩ := Option.bind_eq_some_iff.mp eo
      split at eo
      · rename_i hk'
        obtain ⟨rfl, rfl⟩ := (show k1 = 0 ∧ k2 = 1 from hk')
        cases eo
        obtain ⟨v0, s0, q0⟩ := r.dat i0 d0 hc.1 e0'
        obtain ⟨a1, vs1, b1, b2, b3, b4, b5, b6⟩ := of_cell r ec1
        obtain ⟨a2, vs2, c1, c2, c3, c4, c5, c6⟩ := of_cell r ec2
        refine ⟨v0, s0, .ref a1, b4, .ref a2, c4, ?_⟩
        show spW X.K ps.length g ([v0, .ref a1, .ref a2] ++ []) H (fun _ H1 => (mends X.K as H (MOut.nx ((m.put 0 x1').put 1 x2'))).nx σ H1) E0
        rw [List.append_nil]
        have r3 : MRep X.K as H [some v0, some (.ref a1), some (.ref a2)] ⟨[some d0, some (.list ds1), some (.list ds2)], [none, some 0, some 1], 2⟩ := by
          refine ⟨rfl, rfl, r.nd, by rw [r.lk]; exact hc.2, r.cells, fun i d g1 g2 => ?_, fun i j g1 => ?_⟩
          · match i, g1, g2 with
            | 0, _, g2 => cases g2; exact ⟨v0, rfl, q0⟩
            | 1, g1, _ => cases g1
            | 2, g1, _ => cases g1
          · match i, g1 with
            | 0, g1 => cases g1
            | 1, g1 => cases g1; exact ⟨a1, ds1, vs1, b1, rfl, rfl, b5, b6⟩
            | 2, g1 => cases g1; exact ⟨a2, ds2, vs2, c1, rfl, rfl, c5, c6⟩
        exact ⟨hl.symm, as, _, m', r3, em, fun H' s' r' => ⟨_, as, rfl, s', r.swap r' s' hc.2 ek1 ek2⟩⟩
      · cases eo
    · cases eo
  · cases eo
end
end FD
end
section
set_option Elab.async false
set_option linter.all false
set_option maxRecDepth 100000
set_option maxHeartbeats 4000000
namespace FD
open PySem PySem.Spec PyProof.Rows L2
def kvOf (ps : List (Str × Int)) : List (Key × V) := ps.map fun p => (Sum.inr p.1, V.int p.2)
def lookD (ps : List (Str × Int)) : D → Option D
  | .str k => match valV (mergeK [] (kvOf ps)) (Sum.inr k) with
    | some (.int i) => some (.int i)
    | _ => none
  | _ => none
@[simp] def eDictIx (ps : List (Str × Int)) (f : FE) : FE := fun ρ => (f ρ).bind (lookD ps)
section
variable {X : Cx} {e : Expr} {f : FE} {pos : Pos}
end
section
variable {X : Cx}
end
end FD
end
section
set_option Elab.async false
set_option linter.all false
set_option maxRecDepth 100000
set_option maxHeartbeats 4000000
namespace FD
open PySem PySem.Spec PyProof.Rows L2
section
variable {prog : Program} {w : World} {A : Around} {E : Value → Shared → Prop} {s : Shared}
theorem tn_item {j t : Addr} {n : Nat} {vs : Array Value} {v : Value} {Q : Value → Shared → Prop} (J : s.heap.IsTupleIter j t n) (T : s.heap.IsTuple t vs) (hv : vs[n]? = some v)
    (k : ∀ g, g.IsTupleIter j t (n + 1) → Heap.SameBut j s.heap g → Q v { s with heap := g }) : wpAny (model prog w) A (Builtin.SmallTypes.nextOf (.ref j)) Q E s := by
  obtain ⟨o1, e1, c1, d1⟩ := id J
  obtain ⟨o2, e2, -, m2, d2⟩ := T
  unfold Builtin.SmallTypes.nextOf
  refine wpAny_bind (wpAny_callSpecial?_slot (name := Str.ofString "__next__") J.typeIs F.slot_tuple_iterator_next (wpAny_call_entry F.slot_tuple_iterator_next J.typeIs F.entry_tuple_iterator_next ?_ (F.args_tuple_iterator_next_1 _)))
  show wpAny _ _ (field (.ref j) 0 >>= _) _ _ s
  refine wpAny_bind (wpAny_field e1 d1 (x := .ref t) rfl ?_)
  show wpAny _ _ (if (Value.ref t == Value.none) = true then _ else _) _ _ s
  rw [if_neg (show (Value.ref t == Value.none) ≠ true from Bool.false_ne_true)]
  show wpAny _ _ (field (.ref j) 1 >>= _) _ _ s
  refine wpAny_bind (wpAny_field e1 d1 (x := .int n 0) rfl ?_)
  show wpAny _ _ (seqItems? (.ref t) >>= _) _ _ s
  refine wpAny_bind (wpAny_seqItems e2 d2 ?_)
  simp only [Int.toNat_natCast, hv]
  refine wpAny_bind (wpAny_setField e1 d1 (by simp) (wpAny_pure ⟨v, rfl, wpAny_pure (k _ ⟨_, Heap.get?_update_self _ e1 (Obj.isFreed_of_fields (Obj.data_mapFields d1 _)), (Obj.cls_mapFields ..).trans c1, ?_⟩ (Heap.SameBut.update ..))⟩))
  rw [Obj.data_mapFields d1]; simp [rawInt]
theorem tn_end {j t : Addr} {n : Nat} {vs : Array Value} {Q : Value → Shared → Prop} (calm : A.handled = none) (J : s.heap.IsTupleIter j t n) (T : s.heap.IsTuple t vs) (hv : vs[n]? = none)
    (k : ∀ g x, Heap.ExtBut j s.heap g → (∃ o, g.get? x = some o ∧ o.cls = .type "StopIteration") → E (.ref x) { s with heap := g }) : wpAny (model prog w) A (Builtin.SmallTypes.nextOf (.ref j)) Q E s := by
  obtain ⟨o1, e1, c1, d1⟩ := id J
  obtain ⟨o2, e2, -, m2, d2⟩ := T
  unfold Builtin.SmallTypes.nextOf
  refine wpAny_bind (wpAny_callSpecial?_slot (name := Str.ofString "__next__") J.typeIs F.slot_tuple_iterator_next (wpAny_call_entry F.slot_tuple_iterator_next J.typeIs F.entry_tuple_iterator_next ?_ (F.args_tuple_iterator_next_1 _)))
  show wpAny _ _ (field (.ref j) 0 >>= _) _ _ s
  refine wpAny_bind (wpAny_field e1 d1 (x := .ref t) rfl ?_)
  show wpAny _ _ (if (Value.ref t == Value.none) = true then _ else _) _ _ s
  rw [if_neg (show (Value.ref t == Value.none) ≠ true from Bool.false_ne_true)]
  show wpAny _ _ (field (.ref j) 1 >>= _) _ _ s
  refine wpAny_bind (wpAny_field e1 d1 (x := .int n 0) rfl ?_)
  show wpAny _ _ (seqItems? (.ref t) >>= _) _ _ s
  refine wpAny_bind (wpAny_seqItems e2 d2 ?_)
  simp only [Int.toNat_natCast, hv]
  refine wpAny_bind (wpAny_rule (wpAny_bind (wpAny_setField e1 d1 (by simp) ?_)))
  show wpAny _ _ (newExc (.type "StopIteration") [] >>= _) _ _ _
  refine wpAny_bind ?_
  simp only [newExc, newTuple]
  refine wpAny_bind (wpAny_newObj_type (wpAny_bind (m := firstArgMember _ _) (wpAny_of_eq (a := Value.none) (by first | rfl | (simp only [firstArgMember]; rfl)) (wpAny_newObj_type ?_ (by size_fits)))) (by size_fits))
  simp only [raiseNew]
  refine wpAny_bind (wpAny_handled ?_)
  first | rw [show A.in1.handled = none from calm] | rw [calm]
  exact wpAny_bind (wpAny_pure (wpAny_throw (k _ _ (((Heap.SameBut.update ..).extBut.push _).push _) ⟨_, Heap.get?_push_size _ rfl, rfl⟩)))
/-- the five objects of a zip over two tuples -/
structure Zp (h : Heap) (z p q j1 j2 t1 t2 : Addr) (f : Value) (n : Nat) : Prop where
  zip : IsZip h z p q f
  par : IsPair h p (.ref j1) (.ref j2)
  out : ∃ a b, IsPair h q a b
  one : h.IsTupleIter j1 t1 n
  two : h.IsTupleIter j2 t2 n
structure Zne (z p q j1 j2 : Addr) : Prop where
  pz : p ≠ z
  qz : q ≠ z
  az : j1 ≠ z
  bz : j2 ≠ z
  pq : p ≠ q
  pa : p ≠ j1
  pb : p ≠ j2
  qa : q ≠ j1
  qb : q ≠ j2
  ab : j1 ≠ j2
theorem tup_ne {h : Heap} {z p q j1 j2 t1 t2 t : Addr} {f : Value} {n : Nat} {vs : Array Value} (Z : Zp h z p q j1 j2 t1 t2 f n) (T : h.IsTuple t vs) : t ≠ z ∧ t ≠ j1 ∧ t ≠ j2 := by
  obtain ⟨o, e, c, m, d⟩ := T
  refine ⟨fun x => ?_, fun x => ?_, fun x => ?_⟩
  · subst x; rw [Z.zip] at e; cases e; simp at c
  · subst x; obtain ⟨o', e', c', d'⟩ := Z.one; rw [e] at e'; cases e'; rw [c] at c'; simp at c'
  · subst x; obtain ⟨o', e', c', d'⟩ := Z.two; rw [e] at e'; cases e'; rw [c] at c'; simp at c'
theorem pair_set {T : Addr} {a b x : Value} {k : Nat} {Q : Unit → Shared → Prop} (P : IsPair s.heap T a b) (h : ∀ g, g.get? T = some { cls := .type "tuple", data := .seq ((#[a, b] : Array Value).setIfInBounds k x) } → Heap.SameBut T s.heap g → Q () { s with heap := g }) :
    wpAny (model prog w) A (updateSeq T (·.setIfInBounds k x)) Q E s := wpAny_updateSeq_pair P h
theorem zn_item {z p q j1 j2 t1 t2 : Addr} {n : Nat} {vs us : Array Value} {v u : Value} {Q : Value → Shared → Prop} (N : Zne z p q j1 j2) (n1 : t1 ≠ q) (n2 : t2 ≠ q) (Z : Zp s.heap z p q j1 j2 t1 t2 .none n) (T1 : s.heap.IsTuple t1 vs) (T2 : s.heap.IsTuple t2 us) (hv : vs[n]? = some v) (hu : us[n]? = some u)
    (k : ∀ g, Zp g z p q j1 j2 t1 t2 (rawInt s.heap.objs.size) (n + 1) → IsPair g s.heap.objs.size v u → g.objs.size = s.heap.objs.size + 1 → (∀ c o, c ≠ z → c ≠ q → c ≠ j1 → c ≠ j2 → s.heap.get? c = some o → g.get? c = some o) → Q (.ref s.heap.objs.size) { s with heap := g }) :
    wpAny (model prog w) A (Builtin.«zip.__next__» ⟨[.ref z], []⟩) (fun f s' => ∃ y, f = .done (.ret y) ∧ Q y s') E s := by
  obtain ⟨Hz, Hp, ⟨a, b, Hq⟩, H1, H2⟩ := id Z
  obtain ⟨x1, x2, x3⟩ := tup_ne Z T1
  obtain ⟨y1, y2, y3⟩ := tup_ne Z T2
  show wpAny _ _ (field (.ref z) 2 >>= _) _ _ _
  refine wpAny_bind (wpAny_field Hz rfl (x := .bool false) rfl ?_)
  show wpAny _ _ (field (.ref z) 3 >>= _) _ _ _
  refine wpAny_bind (wpAny_field Hz rfl (x := .ref p) rfl (wpAny_bind (wpAny_seqItems Hp rfl ?_)))
  show wpAny _ _ (Builtin.SmallTypes.ownedTupleIsFree (.ref z) >>= _) _ _ _
  refine wpAny_bind ?_
  unfold Builtin.SmallTypes.ownedTupleIsFree
  refine wpAny_bind (wpAny_field Hz rfl (x := .none) rfl (wpAny_pure ?_))
  simp only [if_true]
  refine wpAny_bind (wpAny_rule (wpAny_bind (wpAny_field Hz rfl (x := .ref q) rfl (wpAny_bind (wpAny_setField_rec Hz (by simp) fun g1 Z1 b1 => ?_)))))
  replace Z1 : IsZip g1 z p q .ellipsis := Z1
  refine wpAny_bind ?_
  simp only [List.zipIdx_cons, List.zipIdx_nil, List.forIn_cons, List.forIn_nil]
  refine wpAny_bind (wpAny_bind (wpAny_onRaise ?_))
  show wpAny _ _ (Builtin.SmallTypes.nextOf (.ref j1) >>= _) _ _ _
  refine wpAny_bind (tn_item (H1.extBut b1.extBut N.az) (T1.extBut b1.extBut x1) hv fun g2 I2 b2 => wpAny_pure ?_)
  have Q2 : IsPair g2 q a b := b2.extBut _ _ N.qa (b1.extBut _ _ N.qz Hq)
  refine wpAny_bind (wpAny_seqItems Q2 rfl (wpAny_bind (pair_set Q2 fun g3 Q3 b3 => ?_)))
  replace Q3 : IsPair g3 q v b := Q3
  refine wpAny_bind (wpAny_letGo (wpAny_pure (wpAny_bind (wpAny_bind (wpAny_onRaise ?_)))))
  show wpAny _ _ (Builtin.SmallTypes.nextOf (.ref j2) >>= _) _ _ _
  refine wpAny_bind (tn_item (((H2.extBut b1.extBut N.bz).extBut b2.extBut N.ab.symm).extBut b3.extBut N.qb.symm) (((T2.extBut b1.extBut y1).extBut b2.extBut y2).extBut b3.extBut n2) hu fun g4 I4 b4 => wpAny_pure ?_)
  have Q4 : IsPair g4 q v b := b4.extBut _ _ N.qb Q3
  refine wpAny_bind (wpAny_seqItems Q4 rfl (wpAny_bind (pair_set Q4 fun g5 Q5 b5 => ?_)))
  replace Q5 : IsPair g5 q v u := Q5
  refine wpAny_bind (wpAny_letGo (wpAny_pure (wpAny_pure (wpAny_bind (wpAny_seqItems Q5 rfl (wpAny_bind (wpAny_newTuple ?_)))))))
  have sz : g5.objs.size = s.heap.objs.size := by rw [b5.1, b4.1, b3.1, b2.1, b1.1]
  have Z5 : IsZip g5 z p q .ellipsis := b5.extBut _ _ N.qz.symm (b4.extBut _ _ N.bz.symm (b3.extBut _ _ N.qz.symm (b2.extBut _ _ N.az.symm Z1)))
  have kp : ∀ c o, c ≠ z → c ≠ q → c ≠ j1 → c ≠ j2 → s.heap.get? c = some o → g5.get? c = some o := fun c o m1 m2 m3 m4 e => b5.extBut _ _ m2 (b4.extBut _ _ m4 (b3.extBut _ _ m2 (b2.extBut _ _ m3 (b1.extBut _ _ m1 e))))
  have I1' : g5.IsTupleIter j1 t1 (n + 1) := ((I2.extBut b3.extBut N.qa.symm).extBut b4.extBut N.ab).extBut b5.extBut N.qa.symm
  have I2' : g5.IsTupleIter j2 t2 (n + 1) := I4.extBut b5.extBut N.qb.symm
  have zl : z < g5.objs.size := Heap.lt_size Z5
  show wpAny _ _ (Builtin.SmallTypes.ownedTupleHandOut (.ref z) (.ref g5.objs.size) >>= _) _ _ _
  refine wpAny_bind ?_
  unfold Builtin.SmallTypes.ownedTupleHandOut
  have Z6 : IsZip (g5.push { cls := .type "tuple", data := .seq #[v, u] }) z p q .ellipsis := Heap.get?_push_of_some _ Z5
  refine wpAny_bind (wpAny_setField_rec Z6 (by simp) fun g7 Z7 b7 => ?_)
  replace Z7 : IsZip g7 z p q (rawInt g5.objs.size) := Z7
  refine wpAny_setField_rec Z7 (by simp) fun g8 Z8 b8 => ?_
  replace Z8 : IsZip g8 z p q (rawInt g5.objs.size) := Z8
  have up : ∀ c o, c ≠ z → g5.get? c = some o → g8.get? c = some o := fun c o c1 e => b8.extBut _ _ c1 (b7.extBut _ _ c1 (Heap.get?_push_of_some _ e))
  have N8 : IsPair g8 g5.objs.size v u := b8.extBut _ _ (Nat.ne_of_gt zl) (b7.extBut _ _ (Nat.ne_of_gt zl) (Heap.get?_push_size _ rfl))
  have s8 : g8.objs.size = g5.objs.size + 1 := by rw [b8.1, b7.1, Heap.size_push]
  rw [sz] at Z8 N8 s8
  refine wpAny_pure ⟨_, rfl, ?_⟩
  show Q (.ref g5.objs.size) _
  rw [sz]
  have li : ∀ {j t : Addr}, j ≠ z → g5.IsTupleIter j t (n + 1) → g8.IsTupleIter j t (n + 1) := fun hj ⟨o, e, r⟩ => ⟨o, up _ o hj e, r⟩
  exact k g8 ⟨Z8, up _ _ N.pz (kp _ _ N.pz N.pq N.pa N.pb Hp), ⟨_, _, up _ _ N.qz Q5⟩, li N.az I1', li N.bz I2'⟩ N8 s8 fun c o m1 m2 m3 m4 e => up c o m1 (kp c o m1 m2 m3 m4 e)
theorem zn_end {z p q j1 j2 t1 t2 : Addr} {n : Nat} {vs us : Array Value} {Q : Fin → Shared → Prop} (calm : A.handled = none) (N : Zne z p q j1 j2) (n1 : t1 ≠ q) (n2 : t2 ≠ q) (Z : Zp s.heap z p q j1 j2 t1 t2 .none n) (T1 : s.heap.IsTuple t1 vs) (T2 : s.heap.IsTuple t2 us) (he : vs[n]? = none ∨ us[n]? = none)
    (k : ∀ g x, (∀ c o, c ≠ z → c ≠ q → c ≠ j1 → c ≠ j2 → s.heap.get? c = some o → g.get? c = some o) → (∃ o, g.get? x = some o ∧ o.cls = .type "StopIteration") → E (.ref x) { s with heap := g }) :
    wpAny (model prog w) A (Builtin.«zip.__next__» ⟨[.ref z], []⟩) Q E s := by
  obtain ⟨Hz, Hp, ⟨a, b, Hq⟩, H1, H2⟩ := id Z
  obtain ⟨x1, x2, x3⟩ := tup_ne Z T1
  obtain ⟨y1, y2, y3⟩ := tup_ne Z T2
  show wpAny _ _ (field (.ref z) 2 >>= _) _ _ _
  refine wpAny_bind (wpAny_field Hz rfl (x := .bool false) rfl ?_)
  show wpAny _ _ (field (.ref z) 3 >>= _) _ _ _
  refine wpAny_bind (wpAny_field Hz rfl (x := .ref p) rfl (wpAny_bind (wpAny_seqItems Hp rfl ?_)))
  show wpAny _ _ (Builtin.SmallTypes.ownedTupleIsFree (.ref z) >>= _) _ _ _
  refine wpAny_bind ?_
  unfold Builtin.SmallTypes.ownedTupleIsFree
  refine wpAny_bind (wpAny_field Hz rfl (x := .none) rfl (wpAny_pure ?_))
  simp only [if_true]
  refine wpAny_bind (wpAny_rule (wpAny_bind (wpAny_field Hz rfl (x := .ref q) rfl (wpAny_bind (wpAny_setField_rec Hz (by simp) fun g1 Z1 b1 => ?_)))))
  replace Z1 : IsZip g1 z p q .ellipsis := Z1
  refine wpAny_bind ?_
  simp only [List.zipIdx_cons, List.zipIdx_nil, List.forIn_cons, List.forIn_nil]
  refine wpAny_bind (wpAny_bind (wpAny_onRaise ?_))
  show wpAny _ _ (Builtin.SmallTypes.nextOf (.ref j1) >>= _) _ _ _
  cases hv : vs[n]? with
  | none =>
    refine wpAny_bind (tn_end calm (H1.extBut b1.extBut N.az) (T1.extBut b1.extBut x1) hv fun g2 x b2 hx => ?_)
    obtain ⟨o, e, c⟩ := hx
    have Z2 : IsZip g2 z p q .ellipsis := b2 _ _ N.az.symm Z1
    have xz : x ≠ z := fun y => by subst y; rw [Z2] at e; cases e; simp at c
    exact wpAny_setField_rec Z2 (by simp) fun g3 _ b3 => k g3 x (fun c o m1 _ m3 _ y => b3.extBut _ _ m1 (b2 _ _ m3 (b1.extBut _ _ m1 y))) ⟨o, b3.extBut _ _ xz e, c⟩
  | some v =>
    have hu : us[n]? = none := by rcases he with h | h; rw [hv] at h; cases h; exact h
    refine wpAny_bind (tn_item (H1.extBut b1.extBut N.az) (T1.extBut b1.extBut x1) hv fun g2 I2 b2 => wpAny_pure ?_)
    have Q2 : IsPair g2 q a b := b2.extBut _ _ N.qa (b1.extBut _ _ N.qz Hq)
    refine wpAny_bind (wpAny_seqItems Q2 rfl (wpAny_bind (pair_set Q2 fun g3 Q3 b3 => wpAny_bind (wpAny_letGo (wpAny_pure (wpAny_bind (wpAny_bind (wpAny_onRaise ?_))))))))
    show wpAny _ _ (Builtin.SmallTypes.nextOf (.ref j2) >>= _) _ _ _
    refine wpAny_bind (tn_end calm (((H2.extBut b1.extBut N.bz).extBut b2.extBut N.ab.symm).extBut b3.extBut N.qb.symm) (((T2.extBut b1.extBut y1).extBut b2.extBut y2).extBut b3.extBut n2) hu fun g4 x b4 hx => ?_)
    obtain ⟨o, e, c⟩ := hx
    have Z4 : IsZip g4 z p q .ellipsis := b4 _ _ N.bz.symm (b3.extBut _ _ N.qz.symm (b2.extBut _ _ N.az.symm Z1))
    have xz : x ≠ z := fun y => by subst y; rw [Z4] at e; cases e; simp at c
    exact wpAny_setField_rec Z4 (by simp) fun g5 _ b5 => k g5 x (fun c o m1 m2 m3 m4 y => b5.extBut _ _ m1 (b4 _ _ m4 (b3.extBut _ _ m2 (b2.extBut _ _ m3 (b1.extBut _ _ m1 y))))) ⟨o, b5.extBut _ _ xz e, c⟩
end
end FD
end
section
set_option Elab.async false
set_option linter.all false
set_option maxRecDepth 100000
set_option maxHeartbeats 4000000
namespace FD
open PySem PySem.Spec PyProof.Rows L2
section
variable {prog : Program} {w : World} {A : Around} {E : Value → Shared → Prop} {s : Shared}
theorem zp_next {z p q j1 j2 t1 t2 : Addr} {n : Nat} {vs us : Array Value} {v u : Value} {Q : Option Value → Shared → Prop} (N : Zne z p q j1 j2) (n1 : t1 ≠ q) (n2 : t2 ≠ q) (Z : Zp s.heap z p q j1 j2 t1 t2 .none n) (T1 : s.heap.IsTuple t1 vs) (T2 : s.heap.IsTuple t2 us) (hv : vs[n]? = some v) (hu : us[n]? = some u)
    (k : ∀ g, Zp g z p q j1 j2 t1 t2 (rawInt s.heap.objs.size) (n + 1) → IsPair g s.heap.objs.size v u → g.objs.size = s.heap.objs.size + 1 → (∀ c o, c ≠ z → c ≠ q → c ≠ j1 → c ≠ j2 → s.heap.get? c = some o → g.get? c = some o) → Q (some (.ref s.heap.objs.size)) { s with heap := g }) :
    wpAny (model prog w) A (pyNext (.ref z)) Q E s := by
  have ty : s.TypeIs (.ref z) "zip" := ⟨_, Z.zip, rfl⟩
  unfold pyNext
  exact wpAny_bind (wpAny_attempt (wpAny_callSpecial?_slot (name := Str.ofString "__next__") ty F.slot_zip_next (wpAny_call_entry F.slot_zip_next ty F.entry_zip_next (zn_item N n1 n2 Z T1 T2 hv hu fun g a b c d => wpAny_pure (k g a b c d)) (F.args_zip_next_1 _))))
theorem zp_stop {z p q j1 j2 t1 t2 : Addr} {n : Nat} {vs us : Array Value} {Q : Option Value → Shared → Prop} (calm : A.handled = none) (N : Zne z p q j1 j2) (n1 : t1 ≠ q) (n2 : t2 ≠ q) (Z : Zp s.heap z p q j1 j2 t1 t2 .none n) (T1 : s.heap.IsTuple t1 vs) (T2 : s.heap.IsTuple t2 us) (he : vs[n]? = none ∨ us[n]? = none)
    (k : ∀ g, (∀ c o, c ≠ z → c ≠ q → c ≠ j1 → c ≠ j2 → s.heap.get? c = some o → g.get? c = some o) → Q none { s with heap := g }) :
    wpAny (model prog w) A (pyNext (.ref z)) Q E s := by
  have ty : s.TypeIs (.ref z) "zip" := ⟨_, Z.zip, rfl⟩
  unfold pyNext
  refine wpAny_bind (wpAny_attempt (wpAny_callSpecial?_slot (name := Str.ofString "__next__") ty F.slot_zip_next (wpAny_call_entry F.slot_zip_next ty F.entry_zip_next (zn_end calm N n1 n2 Z T1 T2 he fun g x kp hx => ?_) (F.args_zip_next_1 _))))
  obtain ⟨o, e, c⟩ := hx
  exact wpAny_bind (wpAny_isInstance (T := "StopIteration") (b := true) ⟨o, e, c⟩ isSubtype_stop (wpAny_pure (k _ kp)))
abbrev zg1 (h : Heap) (t1 : Addr) : Heap := h.push { cls := .type "tuple_iterator", data := .fields #[.ref t1, .int 0 0] }
abbrev zg2 (h : Heap) (t1 t2 : Addr) : Heap := (zg1 h t1).push { cls := .type "tuple_iterator", data := .fields #[.ref t2, .int 0 0] }
abbrev zg3 (h : Heap) (t1 t2 : Addr) : Heap := (zg2 h t1 t2).push { cls := .type "tuple", data := .seq #[.ref h.objs.size, .ref (zg1 h t1).objs.size] }
abbrev zg4 (h : Heap) (t1 t2 : Addr) : Heap := (zg3 h t1 t2).push { cls := .type "tuple", data := .seq #[.none, .none] }
abbrev zg5 (h : Heap) (t1 t2 : Addr) : Heap := (zg4 h t1 t2).push { cls := .type "zip", data := .fields #[.none, .bool false, .bool false, .ref (zg2 h t1 t2).objs.size, .ref (zg3 h t1 t2).objs.size] }
theorem zip_made (t1 t2 : Addr) (vs us : Array Value) : Meets (Builtin.«zip.__new__» ⟨[.type "zip", .ref t1, .ref t2], []⟩) (fun _ R s => s.heap.IsTuple t1 vs ∧ s.heap.IsTuple t2 us ∧ R (.ok (.ret (.ref (zg4 s.heap t1 t2).objs.size))) { s with heap := zg5 s.heap t1 t2 }) :=
  .of_wp fun prog w A R s h => by
    obtain ⟨hp, g, d, tk, os⟩ := s
    obtain ⟨T1, T2, h⟩ := h
    have hsub := sub_zip
    have U1 : Heap.IsTuple (Shared.heap ⟨hp, g, d, tk, os⟩) t1 vs := T1
    have U2 : Heap.IsTuple (Shared.heap ⟨hp.push { cls := .type "tuple_iterator", data := .fields #[.ref t1, .int 0 0] }, g, d, tk, os⟩) t2 us := Heap.IsTuple.push T2 _
    wp_walk using wpAny_pyIter_tuple U1, wpAny_pyIter_tuple U2
    exact ⟨_, rfl, h⟩
theorem zip_call {t1 t2 : Addr} {vs us : Array Value} {Q : Value → Shared → Prop} (T1 : s.heap.IsTuple t1 vs) (T2 : s.heap.IsTuple t2 us)
    (k : ∀ g, Zp g (s.heap.objs.size + 4) (s.heap.objs.size + 2) (s.heap.objs.size + 3) s.heap.objs.size (s.heap.objs.size + 1) t1 t2 .none 0 → g.objs.size = s.heap.objs.size + 5 → (∀ c o, s.heap.get? c = some o → g.get? c = some o) → Q (.ref (s.heap.objs.size + 4)) { s with heap := g }) :
    wpAny (model prog w) A (call (.type "zip") [.ref t1, .ref t2]) Q E s := by
  refine callType_new F.called_zip (by decide) (F.typeCall_zip_2 _ _) (F.newCall_zip_2 _ _) (fun obj => F.args_object_init_3 obj _ _) F.entry_zip_new (zip_made t1 t2 vs us) ⟨T1, T2, ?_⟩
  have s1 : (zg1 s.heap t1).objs.size = s.heap.objs.size + 1 := Heap.size_push ..
  have s2 : (zg2 s.heap t1 t2).objs.size = s.heap.objs.size + 2 := by rw [Heap.size_push, s1]
  have s3 : (zg3 s.heap t1 t2).objs.size = s.heap.objs.size + 3 := by rw [Heap.size_push, s2]
  have s4 : (zg4 s.heap t1 t2).objs.size = s.heap.objs.size + 4 := by rw [Heap.size_push, s3]
  have s5 : (zg5 s.heap t1 t2).objs.size = s.heap.objs.size + 5 := by rw [Heap.size_push, s4]
  have e5 : (zg5 s.heap t1 t2).get? (zg4 s.heap t1 t2).objs.size = some _ := Heap.get?_push_size _ rfl
  have e4 : (zg5 s.heap t1 t2).get? (zg3 s.heap t1 t2).objs.size = some _ := Heap.get?_push_of_some _ (Heap.get?_push_size _ rfl)
  have e3 : (zg5 s.heap t1 t2).get? (zg2 s.heap t1 t2).objs.size = some _ := Heap.get?_push_of_some _ (Heap.get?_push_of_some _ (Heap.get?_push_size _ rfl))
  have e2 : (zg5 s.heap t1 t2).get? (zg1 s.heap t1).objs.size = some _ := Heap.get?_push_of_some _ (Heap.get?_push_of_some _ (Heap.get?_push_of_some _ (Heap.get?_push_size _ rfl)))
  have e1 : (zg5 s.heap t1 t2).get? s.heap.objs.size = some _ := Heap.get?_push_of_some _ (Heap.get?_push_of_some _ (Heap.get?_push_of_some _ (Heap.get?_push_of_some _ (Heap.get?_push_size _ rfl))))
  show _ ∧ _
  rw [s2, s3, s4] at e5
  rw [s1, s2] at e3
  rw [s3] at e4
  rw [s1] at e2
  rw [s4]
  exact ⟨⟨_, e5, rfl⟩, k _ ⟨e5, e3, ⟨_, _, e4⟩, ⟨_, e1, rfl, rfl⟩, ⟨_, e2, rfl, rfl⟩⟩ s5 fun c o x => Heap.get?_push_of_some _ (Heap.get?_push_of_some _ (Heap.get?_push_of_some _ (Heap.get?_push_of_some _ (Heap.get?_push_of_some _ x))))⟩
end
/-- two tuples, item by item: each turn makes a pair -/
def Itz (K : PySem.W.Frag) (t1 t2 : Addr) : It :=
  ⟨fun i H => ∃ xs ys x y, SqT K H t1 xs ∧ SqT K H t2 ys ∧ xs[i]? = some x ∧ ys[i]? = some y,
   fun i H v H' => ∃ T x y, H T = none ∧ v = .ref T ∧ H' = upd H T (.tup [x, y]) ∧ (∀ xs, SqT K H t1 xs → xs[i]? = some x) ∧ ∀ ys, SqT K H t2 ys → ys[i]? = some y,
   fun i H => ∃ xs ys, SqT K H t1 xs ∧ SqT K H t2 ys ∧ (xs.length ≤ i ∨ ys.length ≤ i)⟩
section
variable {X : Cx} {pins : List (Addr × Obj)} {σ : St} {H : Hp} {s : Shared} {h' : Heap}
theorem turned_all {t' : Nat} {ch : List Addr} (I : Inv X pins σ H s) (k : ∀ b o, b ∉ ch → s.heap.get? b = some o → h'.get? b = some o) (hf : ∀ b ∈ ch, FpOk X pins H b) : Inv X pins σ H { s with heap := h', toks := t' } := by
  have nch : ∀ b u, H b = some u → b ∉ ch := fun b u e z => by rw [(hf b z).1] at e; cases e
  refine I.step (g' := s.gens) (d' := s.drawn) (ch := ch) (fun b hb => ⟨(hf b hb).2.2.2.1, (hf b hb).2.1, (hf b hb).2.2.2.2.1, (hf b hb).2.2.2.2.2⟩) (fun b o _ _ hc e _ => k b o hc e) (fun b o _ _ hc e _ => ⟨o.slots, k b o hc e⟩) (fun _ _ _ _ n => n)
    (fun b o hc e => ⟨o, k b o hc e⟩) (fun _ _ e => e) (fun _ _ _ e => e) (fun b ps e => ⟨#[], by rw [e]; simp⟩) (fun m hm => ?_) (fun b u e => ?_) I.bare
  · obtain ⟨o, es, ep, ho, r⟩ := hm
    exact ⟨o, es, ep, k _ o (fun z => (hf _ z).2.1 rfl) ho, r⟩
  · refine (I.hok b u e).stay (fun c v hc q => k c v ?_ q) (fun _ q => q) fun _ _ q => q
    rcases hc with z | z
    · rw [z]; exact nch b u e
    · exact nch c _ z
end
theorem zp_obj {h : Heap} {z p q j1 j2 t1 t2 : Addr} {f : Value} {n : Nat} (Z : Zp h z p q j1 j2 t1 t2 f n) : ∀ b ∈ [z, p, q, j1, j2], ∃ o, h.get? b = some o ∧ ∀ v, o.data ≠ .cell v := fun b hb => by
  simp only [List.mem_cons, List.not_mem_nil, or_false] at hb
  rcases hb with rfl | rfl | rfl | rfl | rfl
  · exact ⟨_, Z.zip, fun v e => by cases e⟩
  · exact ⟨_, Z.par, fun v e => by cases e⟩
  · obtain ⟨a, b, e⟩ := Z.out; exact ⟨_, e, fun v e => by cases e⟩
  · obtain ⟨o, e, _, d⟩ := Z.one; exact ⟨o, e, fun v e => by rw [d] at e; cases e⟩
  · obtain ⟨o, e, _, d⟩ := Z.two; exact ⟨o, e, fun v e => by rw [d] at e; cases e⟩
theorem turn_zip {P : Program} {w : World} {K : PySem.W.Frag} {elts : List Expr} {x1 : Nat} {tp : Pos} {z p q j1 j2 t1 t2 : Addr} (N : Zne z p q j1 j2) (n1 : t1 ≠ q) (n2 : t2 ≠ q) :
    Turn P w K (.Tuple elts x1 tp) (Itz K t1 t2) [z, p, q, j1, j2] z (fun i h => Zp h z p q j1 j2 t1 t2 .none i) where
  mem := by simp
  obj := fun i h st b hb => zp_obj st b hb
  keep := fun i h h' st k => by
    obtain ⟨a1, a2, ⟨a, b, a3⟩, ⟨o4, e4, r4⟩, ⟨o5, e5, r5⟩⟩ := st
    exact ⟨k z (by simp) _ a1, k p (by simp) _ a2, ⟨a, b, k q (by simp) _ a3⟩, ⟨o4, k j1 (by simp) _ e4, r4⟩, ⟨o5, k j2 (by simp) _ e5, r5⟩⟩
  item := by
    intro X hP hw hK hc i pins s σ H E I hf st hg
    subst hP hw hK
    obtain ⟨xs, ys, x, y, hq1, hq2, hx, hy⟩ := hg
    obtain ⟨us, rv1, T1, _⟩ := I.tuple hq1
    obtain ⟨ws, rv2, T2, _⟩ := I.tuple hq2
    obtain ⟨u, hu, ru⟩ := rv1.get hx
    obtain ⟨v, hv, rv⟩ := rv2.get hy
    refine zp_next N n1 n2 st (show s.heap.IsTuple t1 us.toArray from T1) (show s.heap.IsTuple t2 ws.toArray from T2) (v := u) (u := v) (by simpa using hu) (by simpa using hv) fun g Zg Pg sz kp => ?_
    have hfr : H s.heap.objs.size = none := I.hok.fresh (Nat.le_refl _)
    refine ⟨_, rfl, wpAny_letOwnedTupleGo_zip Zg.zip fun g' Zz sb => ?_⟩
    have ltf : ∀ b ∈ [z, p, q, j1, j2], b ≠ s.heap.objs.size := fun b hb e => by
      obtain ⟨o, ho, _⟩ := zp_obj st b hb
      exact absurd (Heap.lt_size ho) (by rw [e]; exact Nat.lt_irrefl _)
    have I1 : Inv X pins σ (upd H s.heap.objs.size (.tup [x, y])) { s with heap := s.heap.push { cls := .type "tuple", data := .seq #[u, v] }, toks := s.toks } :=
      I.laid (fun b o e => Heap.get?_push_of_some _ e) (Nat.le_refl _) (show ObjOk X.prog X.w _ _ _ (.tup [x, y]) from ⟨le_line (by simp), [u, v], .cons ru (.cons rv .nil), ⟨_, Heap.get?_push_size _ rfl, rfl, _, rfl⟩⟩)
    have hf' : ∀ b ∈ [z, p, q, j1, j2], FpOk X pins (upd H s.heap.objs.size (.tup [x, y])) b := fun b hb => ⟨by rw [upd_ne (ltf b hb)]; exact (hf b hb).1, (hf b hb).2⟩
    have Zn : Zp g' z p q j1 j2 t1 t2 .none (i + 1) := by
      obtain ⟨_, a2, ⟨a, b, a3⟩, ⟨o4, e4, r4⟩, ⟨o5, e5, r5⟩⟩ := Zg
      exact ⟨Zz, sb.extBut _ _ N.pz a2, ⟨a, b, sb.extBut _ _ N.qz a3⟩, ⟨o4, sb.extBut _ _ N.az e4, r4⟩, ⟨o5, sb.extBut _ _ N.bz e5, r5⟩⟩
    have I2 : Inv X pins σ (upd H s.heap.objs.size (.tup [x, y])) { s with heap := g', toks := s.toks } := by
      refine turned_all (s := { s with heap := s.heap.push { cls := .type "tuple", data := .seq #[u, v] }, toks := s.toks }) (t' := s.toks) (ch := [z, p, q, j1, j2]) I1 (fun b o hb e => ?_) hf'
      replace e : (s.heap.push { cls := .type "tuple", data := .seq #[u, v] }).get? b = some o := e
      simp only [List.mem_cons, List.not_mem_nil, or_false, not_or] at hb
      by_cases eb : b = s.heap.objs.size
      · subst eb
        rw [show (s.heap.push { cls := .type "tuple", data := .seq #[u, v] }).get? s.heap.objs.size = some { cls := .type "tuple", data := .seq #[u, v] } from Heap.get?_push_size _ rfl] at e
        cases e
        exact sb.extBut _ _ hb.1 Pg
      · rw [Heap.get?_push_ne _ _ _ eb] at e
        exact sb.extBut _ _ hb.1 (kp b o hb.1 hb.2.2.1 hb.2.2.2.1 hb.2.2.2.2 e)
    exact ⟨.ref s.heap.objs.size, _, I2, rfl, ⟨_, x, y, hfr, rfl, rfl, fun zs hz => by rw [I.tuple_inj hz hq1]; exact hx, fun zs hz => by rw [I.tuple_inj hz hq2]; exact hy⟩, Zn, fun b hb => (hf' b hb).1⟩
  done := by
    intro X hP hw hK hc i pins s σ H E I hf st hg
    subst hP hw hK
    obtain ⟨xs, ys, hq1, hq2, he⟩ := hg
    obtain ⟨us, rv1, T1, _⟩ := I.tuple hq1
    obtain ⟨ws, rv2, T2, _⟩ := I.tuple hq2
    have l1 := rv1.length
    have l2 := rv2.length
    refine zp_stop (I.ok.hd hc) N n1 n2 st (show s.heap.IsTuple t1 us.toArray from T1) (show s.heap.IsTuple t2 ws.toArray from T2) ?_ fun g kp => ⟨rfl, ?_⟩
    · rcases he with he | he
      · left; simp; omega
      · right; simp; omega
    · refine turned_all (t' := s.toks) (ch := [z, p, q, j1, j2]) I (fun b o hb e => ?_) hf
      simp only [List.mem_cons, List.not_mem_nil, or_false, not_or] at hb
      exact kp b o hb.1 hb.2.2.1 hb.2.2.2.1 hb.2.2.2.2 e
  self := fun _ _ _ _ _ st h => wpAny_pyIter_zip st.zip h
end FD
end
section
set_option Elab.async false
set_option linter.all false
set_option maxRecDepth 100000
set_option maxHeartbeats 4000000
namespace FD
open PySem PySem.Spec PyProof.Rows L2
def iZip (K : PySem.W.Frag) (ta : TA) : TI := fun σ H R => ta σ H fun vs H1 => ∃ t1 t2, vs = [.ref t1, .ref t2] ∧ (∃ xs, SqT K H1 t1 xs) ∧ (∃ ys, SqT K H1 t2 ys) ∧ R (Itz K t1 t2) H1
def zipGo (i j : Nat) (body : FS) : List D → List D → En → Option Out
  | x :: xs, y :: ys, ρ => (body ((ρ.set i (some x)).set j (some y))).bind fun o => match o with
    | .nx ρ' => zipGo i j body xs ys ρ'
    | .ct ρ' => zipGo i j body xs ys ρ'
    | .bk ρ' => some (.nx ρ')
    | .rt d => some (.rt d)
  | _, _, ρ => some (.nx ρ)
@[simp] def sForZip (i j : Nat) (a b : FE) (body : FS) : FS := fun ρ => ((a ρ).bind tupOf).bind fun xs => ((b ρ).bind tupOf).bind fun ys => zipGo i j body xs ys ρ
section
variable {X : Cx} {pos : Pos}
theorem bt_zip : bootBuiltins "zip" = some (.type "zip") := by decide +kernel
theorem pi_zip {elts : List Expr} {x1 : Nat} {tp p : Pos} {a b : Expr} {ta : TA} (hg : Gl X "zip") (hm : X.mg "zip" = none) (ha : PA X [a, b] ta) (na : nostar a = true) (nb : nostar b = true) :
    PI X (.Tuple elts x1 tp) (.Call (.Name "zip" p) [a, b] [] pos) (iZip X.K ta) := by
  intro pins s σ H R I h
  refine Call_ (ld_blt I hg hm bt_zip (PyProof.Rows.callWith_type1 (thn (ha pos pins s σ H _ I h) fun us s1 ⟨vs, H1, I1, r1, q1⟩ => ?_) (star_no na) (back_no (by simp [nb]))))
  obtain ⟨t1, t2, e, ⟨xs, hx⟩, ⟨ys, hy⟩, q⟩ := q1
  subst e
  cases r1 with
  | cons r rr =>
    cases rr with
    | cons r' rr =>
      cases rr
      cases r
      cases r'
      obtain ⟨ws, _, T1, _⟩ := I1.tuple hx
      obtain ⟨zs, _, T2, _⟩ := I1.tuple hy
      have l1 : t1 < s1.heap.objs.size := by obtain ⟨o, e, _⟩ := T1; exact Heap.lt_size e
      have l2 : t2 < s1.heap.objs.size := by obtain ⟨o, e, _⟩ := T2; exact Heap.lt_size e
      refine zip_call (show s1.heap.IsTuple t1 ws.toArray from T1) (show s1.heap.IsTuple t2 zs.toArray from T2) fun g Z sz kp => wpAny_pyIter_zip Z.zip ?_
      have I2 : Inv X pins σ H1 { s1 with heap := g, toks := s1.toks } := I1.kept kp
      have N : Zne (s1.heap.objs.size + 4) (s1.heap.objs.size + 2) (s1.heap.objs.size + 3) s1.heap.objs.size (s1.heap.objs.size + 1) := by
        constructor <;> (intro z; have z' : (_ : Nat) = _ := z; omega)
      refine ⟨_, _, _, _, H1, rfl, I2, turn_zip N (Nat.ne_of_lt (Nat.lt_of_lt_of_le l1 (Nat.le_add_right _ _))) (Nat.ne_of_lt (Nat.lt_of_lt_of_le l2 (Nat.le_add_right _ _))), Z, fun b hb => ?_, q⟩
      have hle : s1.heap.objs.size ≤ b := by
        simp only [List.mem_cons, List.not_mem_nil, or_false] at hb
        rcases hb with rfl | rfl | rfl | rfl | rfl <;> omega
      exact I1.fpOk hle (I1.hok.fresh hle)
/-- over two tuples that the body leaves as they are -/
theorem for_zip {K : PySem.W.Frag} {t1 t2 : Addr} {xs ys : List V} {g : TG} {tb : TS} {D : Ends} {σ : St} {H : Hp} (Pv : Nat → St → Hp → Prop) (h0 : Pv 0 σ H) (h1 : ∀ i σ H, Pv i σ H → SqT K H t1 xs) (h2 : ∀ i σ H, Pv i σ H → SqT K H t2 ys)
    (hs : ∀ i x y T σ H, xs[i]? = some x → ys[i]? = some y → H T = none → Pv i σ H → g (.ref T) σ (upd H T (.tup [x, y])) fun σ2 H2 => tb { D with nx := Pv (i + 1), ct := Pv (i + 1), bk := D.nx } σ2 H2)
    (hd : ∀ i σ H, (xs.length ≤ i ∨ ys.length ≤ i) → Pv i σ H → D.nx σ H) :
    ∃ W : Nat → Nat → St → Hp → Prop, (∃ m, W 0 m σ H) ∧ ∀ i m σ H, W i m σ H →
      ((Itz K t1 t2).stop i H ∧ D.nx σ H) ∨ ((Itz K t1 t2).go i H ∧ ∃ N : St → Hp → Prop, (∀ σ' H', N σ' H' → ∃ m', m' < m ∧ W (i + 1) m' σ' H') ∧ ∀ x H', (Itz K t1 t2).yld i H x H' → g x σ H' fun σ2 H2 => tb { D with nx := N, ct := N, bk := D.nx } σ2 H2) := by
  refine ⟨fun i m σ H => m = xs.length - i ∧ Pv i σ H, ⟨xs.length, by simp, h0⟩, ?_⟩
  rintro i m σ H ⟨rfl, pv⟩
  have q1 := h1 i σ H pv
  have q2 := h2 i σ H pv
  by_cases c1 : i < xs.length
  · by_cases c2 : i < ys.length
    · refine .inr ⟨⟨xs, ys, xs[i], ys[i], q1, q2, by simp [c1], by simp [c2]⟩, Pv (i + 1), fun σ' H' p' => ⟨xs.length - (i + 1), by omega, rfl, p'⟩, ?_⟩
      rintro x H' ⟨T, a, b, hT, rfl, rfl, ea, eb⟩
      exact hs i a b T σ H (ea xs q1) (eb ys q2) hT pv
    · exact .inl ⟨⟨xs, ys, q1, q2, .inr (by omega)⟩, hd i σ H (.inr (by omega)) pv⟩
  · exact .inl ⟨⟨xs, ys, q1, q2, .inl (by omega)⟩, hd i σ H (.inl (by omega)) pv⟩
theorem fs_forZip {i j k : Nat} {es : List Expr} {a b : Expr} {fa fb : FE} {body : List Stmt} {gb : FS} {p1 p2 p3 : Pos} (hg : Gl X "zip") (hm : X.mg "zip" = none) (ha : FEx X a fa) (hb : FEx X b fb) (ht : PGs X es (gNames [i, j])) (hbody : FSs X body gb)
    (na : nostar a = true := by rfl) (nb : nostar b = true := by rfl) (hn : (assignEach es X.env).length = 2 := by rfl) (hst : (assignEach es X.env).findIdx? (·.1) = none := by rfl)
    (hp : PassesOwn (model X.prog X.w) X.A X.env X.xe := by exact PassesOwn.never) (hc : X.calm = true := by rfl)
    (hs : ∀ x, foldedSetIterable (.Call (.Name "zip" p1) [a, b] [] p3) X.env x = pure x := by intro _; rfl) : FSx X (.For (.Tuple es k p2) (.Call (.Name "zip" p1) [a, b] [] p3) body [] pos) (sForZip i j fa fb gb) := by
  refine FSx.of (ps_for hp hc (pi_zip hg hm (FAx.pa (fa_cons ha (fa_cons hb fa_nil nb) na)) na nb) (pg_tup hc ht hn hst) hbody.ps hs) fun σ H ρ o r eo => ?_
  simp only [sForZip] at eo
  obtain ⟨xs, exs, eo⟩ := Option.bind_eq_some_iff.mp eo
  obtain ⟨ys, eys, eo⟩ := Option.bind_eq_some_iff.mp eo
  obtain ⟨da, ea, exs⟩ := Option.bind_eq_some_iff.mp exs
  obtain ⟨db, eb, eys⟩ := Option.bind_eq_some_iff.mp eys
  cases da <;> simp only [tupOf] at exs <;> first | contradiction | skip
  cases db <;> simp only [tupOf] at eys <;> first | contradiction | skip
  cases exs
  cases eys
  refine ⟨ρ, [.tuple xs, .tuple ys], r, by simp [ea, eb], fun vs H1 m1 q1 => ?_⟩
  cases q1 with
  | cons q1 q2 =>
    cases q2 with
    | cons q2 q3 =>
      cases q3
      cases q1
      cases q2
      rename_i t1 us h1 r1 t2 ws h2 r2
      refine ⟨t1, t2, rfl, ⟨us, h1⟩, ⟨ws, h2⟩, ?_⟩
      refine for_zip (xs := us) (ys := ws) (fun n σ' H' => ∃ ρ', RepS X.K H' σ' ρ' ∧ Same H1 H' ∧ zipGo i j gb (xs.drop n) (ys.drop n) ρ' = some o) ⟨ρ, r.mono m1, Same.refl _, by simpa using eo⟩ ?_ ?_ ?_ ?_
      · rintro n σ' H' ⟨ρ', _, m', _⟩; exact sqT_mono m' h1
      · rintro n σ' H' ⟨ρ', _, m', _⟩; exact sqT_mono m' h2
      · rintro n x y T σ' H' hx hy hT ⟨ρ', r', m', e'⟩
        have k1 : n < xs.length := by rw [← r1.length]; exact (List.getElem?_eq_some_iff.mp hx).1
        have k2 : n < ys.length := by rw [← r2.length]; exact (List.getElem?_eq_some_iff.mp hy).1
        obtain ⟨dx, hdx⟩ : ∃ d, xs[n]? = some d := ⟨xs[n], by simp [k1]⟩
        obtain ⟨dy, hdy⟩ : ∃ d, ys[n]? = some d := ⟨ys[n], by simp [k2]⟩
        obtain ⟨x', hx', px⟩ := r1.get hdx
        obtain ⟨y', hy', py⟩ := r2.get hdy
        rw [hx] at hx'; cases hx'
        rw [hy] at hy'; cases hy'
        rw [drop_at hdx, drop_at hdy] at e'
        have mT : Same H' (upd H' T (.tup [x, y])) := same_new hT _
        have m2 := m'.trans mT
        refine ⟨T, [x, y], rfl, .inl (.inl upd_same), rfl, ?_⟩
        refine gNames_read [i, j] (vs := [x, y]) (ds := [dx, dy]) (.cons (px.mono m2) (.cons (py.mono m2) .nil)) rfl (r'.mono mT) fun σ2 r2' => ?_
        simp only [zipGo] at e'
        obtain ⟨o2, e2, e'⟩ := Option.bind_eq_some_iff.mp e'
        refine ⟨_, o2, r2', e2, ?_, ?_, ?_, ?_⟩
        · rintro σ3 H3 ⟨ρ3, eo', m3, r3⟩
          subst eo'
          exact ⟨ρ3, r3, m2.trans m3, e'⟩
        · rintro v H3 ⟨d3, eo', m3, p3⟩
          subst eo'
          simp only [Option.some.injEq] at e'
          exact ⟨d3, e'.symm, m1.trans (m2.trans m3), p3⟩
        · rintro σ3 H3 ⟨ρ3, eo', m3, r3⟩
          subst eo'
          simp only [Option.some.injEq] at e'
          exact ⟨ρ3, e'.symm, m1.trans (m2.trans m3), r3⟩
        · rintro σ3 H3 ⟨ρ3, eo', m3, r3⟩
          subst eo'
          exact ⟨ρ3, r3, m2.trans m3, e'⟩
      · rintro n σ' H' hn ⟨ρ', r', m', e'⟩
        have : zipGo i j gb (xs.drop n) (ys.drop n) ρ' = some (.nx ρ') := by
          rcases hn with hn | hn
          · rw [List.drop_eq_nil_of_le (by rw [← r1.length]; exact hn)]; simp [zipGo]
          · rw [List.drop_eq_nil_of_le (as := ys) (by rw [← r2.length]; exact hn)]
            cases xs.drop n <;> simp [zipGo]
        rw [this] at e'
        simp only [Option.some.injEq] at e'
        exact ⟨ρ', e'.symm, m1.trans m', r'⟩
end
end FD
end
section
set_option Elab.async false
set_option linter.all false
set_option maxHeartbeats 1000000
namespace FD
open PySem
theorem canLay0_str (s : Str) : (PyData.str s).canLay0 = PyData.strOk s := by simp [PyData.canLay0]
theorem okEq_str {x : D} {s : Str} (hx : x.canLay0 = true) (hs : PyData.strOk s = true) : okEq x (.str s) = true := by
  simp [okEq, hx, canLay0_str, hs, PyData.depth]
theorem eqD_str {x : D} {s : Str} (hx : x.canLay0 = true) (hs : PyData.strOk s = true) : eqD x (.str s) = some (.bool (x.eqv (.str s))) := by
  simp [eqD, okEq_str hx hs]
@[simp] theorem eqD_int (i j : Int) : eqD (.int i) (.int j) = some (.bool (i == j)) := by simp [eqD, okEq, PyData.canLay0, PyData.eqv, PyData.depth]
@[simp] theorem neD_int (i j : Int) : neD (.int i) (.int j) = some (.bool (!(i == j))) := by simp [neD, okEq, PyData.canLay0, PyData.eqv, PyData.depth]
theorem ok_number : PyData.strOk "number" = true := by decide +kernel
theorem ok_plus : PyData.strOk "plus" = true := by decide +kernel
theorem ok_less : PyData.strOk "less" = true := by decide +kernel
theorem ok_times : PyData.strOk "times" = true := by decide +kernel
@[simp] theorem at_0 {α : Type} (x : α) (xs : List α) : at? (x :: xs) 0 = some x := rfl
@[simp] theorem at_1 {α : Type} (x y : α) (xs : List α) : at? (x :: y :: xs) 1 = some y := rfl
@[simp] theorem at_2 {α : Type} (x y z : α) (xs : List α) : at? (x :: y :: z :: xs) 2 = some z := rfl
inductive Kd where | plus | less | times
def Kd.str : Kd → Str
  | .plus => "plus" | .less => "less" | .times => "times"
inductive Tr where
  | num (n : Int)
  | node (k : Kd) (l r : Tr)
def Tr.toD : Tr → D
  | .num n => .tuple [.str "number", .int n]
  | .node k l r => .tuple [.str k.str, l.toD, r.toD]
def Tr.leaves : Tr → Nat
  | .num _ => 1
  | .node _ l r => l.leaves + r.leaves
def Tr.dep : Tr → Nat
  | .num _ => 0
  | .node _ l r => max l.dep r.dep + 1
/-- all numbers lie within -1000 .. 1000 -/
def Tr.ok : Tr → Prop
  | .num n => -1000 ≤ n ∧ n ≤ 1000
  | .node _ l r => l.ok ∧ r.ok
def Tr.worth : Tr → Int
  | .num n => n
  | .node .plus l r => l.worth + r.worth
  | .node .less l r => l.worth - r.worth
  | .node .times l r => l.worth * r.worth
theorem kd_ok (k : Kd) : PyData.strOk k.str = true := by cases k <;> decide +kernel
theorem kd_ne (k : Kd) : (k.str == ("number" : Str)) = false := by cases k <;> decide +kernel
theorem Tr.leaves_pos : ∀ t : Tr, 1 ≤ t.leaves
  | .num _ => Nat.le_refl _
  | .node _ l r => by have := l.leaves_pos; simp only [Tr.leaves]; omega
theorem Tr.dep_lt : ∀ t : Tr, t.dep < t.leaves
  | .num _ => Nat.lt_succ_self _
  | .node _ l r => by
    have := l.dep_lt; have := r.dep_lt; have := l.leaves_pos; have := r.leaves_pos
    simp only [Tr.leaves, Tr.dep]; omega
@[simp] theorem eqD_kd (k : Kd) : eqD (.str k.str) (.str "number") = some (.bool false) := by
  rw [eqD_str (by rw [canLay0_str]; exact kd_ok k) ok_number]; simp [PyData.eqv, kd_ne]
@[simp] theorem eqD_num : eqD (.str "number") (.str "number") = some (.bool true) := by
  rw [eqD_str (by rw [canLay0_str]; exact ok_number) ok_number]; simp [PyData.eqv]
theorem eqD_k2 (k : Kd) (s : Str) (hs : PyData.strOk s = true) : eqD (.str k.str) (.str s) = some (.bool (k.str == s)) := by
  rw [eqD_str (by rw [canLay0_str]; exact kd_ok k) hs]; simp [PyData.eqv]
@[simp] theorem pp : (Kd.plus.str == ("plus" : Str)) = true := by decide +kernel
@[simp] theorem lp : (Kd.less.str == ("plus" : Str)) = false := by decide +kernel
@[simp] theorem tp : (Kd.times.str == ("plus" : Str)) = false := by decide +kernel
@[simp] theorem pl : (Kd.plus.str == ("less" : Str)) = false := by decide +kernel
@[simp] theorem ll : (Kd.less.str == ("less" : Str)) = true := by decide +kernel
@[simp] theorem tl : (Kd.times.str == ("less" : Str)) = false := by decide +kernel
@[simp] theorem pt : (Kd.plus.str == ("times" : Str)) = false := by decide +kernel
@[simp] theorem lt' : (Kd.less.str == ("times" : Str)) = false := by decide +kernel
@[simp] theorem tt : (Kd.times.str == ("times" : Str)) = true := by decide +kernel
theorem Tr.worth_le : ∀ t : Tr, t.ok → t.worth.natAbs ≤ 1000 ^ t.leaves
  | .num n, h => by simp only [Tr.worth, Tr.leaves]; simp only [Tr.ok] at h; omega
  | .node k l r, h => by
    have hl := l.worth_le h.1
    have hr := r.worth_le h.2
    have pl : 1000 ≤ 1000 ^ l.leaves := by
      have := l.leaves_pos
      calc 1000 = 1000 ^ 1 := by decide
        _ ≤ 1000 ^ l.leaves := Nat.pow_le_pow_right (by decide) this
    have pr : 1000 ≤ 1000 ^ r.leaves := by
      have := r.leaves_pos
      calc 1000 = 1000 ^ 1 := by decide
        _ ≤ 1000 ^ r.leaves := Nat.pow_le_pow_right (by decide) this
    have hs : 1000 ^ l.leaves + 1000 ^ r.leaves ≤ 1000 ^ (Tr.node k l r).leaves := by
      simp only [Tr.leaves, Nat.pow_add]
      generalize 1000 ^ l.leaves = a at *
      generalize 1000 ^ r.leaves = b at *
      have : a * 2 ≤ a * b := Nat.mul_le_mul_left a (by omega)
      have : 2 * b ≤ a * b := Nat.mul_le_mul_right b (by omega)
      omega
    cases k with
    | plus => simp only [Tr.worth]; omega
    | less => simp only [Tr.worth]; omega
    | times =>
      simp only [Tr.worth, Tr.leaves, Nat.pow_add, Int.natAbs_mul]
      exact Nat.mul_le_mul hl hr
theorem Tr.worth_lt {t : Tr} (h : t.ok) (hl : t.leaves ≤ 16) : t.worth.natAbs < 2 ^ 500 := by
  have h1 := t.worth_le h
  have h2 : 1000 ^ t.leaves ≤ 1000 ^ 16 := Nat.pow_le_pow_right (by decide) hl
  have h3 : (1000 : Nat) ^ 16 < 2 ^ 500 := by decide +kernel
  omega
def part : Tr → List Nat → Option Tr
  | t, [] => some t
  | .num _, _ :: _ => none
  | .node _ l r, c :: cs => if c = 108 then part l cs else if c = 114 then part r cs else none
def partD (t : Tr) (cs : List Nat) : D := match part t cs with
  | some t' => t'.toD
  | none => .none
def valid (cs : List Nat) : Prop := ∀ c ∈ cs, c < 1114112
theorem s_l : ("l" : Str) = ⟨#[108]⟩ := by decide +kernel
theorem s_r : ("r" : Str) = ⟨#[114]⟩ := by decide +kernel
theorem s_lr : ("lr" : Str).cps = #[108, 114] := by decide +kernel
theorem s_e : ("" : Str) = ⟨#[]⟩ := by decide +kernel
theorem eqD_chr {c k : Nat} (hc : c < 1114112) (hk : k < 1114112) : eqD (chr1 c) (.str ⟨#[k]⟩) = some (.bool (decide (c = k))) := by
  simp [eqD, okEq, chr1, PyData.canLay0, PyData.strOk, hc, hk, PyData.depth, PyData.eqv]
  rw [Bool.eq_iff_iff]; simp
theorem eqD_l {c : Nat} (hc : c < 1114112) : eqD (chr1 c) (.str "l") = some (.bool (decide (c = 108))) := by rw [s_l]; exact eqD_chr hc (by decide)
theorem eqD_r {c : Nat} (hc : c < 1114112) : eqD (chr1 c) (.str "r") = some (.bool (decide (c = 114))) := by rw [s_r]; exact eqD_chr hc (by decide)
theorem findD_chr (c : Nat) : findD (.str "lr") (chr1 c) = some (.int (findLR c)) := by simp [findD, chr1, s_lr]
def turn : Tr → List Nat → Tr
  | .num n, _ => .num n
  | .node k l r, [] => .node k r l
  | .node k l r, c :: cs => if c = 108 then .node k (turn l cs) r else .node k l (turn r cs)
theorem cut1 {α : Type} (x : α) (xs : List α) : cut (x :: xs) (some 1) none = xs := by
  simp [cut, clip]
def addrs : Tr → List Nat → List (List Nat)
  | .num _, a => [a]
  | .node _ l r, a => a :: (addrs l (a ++ [108]) ++ addrs r (a ++ [114]))
def strD' (a : List Nat) : D := .str ⟨a.toArray⟩
theorem addrs_len : ∀ (t : Tr) (a : List Nat), (addrs t a).length + 1 = 2 * t.leaves
  | .num _, a => by simp [addrs, Tr.leaves]
  | .node _ l r, a => by
    have := addrs_len l (a ++ [108]); have := addrs_len r (a ++ [114])
    simp only [addrs, Tr.leaves, List.length_cons, List.length_append]; omega
theorem addrs_form : ∀ (t : Tr) (a b : List Nat), b ∈ addrs t a → ∃ c, b = a ++ c ∧ c.length ≤ t.dep ∧ (∀ x ∈ c, x = 108 ∨ x = 114) ∧ (part t c).isSome
  | .num _, a, b, h => by
    simp only [addrs, List.mem_singleton] at h
    exact ⟨[], by simp [h], by simp, by simp, by simp [part]⟩
  | .node _ l r, a, b, h => by
    simp only [addrs, List.mem_cons, List.mem_append] at h
    rcases h with rfl | h | h
    · exact ⟨[], by simp, by simp, by simp, by simp [part]⟩
    · obtain ⟨c, e, h1, h2, h3⟩ := addrs_form l _ b h
      refine ⟨108 :: c, by simp [e], by simp only [List.length_cons, Tr.dep]; omega, ?_, by simpa [part] using h3⟩
      intro x hx
      rcases List.mem_cons.mp hx with rfl | hx
      · exact .inl rfl
      · exact h2 x hx
    · obtain ⟨c, e, h1, h2, h3⟩ := addrs_form r _ b h
      refine ⟨114 :: c, by simp [e], by simp only [List.length_cons, Tr.dep]; omega, ?_, by simpa [part] using h3⟩
      intro x hx
      rcases List.mem_cons.mp hx with rfl | hx
      · exact .inr rfl
      · exact h2 x hx
theorem app_l (a : List Nat) : (⟨a.toArray⟩ : Str) ++ ("l" : Str) = ⟨(a ++ [108]).toArray⟩ := by
  rw [s_l]; show Str.append _ _ = _; simp [Str.append]
theorem app_r (a : List Nat) : (⟨a.toArray⟩ : Str) ++ ("r" : Str) = ⟨(a ++ [114]).toArray⟩ := by
  rw [s_r]; show Str.append _ _ = _; simp [Str.append]
theorem len_l : ("l" : Str).length = 1 := by decide +kernel
theorem len_r : ("r" : Str).length = 1 := by decide +kernel
theorem addD_list {xs ys : List D} (h : xs.length + ys.length ≤ 1000) : addD (.list xs) (.list ys) = some (.list (xs ++ ys)) := by simp [addD, h]
theorem addD_tup {xs ys : List D} (h : xs.length + ys.length ≤ 1000) : addD (.tuple xs) (.tuple ys) = some (.tuple (xs ++ ys)) := by simp [addD, h]
def drawn (num k : Int) : Int :=
  let d := (num + 104729 * k + 17) * 69621 % 2147483647
  (d * d + 3 * d + k) % 2147483629
theorem okMul_r (i j : Int) (h : j.natAbs < 18446744073709551616) : okMul i j = true := by simp [okMul, h]
theorem okMul_l (i j : Int) (h : i.natAbs < 18446744073709551616) : okMul i j = true := by simp [okMul, h]
def cell (xs : List Int) (k : Nat) : Int := xs.getD k 0
def mixed (xs : List Int) (k : Nat) : Int :=
  let d := (cell xs k + 7919 * k + 1) * 48271 % 2147483647
  (d * d + 7 * d + k) % 2147483629
theorem half_cases (i : Int) : i % 2 = 0 ∨ i % 2 = 1 := by omega
theorem at_three {x y z : D} {i : Int} (h : i = 0 ∨ i = 1 ∨ i = 2) : at? [x, y, z] i = some (if i = 0 then x else if i = 1 then y else z) := by
  rcases h with rfl | rfl | rfl <;> rfl
def kdOf (i : Int) : Kd := if i = 0 then .plus else if i = 1 then .less else .times
theorem at_mem {α : Type} {xs : List α} {i : Int} (h0 : 0 ≤ i) (h1 : i < xs.length) : ∃ x, x ∈ xs ∧ at? xs i = some x := by
  have h : i.toNat < xs.length := by omega
  refine ⟨xs[i.toNat], List.getElem_mem h, ?_⟩
  simp [at?, h0, h]
theorem cut_len {α : Type} (xs : List α) (lo hi : Option Int) : (cut xs lo hi).length ≤ xs.length := by
  simp only [cut, List.length_take, List.length_drop]; omega
theorem seq_of {a b : FS} {ρ ρ' : En} {r : Option Out} (h1 : a ρ = some (.nx ρ')) (h2 : b ρ' = r) : sSeq a b ρ = r := by simp [h1, h2]
theorem seq_rt {a b : FS} {ρ : En} {d : D} (h1 : a ρ = some (.rt d)) : sSeq a b ρ = some (.rt d) := by simp [h1]
theorem valid_lr {cs : List Nat} (h : ∀ x ∈ cs, x = 108 ∨ x = 114) : valid cs := fun c hc => by rcases h c hc with rfl | rfl <;> decide
theorem neD_bool (a b : Bool) : neD (.bool a) (.bool b) = some (.bool (!(a == b))) := by
  simp [neD, okEq, PyData.canLay0, PyData.eqv, PyData.depth]
theorem app_str (a b : List Nat) : (⟨a.toArray⟩ : Str) ++ (⟨b.toArray⟩ : Str) = ⟨(a ++ b).toArray⟩ := by
  show Str.append _ _ = _; simp [Str.append]
theorem addD_strs {a b : List Nat} (h : a.length + b.length ≤ 1000) : addD (strD' a) (strD' b) = some (strD' (a ++ b)) := by
  simp only [strD', addD, app_str]; rw [if_pos (by simpa [Str.length] using h)]
end FD
end
section
set_option Elab.async false
set_option linter.all false
set_option maxHeartbeats 1000000
namespace FD
open PySem
inductive Deed where
  | put (p : Int) (a : List Nat) | join (p : Int) (a : List Nat) (o s : Int) | shelve (pl pn : Int) | fetch (pn pl : Int)
  deriving DecidableEq
def Deed.toD : Deed → D
  | .put p a => .tuple [.str "put", .int p, strD' a]
  | .join p a o s => .tuple [.str "join", .int p, strD' a, .int o, .int s]
  | .shelve p q => .tuple [.str "shelve", .int p, .int q]
  | .fetch p q => .tuple [.str "fetch", .int p, .int q]
def okA (a : List Nat) : Prop := valid a ∧ a.length ≤ 200
def Deed.ok : Deed → Prop
  | .put _ a => okA a
  | .join _ a _ _ => okA a
  | _ => True
abbrev Row := List (Option (List Nat))
def osD : Option (List Nat) → D
  | none => .none
  | some a => strD' a
def okO (o : Option (List Nat)) : Prop := ∀ a, o = some a → okA a
def okR (r : Row) : Prop := ∀ o ∈ r, okO o
def held (row : Row) (k : Int) : Option (List Nat) := if 0 ≤ k ∧ k < row.length then (row[k.toNat]?).join else none
def isLeaf : Option Tr → Bool
  | some (.num _) => true
  | _ => false
def isNode : Option Tr → Bool
  | some (.node _ _ _) => true
  | _ => false
def brings (t : Tr) (row shelf : Row) : Deed → Option (List Nat)
  | .fetch _ q => held shelf q
  | .shelve _ q => held row q
  | .put _ a => if isLeaf (part t a) then some a else none
  | .join _ a o s => if isNode (part t a) ∧ held row o = some (a ++ [108]) ∧ held row s = some (a ++ [114]) then some a else none
def Deed.isSh : Deed → Bool
  | .shelve _ _ => true
  | _ => false
def Deed.at : Deed → Int
  | .put p _ => p
  | .join p _ _ _ => p
  | .shelve p _ => p
  | .fetch p _ => p
def lstep (t : Tr) (row shelf : Row) (d : Deed) : Option (Row × Row) := match brings t row shelf d with
  | none => none
  | some a => if d.isSh then (if 0 ≤ d.at ∧ d.at < shelf.length then some (row, shelf.set d.at.toNat (some a)) else none)
    else (if 0 ≤ d.at ∧ d.at < row.length then some (row.set d.at.toNat (some a), shelf) else none)
def lrun (t : Tr) : List Deed → Row → Row → Option Row
  | [], row, _ => some row
  | d :: r, row, shelf => match lstep t row shelf d with
    | none => none
    | some (row', shelf') => lrun t r row' shelf'
def runD : Option Row → D
  | none => .none
  | some row => .tuple (row.map osD)
def start0 (p : Nat) : Row := List.replicate p none
theorem okA_str {a : List Nat} (h : valid a) : PyData.strOk ⟨a.toArray⟩ = true := by
  simp only [PyData.strOk, List.all_toArray, List.all_eq_true, decide_eq_true_eq]
  exact h
theorem valid_app {a b : List Nat} (h : valid a) (h' : valid b) : valid (a ++ b) := fun c hc => (List.mem_append.mp hc).elim (h c) (h' c)
theorem str_beq (a b : List Nat) : ((⟨a.toArray⟩ : Str) == ⟨b.toArray⟩) = decide (a = b) := by
  rw [Bool.eq_iff_iff]; simp
theorem eqD_strs {a b : List Nat} (ha : valid a) (hb : valid b) : eqD (strD' a) (strD' b) = some (.bool (decide (a = b))) := by
  simp only [eqD, okEq, strD', canLay0_str, okA_str ha, okA_str hb, PyData.depth, PyData.eqv, str_beq]
  simp
theorem neD_os {o : Option (List Nat)} {b : List Nat} (ho : okO o) (hb : valid b) : neD (osD o) (strD' b) = some (.bool (!decide (o = some b))) := by
  cases o with
  | none => simp [neD, okEq, osD, strD', PyData.canLay0, okA_str hb, PyData.depth, PyData.eqv]
  | some a =>
    have ha := (ho a rfl).1
    simp only [neD, okEq, osD, strD', canLay0_str, okA_str ha, okA_str hb, PyData.depth, PyData.eqv, str_beq]
    simp
theorem held_ok {row : Row} (h : okR row) (k : Int) : okO (held row k) := fun a e => by
  unfold held at e
  split at e
  · cases hr : row[k.toNat]? with
    | none => rw [hr] at e; cases e
    | some o => rw [hr] at e; exact h o (List.mem_of_getElem? hr) a e
  · cases e
theorem brings_ok {t : Tr} {row shelf : Row} {d : Deed} (hr : okR row) (hs : okR shelf) (hd : d.ok) : okO (brings t row shelf d) := by
  cases d with
  | fetch p q => exact held_ok hs q
  | shelve p q => exact held_ok hr q
  | put p a =>
    intro b e
    simp only [brings] at e
    split at e <;> cases e
    exact hd
  | join p a o s =>
    intro b e
    simp only [brings] at e
    split at e <;> cases e
    exact hd
theorem okR_set {row : Row} {a : List Nat} (h : okR row) (ha : okA a) (k : Nat) : okR (row.set k (some a)) := fun o ho => by
  rcases List.mem_or_eq_of_mem_set ho with ho | rfl
  · exact h o ho
  · intro b e; cases e; exact ha
theorem okR_start (p : Nat) : okR (start0 p) := fun o ho => by
  rw [(List.mem_replicate.mp ho).2]; intro a e; cases e
theorem imm_os (o : Option (List Nat)) : imm (osD o) = true := by cases o <;> simp [osD, strD', imm]
theorem ixN_in {n : Nat} {k : Int} (h : 0 ≤ k ∧ k < n) : L2.ixN n k = some k.toNat := by simp [L2.ixN, h]
theorem map_set_os (row : Row) (k : Nat) (a : List Nat) : (row.map osD).set k (strD' a) = (row.set k (some a)).map osD := by
  rw [List.map_set]; rfl
end FD
end
section
set_option Elab.async false
set_option linter.all false
set_option maxHeartbeats 1000000
namespace FD
open PySem
def idxN (a : List Nat) : List (List Nat) → Nat
  | [] => 0
  | b :: r => if b = a then 0 else idxN a r + 1
theorem strsD_map : ∀ ys : List (List Nat), strsD (ys.map strD') = some (ys.map fun a => ⟨a.toArray⟩)
  | [] => rfl
  | a :: r => by simp [strsD, strD', strsD_map r]
theorem idxOf_map (a : List Nat) : ∀ ys : List (List Nat), a ∈ ys → idxOf ⟨a.toArray⟩ (ys.map fun b => ⟨b.toArray⟩) = some (idxN a ys)
  | [], h => by cases h
  | b :: r, h => by
    by_cases e : b = a
    · simp [idxOf, idxN, e]
    · have e' : ¬ ((⟨b.toArray⟩ : Str) = ⟨a.toArray⟩) := fun z => e (by simpa using z)
      have hr : a ∈ r := by
        rcases List.mem_cons.mp h with h | h
        · exact absurd h.symm e
        · exact h
      simp only [List.map_cons, idxOf, idxN, if_neg e, if_neg e', idxOf_map a r hr, Option.map_some]
theorem indexD_map {a : List Nat} {ys : List (List Nat)} (h : a ∈ ys) : indexD (.list (ys.map strD')) (strD' a) = some (.int (idxN a ys : Nat)) := by
  have : strD' a = .str ⟨a.toArray⟩ := rfl
  rw [this]
  simp only [indexD, strsD_map, Option.bind_some, idxOf_map a ys h]
def Tr.isL : Tr → Bool
  | .num _ => true
  | _ => false
def lwIn (num : Int) (every : List (List Nat)) (a : List Nat) (free : List Int) (simple : Bool) : Bool := decide ((free.length : Int) > 2 - (if simple then 1 else 0)) && decide (drawn num (idxN a every : Nat) / 2 % 4 > 0)
def mkJoin (lf : Bool) (p : Int) (a : List Nat) (x y : Int) : Deed := if lf then .join p a x y else .join p a y x
/-- the second part's work, the shelving, the join -/
def lwRest (num : Int) (every : List (List Nat)) (a : List Nat) (free : List Int) (lf simple : Bool) (c1 : List Deed) (w : List Int → List Deed) : List Deed :=
  if lwIn num every a free simple then c1 ++ w (free.drop 1) ++ [mkJoin lf (free.getD 0 0) a (free.getD 0 0) (free.getD 1 0)]
  else c1 ++ [.shelve (((idxN a every : Nat) + num / 4096) % 41) (free.getD 0 0)] ++ w free ++ [.fetch (free.getD 1 0) (((idxN a every : Nat) + num / 4096) % 41)] ++ [mkJoin lf (free.getD 0 0) a (free.getD 1 0) (free.getD 0 0)]
def lwork (num : Int) (every : List (List Nat)) : Tr → List Nat → List Int → List Deed
  | .num _, a, free => [.put (free.getD 0 0) a]
  | .node _ l r, a, free =>
    if drawn num (idxN a every : Nat) % 2 = 0 then lwRest num every a free true r.isL (lwork num every l (a ++ [108]) free) (lwork num every r (a ++ [114]))
    else lwRest num every a free false l.isL (lwork num every r (a ++ [114]) free) (lwork num every l (a ++ [108]))
theorem lwRest_len {num : Int} {every : List (List Nat)} {a : List Nat} {free : List Int} {lf simple : Bool} {c1 : List Deed} {w : List Int → List Deed} {n m : Nat} (h1 : c1.length ≤ n) (h2 : ∀ f, (w f).length ≤ m) : (lwRest num every a free lf simple c1 w).length ≤ n + m + 3 := by
  simp only [lwRest]
  have := h2 free
  have := h2 (free.drop 1)
  split <;> simp only [List.length_append, List.length_cons, List.length_nil] <;> omega
theorem lwork_len (num : Int) (every : List (List Nat)) : ∀ (u : Tr) (a : List Nat) (free : List Int), (lwork num every u a free).length + 3 ≤ 4 * u.leaves
  | .num _, a, free => by simp [lwork, Tr.leaves]
  | .node _ l r, a, free => by
    have l1 := lwork_len num every l (a ++ [108])
    have r1 := lwork_len num every r (a ++ [114])
    have pl := l.leaves_pos
    have pr := r.leaves_pos
    simp only [lwork, Tr.leaves]
    split
    · have := lwRest_len (num := num) (every := every) (a := a) (free := free) (lf := true) (simple := r.isL) (c1 := lwork num every l (a ++ [108]) free) (w := lwork num every r (a ++ [114])) (n := 4 * l.leaves - 3) (m := 4 * r.leaves - 3) (by have := l1 free; omega) (fun f => by have := r1 f; omega)
      omega
    · have := lwRest_len (num := num) (every := every) (a := a) (free := free) (lf := false) (simple := l.isL) (c1 := lwork num every r (a ++ [114]) free) (w := lwork num every l (a ++ [108])) (n := 4 * r.leaves - 3) (m := 4 * l.leaves - 3) (by have := r1 free; omega) (fun f => by have := l1 f; omega)
      omega
end FD
end
section
set_option Elab.async false
set_option linter.all false
set_option maxHeartbeats 1000000
namespace FD
open PySem
theorem addrs_all : ∀ (t : Tr) (b : List Nat) (c : Tr) (a : List Nat), part t b = some c → a ++ b ∈ addrs t a
  | t, [], c, a, h => by cases t <;> simp [addrs]
  | .num _, _ :: _, c, a, h => by simp [part] at h
  | .node k l r, x :: b, c, a, h => by
    simp only [part] at h
    simp only [addrs, List.mem_cons, List.mem_append]
    split at h
    · rename_i hx; subst hx
      have := addrs_all l b c (a ++ [108]) h
      right; left; simpa using this
    · split at h
      · rename_i _ hx; subst hx
        have := addrs_all r b c (a ++ [114]) h
        right; right; simpa using this
      · cases h
theorem addrs_mem {t : Tr} {b : List Nat} (h : b ∈ addrs t []) : ∃ u, part t b = some u ∧ u.leaves ≤ t.leaves ∧ b.length + u.dep ≤ t.dep ∧ valid b := by
  obtain ⟨c, rfl, h1, h2, h3⟩ := addrs_form t [] b h
  obtain ⟨u, hu⟩ := Option.isSome_iff_exists.mp h3
  have key : ∀ (t : Tr) (c : List Nat) (u : Tr), part t c = some u → u.leaves ≤ t.leaves ∧ c.length + u.dep ≤ t.dep := by
    intro t c
    induction c generalizing t with
    | nil => intro u h; simp only [part, Option.some.injEq] at h; subst h; simp
    | cons x r ih =>
      intro u h
      cases t with
      | num i => simp [part] at h
      | node k l r' =>
        simp only [part] at h
        have lp := l.leaves_pos
        have rp := r'.leaves_pos
        simp only [Tr.leaves, Tr.dep, List.length_cons]
        split at h
        · obtain ⟨q1, q2⟩ := ih l u h; omega
        · split at h
          · obtain ⟨q1, q2⟩ := ih r' u h; omega
          · cases h
  exact ⟨u, hu, (key t _ u hu).1, (key t _ u hu).2, valid_lr h2⟩
def freeOf (p : Nat) : List Int := (List.range p).map fun i => (i : Nat)
theorem rng_free (p : Nat) : rng p = (freeOf p).map .int := by simp [freeOf]
def sub (t : Tr) (a : List Nat) : Tr := (part t a).getD t
def lcode (t : Tr) (num : Int) (p : Nat) : List Deed :=
  (if num % 3 = 1 then
    let b := ((addrs t [])[(num / 3 % (addrs t []).length).toNat]?).getD []
    lwork (num / 64) (addrs t []) (sub t b) b (freeOf p) else []) ++ lwork num (addrs t []) t [] (freeOf p)
theorem cut_take {α : Type} (xs : List α) {k : Int} (h : 0 ≤ k) : cut xs none (some k) = xs.take k.toNat := by
  simp only [cut, clip, List.drop_zero, Nat.sub_zero]
  rw [if_neg (by omega)]
  by_cases c : k.toNat ≤ xs.length
  · rw [Nat.min_eq_left c]
  · rw [Nat.min_eq_right (by omega), List.take_length, List.take_of_length_le (by omega)]
theorem cut_drop {α : Type} (xs : List α) {k : Int} (h : 0 ≤ k) : cut xs (some k) none = xs.drop k.toNat := by
  simp only [cut, clip]
  rw [if_neg (by omega)]
  by_cases c : k.toNat ≤ xs.length
  · rw [Nat.min_eq_left c, List.take_of_length_le (by simp)]
  · rw [Nat.min_eq_right (by omega)]
    simp
    omega
/-- a deed whose address is at most so long -/
def Deed.okN (k : Nat) : Deed → Prop
  | .put _ a => valid a ∧ a.length ≤ k
  | .join _ a _ _ => valid a ∧ a.length ≤ k
  | _ => True
theorem Deed.okN_mono {j k : Nat} (h : j ≤ k) {d : Deed} (hd : d.okN j) : d.okN k := by
  cases d with
  | put p a => exact ⟨hd.1, Nat.le_trans hd.2 h⟩
  | join p a o s => exact ⟨hd.1, Nat.le_trans hd.2 h⟩
  | _ => trivial
theorem Deed.okN_ok {k : Nat} (h : k ≤ 200) {d : Deed} (hd : d.okN k) : d.ok := by
  cases d with
  | put p a => exact ⟨hd.1, Nat.le_trans hd.2 h⟩
  | join p a o s => exact ⟨hd.1, Nat.le_trans hd.2 h⟩
  | _ => trivial
theorem lwRest_okN {k : Nat} {num : Int} {every : List (List Nat)} {a : List Nat} {free : List Int} {lf simple : Bool} {c1 : List Deed} {w : List Int → List Deed} (ha : valid a ∧ a.length ≤ k) (h1 : ∀ d ∈ c1, d.okN k) (h2 : ∀ f, ∀ d ∈ w f, d.okN k) : ∀ d ∈ lwRest num every a free lf simple c1 w, d.okN k := by
  intro d hd
  have hj : ∀ x y z, (mkJoin lf x a y z).okN k := fun x y z => by cases lf <;> exact ha
  simp only [lwRest] at hd
  split at hd
  · simp only [List.mem_append, List.mem_singleton] at hd
    rcases hd with (hd | hd) | hd
    · exact h1 d hd
    · exact h2 _ d hd
    · subst hd; exact hj _ _ _
  · simp only [List.mem_append, List.mem_singleton] at hd
    rcases hd with (((hd | hd) | hd) | hd) | hd
    · exact h1 d hd
    · subst hd; trivial
    · exact h2 _ d hd
    · subst hd; trivial
    · subst hd; exact hj _ _ _
theorem lwork_okN (num : Int) (every : List (List Nat)) (k : Nat) : ∀ (u : Tr) (a : List Nat) (free : List Int), valid a → a.length + u.dep ≤ k → ∀ d ∈ lwork num every u a free, d.okN k
  | .num _, a, free, ha, hl => by
    intro d hd
    simp only [lwork, List.mem_singleton] at hd
    subst hd
    exact ⟨ha, by simp [Tr.dep] at hl; omega⟩
  | .node _ l r, a, free, ha, hl => by
    simp only [Tr.dep] at hl
    have vl : valid (a ++ [108]) := valid_app ha (fun x hx => by simp at hx; omega)
    have vr : valid (a ++ [114]) := valid_app ha (fun x hx => by simp at hx; omega)
    have hl1 : (a ++ [108]).length + l.dep ≤ k := by simp; omega
    have hr1 : (a ++ [114]).length + r.dep ≤ k := by simp; omega
    simp only [lwork]
    split
    · exact lwRest_okN ⟨ha, by omega⟩ (lwork_okN num every k l _ free vl hl1) (fun f => lwork_okN num every k r _ f vr hr1)
    · exact lwRest_okN ⟨ha, by omega⟩ (lwork_okN num every k r _ free vr hr1) (fun f => lwork_okN num every k l _ f vl hl1)
theorem sub_of {t u : Tr} {b : List Nat} (h : part t b = some u) : sub t b = u := by simp [sub, h]
theorem drawn_at {t : Tr} (num : Int) : ∃ b, ((addrs t [])[(num / 3 % (addrs t []).length).toNat]?) = some b ∧ b ∈ addrs t [] := by
  have hl : 0 < (addrs t []).length := by have := addrs_len t []; have := t.leaves_pos; omega
  have h1 := Int.emod_nonneg (num / 3) (b := ((addrs t []).length : Int)) (by omega)
  have h2 := Int.emod_lt_of_pos (num / 3) (b := ((addrs t []).length : Int)) (by omega)
  have h3 : (num / 3 % (addrs t []).length).toNat < (addrs t []).length := by omega
  exact ⟨(addrs t [])[(num / 3 % (addrs t []).length).toNat], by simp [h3], List.getElem_mem h3⟩
theorem lcode_ok (t : Tr) (num : Int) (p : Nat) : (∀ d ∈ lcode t num p, d.okN t.dep) ∧ (lcode t num p).length ≤ 8 * t.leaves ∧ lcode t num p ≠ [] := by
  have l2 := lwork_len num (addrs t []) t [] (freeOf p)
  obtain ⟨b, hb, hm⟩ := drawn_at (t := t) num
  obtain ⟨u, hu, h1, h2, h3⟩ := addrs_mem hm
  have l1 := lwork_len (num / 64) (addrs t []) u b (freeOf p)
  have o1 := lwork_okN (num / 64) (addrs t []) t.dep u b (freeOf p) h3 h2
  have o2 := lwork_okN num (addrs t []) t.dep t [] (freeOf p) (fun c hc => nomatch hc) (by simp)
  have ne : lwork num (addrs t []) t [] (freeOf p) ≠ [] := by
    cases t with
    | num i => simp [lwork]
    | node k l r =>
      simp only [lwork]
      split <;> (simp only [lwRest]; split <;> simp)
  refine ⟨fun d hd => ?_, ?_, ?_⟩
  · simp only [lcode, List.mem_append] at hd
    rcases hd with hd | hd
    · split at hd
      · simp only [hb, Option.getD_some, sub_of hu] at hd
        exact o1 d hd
      · cases hd
    · exact o2 d hd
  · simp only [lcode, List.length_append]
    split
    · simp only [hb, Option.getD_some, sub_of hu]; omega
    · simp; omega
  · simp only [lcode]
    intro z
    exact ne (List.append_eq_nil_iff.mp z).2
end FD
end
section
set_option Elab.async false
set_option linter.all false
set_option maxHeartbeats 1000000
namespace FD
open PySem
theorem lrun_okR {t : Tr} : ∀ (C : List Deed) (row shelf row' : Row), (∀ d ∈ C, d.ok) → okR row → okR shelf → lrun t C row shelf = some row' → okR row' ∧ row'.length = row.length
  | [], row, shelf, row', _, h1, _, e => by simp only [lrun, Option.some.injEq] at e; subst e; exact ⟨h1, rfl⟩
  | d :: C, row, shelf, row', hd, h1, h2, e => by
    simp only [lrun] at e
    cases hs : lstep t row shelf d with
    | none => rw [hs] at e; cases e
    | some p =>
      rw [hs] at e
      have hb := brings_ok (t := t) h1 h2 (hd d (by simp))
      unfold lstep at hs
      cases hbr : brings t row shelf d with
      | none => rw [hbr] at hs; cases hs
      | some a =>
        rw [hbr] at hs hb
        have ha := hb a rfl
        simp only at hs
        have ih := lrun_okR (t := t) C p.1 p.2 row' (fun x hx => hd x (by simp [hx]))
        split at hs
        · split at hs <;> cases hs
          exact ih h1 (okR_set h2 ha _) e
        · split at hs <;> cases hs
          obtain ⟨i1, i2⟩ := ih (okR_set h1 ha _) h2 e
          exact ⟨i1, by rw [i2]; simp⟩
end FD
end
section
set_option Elab.async false
set_option linter.all false
set_option maxHeartbeats 1000000
namespace FD
open PySem
end FD
end
section
set_option Elab.async false
set_option linter.all false
set_option maxHeartbeats 1000000
namespace FD
open PySem
def place (num : Int) (every : List (List Nat)) (b : List Nat) : Int := ((idxN b every : Nat) + num / 4096) % 41
theorem part_child {t : Tr} {a : List Nat} {k : Kd} {l r : Tr} (h : part t a = some (.node k l r)) : part t (a ++ [108]) = some l ∧ part t (a ++ [114]) = some r := by
  induction a generalizing t with
  | nil =>
    have : t = .node k l r := by cases t <;> simpa [part] using h
    subst this
    simp [part]
  | cons c cs ih =>
    cases t with
    | num i => simp [part] at h
    | node k' l' r' =>
      simp only [part, List.cons_append] at h ⊢
      split at h
      · rename_i hc; simp only [hc, if_true]; exact ih h
      · split at h
        · rename_i h1 h2; simp only [h1, h2, if_true, if_false]; exact ih h
        · cases h
end FD
end
section
set_option Elab.async false
set_option linter.all false
set_option maxHeartbeats 1000000
namespace FD
open PySem
theorem w_put : PyData.strOk "put" = true := by decide +kernel
theorem w_join : PyData.strOk "join" = true := by decide +kernel
theorem w_shelve : PyData.strOk "shelve" = true := by decide +kernel
theorem w_fetch : PyData.strOk "fetch" = true := by decide +kernel
def Deed.word : Deed → Str
  | .put _ _ => "put"
  | .join _ _ _ _ => "join"
  | .shelve _ _ => "shelve"
  | .fetch _ _ => "fetch"
theorem word_ok (d : Deed) : PyData.strOk d.word = true := by cases d <;> simp only [Deed.word] <;> decide +kernel
theorem eqD_w {a b : Str} (ha : PyData.strOk a = true) (hb : PyData.strOk b = true) : eqD (.str a) (.str b) = some (.bool (a == b)) := by
  simp [eqD, okEq, canLay0_str, ha, hb, PyData.depth, PyData.eqv]
theorem eqD_fetch (d : Deed) : eqD (.str d.word) (.str "fetch") = some (.bool (match d with | .fetch _ _ => true | _ => false)) := by
  rw [eqD_w (word_ok d) w_fetch]; cases d <;> simp only [Deed.word] <;> congr 2 <;> decide +kernel
theorem eqD_shelve (d : Deed) : eqD (.str d.word) (.str "shelve") = some (.bool d.isSh) := by
  rw [eqD_w (word_ok d) w_shelve]; cases d <;> simp only [Deed.word, Deed.isSh] <;> congr 2 <;> decide +kernel
theorem eqD_put (d : Deed) : eqD (.str d.word) (.str "put") = some (.bool (match d with | .put _ _ => true | _ => false)) := by
  rw [eqD_w (word_ok d) w_put]; cases d <;> simp only [Deed.word] <;> congr 2 <;> decide +kernel
theorem eqD_join (d : Deed) : eqD (.str d.word) (.str "join") = some (.bool (match d with | .join _ _ _ _ => true | _ => false)) := by
  rw [eqD_w (word_ok d) w_join]; cases d <;> simp only [Deed.word] <;> congr 2 <;> decide +kernel
theorem eqD_put_fetch : eqD (.str "put") (.str "fetch") = some (.bool false) := eqD_fetch (.put 0 [])
theorem eqD_join_fetch : eqD (.str "join") (.str "fetch") = some (.bool false) := eqD_fetch (.join 0 [] 0 0)
theorem eqD_shelve_fetch : eqD (.str "shelve") (.str "fetch") = some (.bool false) := eqD_fetch (.shelve 0 0)
theorem eqD_fetch_fetch : eqD (.str "fetch") (.str "fetch") = some (.bool true) := eqD_fetch (.fetch 0 0)
theorem eqD_put_shelve : eqD (.str "put") (.str "shelve") = some (.bool false) := eqD_shelve (.put 0 [])
theorem eqD_join_shelve : eqD (.str "join") (.str "shelve") = some (.bool false) := eqD_shelve (.join 0 [] 0 0)
theorem eqD_shelve_shelve : eqD (.str "shelve") (.str "shelve") = some (.bool true) := eqD_shelve (.shelve 0 0)
theorem eqD_fetch_shelve : eqD (.str "fetch") (.str "shelve") = some (.bool false) := eqD_shelve (.fetch 0 0)
theorem eqD_put_put : eqD (.str "put") (.str "put") = some (.bool true) := eqD_put (.put 0 [])
theorem eqD_join_put : eqD (.str "join") (.str "put") = some (.bool false) := eqD_put (.join 0 [] 0 0)
theorem eqD_put_join : eqD (.str "put") (.str "join") = some (.bool false) := eqD_join (.put 0 [])
theorem eqD_join_join : eqD (.str "join") (.str "join") = some (.bool true) := eqD_join (.join 0 [] 0 0)
theorem addD_l {a : List Nat} (h : a.length ≤ 900) : addD (strD' a) (.str "l") = some (strD' (a ++ [108])) := by
  rw [s_l]; exact addD_strs (a := a) (b := [108]) (by simp; omega)
theorem addD_r {a : List Nat} (h : a.length ≤ 900) : addD (strD' a) (.str "r") = some (strD' (a ++ [114])) := by
  rw [s_r]; exact addD_strs (a := a) (b := [114]) (by simp; omega)
@[simp] theorem at_3 {α : Type} (x y z u : α) (xs : List α) : at? (x :: y :: z :: u :: xs) 3 = some u := rfl
@[simp] theorem at_4 {α : Type} (x y z u v : α) (xs : List α) : at? (x :: y :: z :: u :: v :: xs) 4 = some v := rfl
theorem deed_0 (d : Deed) : ∃ rest, d.toD = .tuple (.str d.word :: .int d.at :: rest) := by cases d <;> exact ⟨_, rfl⟩
theorem lstep_ok {t : Tr} {row shelf row' shelf' : Row} {d : Deed} (hd : d.ok) (hr : okR row) (hs : okR shelf) (e : lstep t row shelf d = some (row', shelf')) : okR row' ∧ okR shelf' ∧ row'.length = row.length ∧ shelf'.length = shelf.length := by
  have hb := brings_ok (t := t) hr hs hd
  unfold lstep at e
  cases hbr : brings t row shelf d with
  | none => rw [hbr] at e; cases e
  | some a =>
    rw [hbr] at e hb
    have ha := hb a rfl
    simp only at e
    split at e
    · split at e <;> cases e
      exact ⟨hr, okR_set hs ha _, rfl, by simp⟩
    · split at e <;> cases e
      exact ⟨okR_set hr ha _, hs, by simp, rfl⟩
theorem flat_none (p : Nat) : (List.replicate p [PyData.none]).flatten = (start0 p).map osD := by
  induction p with
  | zero => rfl
  | succ p ih => simp only [List.replicate_succ, List.flatten_cons, ih, start0, List.map_cons]; rfl
theorem imm_start (p : Nat) : immAll ((start0 p).map osD) = true := by
  induction p with
  | zero => rfl
  | succ p ih => simpa [start0, List.replicate_succ, immAll, osD, imm] using ih
theorem part_app : ∀ (t : Tr) (a : List Nat) (k : Kd) (l r : Tr), part t a = some (.node k l r) → part t (a ++ [108]) = some l ∧ part t (a ++ [114]) = some r
  | t, [], k, l, r, h => by
    simp only [part, Option.some.injEq] at h
    subst h
    simp [part]
  | .num _, _ :: _, k, l, r, h => by simp [part] at h
  | .node k' l' r', c :: cs, k, l, r, h => by
    simp only [part, List.cons_append] at h ⊢
    split at h
    · rename_i hc; simp only [hc, if_true]; exact part_app l' cs k l r h
    · split at h
      · rename_i h1 h2; simp only [h1, h2, if_true, if_false]; exact part_app r' cs k l r h
      · cases h
theorem isL_eq (u : Tr) : ((ixD u.toD (.int 0)).bind fun x => eqD x (.str "number")) = some (.bool u.isL) := by
  cases u <;> simp [Tr.toD, Tr.isL]
theorem eqD_rr : eqD (.str "r") (.str "r") = some (.bool true) := by
  rw [s_r]; exact eqD_strs (a := [114]) (b := [114]) (fun c hc => by simp at hc; omega) (fun c hc => by simp at hc; omega)
theorem eqD_lr : eqD (.str "l") (.str "r") = some (.bool false) := by
  rw [s_r, s_l]; exact eqD_strs (a := [108]) (b := [114]) (fun c hc => by simp at hc; omega) (fun c hc => by simp at hc; omega)
theorem drop1_cut (free : List Int) : cut (free.map PyData.int) (some 1) none = (free.drop 1).map .int := by
  cases free with
  | nil => rfl
  | cons x r => simp [cut1]
theorem getD_at0 {free : List Int} (h : 1 ≤ free.length) : at? (free.map PyData.int) 0 = some (.int (free.getD 0 0)) := by
  cases free with
  | nil => simp at h
  | cons x r => rfl
theorem getD_at1 {free : List Int} (h : 2 ≤ free.length) : at? (free.map PyData.int) 1 = some (.int (free.getD 1 0)) := by
  match free, h with
  | x :: y :: r, _ => rfl
def okFr (u : Tr) (free : List Int) : Prop := 1 ≤ free.length ∧ (u.isL = false → 2 ≤ free.length)
theorem addD_int (i j : Int) : addD (.int i) (.int j) = some (.int (i + j)) := rfl
theorem body_of {n np : Nat} {s : FS} {ds : List D} {d : D} {ρ : En} (hl : ds.length = np) (e : start n ds = ρ) (h : s ρ = some (.rt d)) : bodyF n np s ds = some d := by
  simp only [bodyF, hl, if_true, e, h]; rfl
theorem map_cut_take (C : List Deed) {k : Int} (h : 0 ≤ k) : cut (C.map Deed.toD) none (some k) = (C.take k.toNat).map Deed.toD := by rw [cut_take _ h, List.map_take]
theorem map_cut_drop (C : List Deed) {k : Int} (h : 0 ≤ k) : cut (C.map Deed.toD) (some k) none = (C.drop k.toNat).map Deed.toD := by rw [cut_drop _ h, List.map_drop]
theorem cut_one {α : Type} (xs : List α) {k : Int} (h : 0 ≤ k) : cut xs (some (k + 1)) (some (k + 2)) = (xs.drop (k.toNat + 1)).take 1 := by
  simp only [cut, clip]
  rw [if_neg (by omega), if_neg (by omega)]
  have e1 : (k + 1).toNat = k.toNat + 1 := by omega
  have e2 : (k + 2).toNat = k.toNat + 2 := by omega
  rw [e1, e2]
  by_cases c : k.toNat + 2 ≤ xs.length
  · rw [Nat.min_eq_left c, Nat.min_eq_left (by omega)]
    congr 1; omega
  · by_cases c' : k.toNat + 1 ≤ xs.length
    · have : xs.length = k.toNat + 1 := by omega
      rw [Nat.min_eq_left c', Nat.min_eq_right (by omega), List.drop_eq_nil_of_le (by omega)]; simp
    · rw [Nat.min_eq_right (by omega), Nat.min_eq_right (by omega)]
      rw [List.drop_eq_nil_of_le (by omega), List.drop_eq_nil_of_le (by omega)]; simp
theorem map_cut_one (C : List Deed) {k : Int} (h : 0 ≤ k) : cut (C.map Deed.toD) (some (k + 1)) (some (k + 2)) = ((C.drop (k.toNat + 1)).take 1).map Deed.toD := by rw [cut_one _ h, List.map_take, List.map_drop]
/-- a number in the place of a number, a text in the place of a text -/
theorem new_deed (d : Deed) (K : Nat) (hd : d.okN K) (hK : K ≤ 150) (i x : Int) (hi : 1 ≤ i) (hi' : i < (match d.toD with | .tuple xs => xs.length | _ => 0)) :
    (∃ z, ixD d.toD (.int i) = some (.int z) ∧ ∃ d' : Deed, d'.okN (K + 1) ∧ ∀ xs, d.toD = .tuple xs → .tuple (cut xs none (some i) ++ [.int x] ++ cut xs (some (i + 1)) none) = d'.toD) ∨
    (∃ a, ixD d.toD (.int i) = some (strD' a) ∧ valid a ∧ a.length ≤ K ∧ ∀ b, valid b → b.length ≤ K + 1 → ∃ d' : Deed, d'.okN (K + 1) ∧ ∀ xs, d.toD = .tuple xs → .tuple (cut xs none (some i) ++ [strD' b] ++ cut xs (some (i + 1)) none) = d'.toD) := by
  have up : ∀ {a : List Nat}, valid a ∧ a.length ≤ K → valid a ∧ a.length ≤ K + 1 := fun h => ⟨h.1, by omega⟩
  cases d with
  | put p a =>
    simp only [Deed.toD, List.length_cons, List.length_nil] at hi'
    rcases (by omega : i = 1 ∨ i = 2) with rfl | rfl
    · exact .inl ⟨p, rfl, .put x a, up hd, fun xs e => by cases e; rfl⟩
    · exact .inr ⟨a, rfl, hd.1, hd.2, fun b h1 h2 => ⟨.put p b, ⟨h1, h2⟩, fun xs e => by cases e; rfl⟩⟩
  | join p a o s =>
    simp only [Deed.toD, List.length_cons, List.length_nil] at hi'
    rcases (by omega : i = 1 ∨ i = 2 ∨ i = 3 ∨ i = 4) with rfl | rfl | rfl | rfl
    · exact .inl ⟨p, rfl, .join x a o s, up hd, fun xs e => by cases e; rfl⟩
    · exact .inr ⟨a, rfl, hd.1, hd.2, fun b h1 h2 => ⟨.join p b o s, ⟨h1, h2⟩, fun xs e => by cases e; rfl⟩⟩
    · exact .inl ⟨o, rfl, .join p a x s, up hd, fun xs e => by cases e; rfl⟩
    · exact .inl ⟨s, rfl, .join p a o x, up hd, fun xs e => by cases e; rfl⟩
  | shelve p q =>
    simp only [Deed.toD, List.length_cons, List.length_nil] at hi'
    rcases (by omega : i = 1 ∨ i = 2) with rfl | rfl
    · exact .inl ⟨p, rfl, .shelve x q, trivial, fun xs e => by cases e; rfl⟩
    · exact .inl ⟨q, rfl, .shelve p x, trivial, fun xs e => by cases e; rfl⟩
  | fetch p q =>
    simp only [Deed.toD, List.length_cons, List.length_nil] at hi'
    rcases (by omega : i = 1 ∨ i = 2) with rfl | rfl
    · exact .inl ⟨p, rfl, .fetch x q, trivial, fun xs e => by cases e; rfl⟩
    · exact .inl ⟨q, rfl, .fetch p x, trivial, fun xs e => by cases e; rfl⟩
theorem str_cut {a : List Nat} (h : a.length ≤ 900) : sliceD (strD' a) none (some (-1)) = some (strD' a.dropLast) := by
  have e : cut a none (some (-1)) = a.dropLast := by
    simp only [cut, clip, List.drop_zero, Nat.sub_zero]
    rw [if_pos (by decide), List.dropLast_eq_take]
    congr 1; omega
  have : strD' a = .str ⟨a.toArray⟩ := rfl
  rw [this]
  simp only [sliceD, Str.length, List.size_toArray]
  rw [if_pos (by omega)]
  simp only [e, strD']
theorem take_drop_mem {C : List Deed} {j k : Nat} {d : Deed} (h : d ∈ C.take j ++ C.drop k) : d ∈ C := by
  rcases List.mem_append.mp h with h | h
  · exact List.mem_of_mem_take h
  · exact List.mem_of_mem_drop h
theorem deed_tup (d : Deed) : ∃ xs, d.toD = .tuple xs ∧ 3 ≤ xs.length ∧ xs.length ≤ 5 := by cases d <;> exact ⟨_, rfl, by simp, by simp⟩
end FD
end
section
set_option Elab.async false
set_option linter.all false
set_option maxHeartbeats 1000000
namespace FD
open PySem
end FD
end
section
set_option Elab.async false
set_option linter.all false
set_option maxHeartbeats 1000000
namespace FD
open PySem
inductive FTr where
  | leaf (a : List Nat) | node (a : List Nat) (l r : FTr)
def FTr.toD : FTr → D
  | .leaf a => .tuple [strD' a]
  | .node a l r => .tuple [strD' a, l.toD, r.toD]
/-- all numbers of the deed lie within 0 .. 40 -/
def Deed.num : Deed → Prop
  | .put p _ => 0 ≤ p ∧ p ≤ 40
  | .join p _ o s => (0 ≤ p ∧ p ≤ 40) ∧ (0 ≤ o ∧ o ≤ 40) ∧ (0 ≤ s ∧ s ≤ 40)
  | .shelve p q => (0 ≤ p ∧ p ≤ 40) ∧ (0 ≤ q ∧ q ≤ 40)
  | .fetch p q => (0 ≤ p ∧ p ≤ 40) ∧ (0 ≤ q ∧ q ≤ 40)
end FD
end
section
set_option Elab.async false
set_option linter.all false
set_option maxHeartbeats 1000000
namespace FD
open PySem
def numD (t : Tr) : Option (List Nat) → D
  | none => .none
  | some a => match part t a with
    | some u => .int u.worth
    | none => .none
theorem mseq_of {a b : FM} {m m' : MSt} {r : Option MOut} (h1 : a m = some (.nx m')) (h2 : b m' = r) : mSeq a b m = r := by simp only [mSeq, h1, Option.bind_some, h2]
theorem mseq_rt {a b : FM} {m : MSt} {d : D} (h1 : a m = some (.rt d)) : mSeq a b m = some (.rt d) := by simp only [mSeq, h1, Option.bind_some]
theorem mif_t {t : FT} {a b : FM} {m : MSt} (h : t m.ρ = some true) : mIf t a b m = a m := by simp only [mIf, h, Option.bind_some, if_true]
theorem mif_f {t : FT} {a b : FM} {m : MSt} (h : t m.ρ = some false) : mIf t a b m = b m := by simp only [mIf, h, Option.bind_some, Bool.false_eq_true, if_false]
end FD
end
section
set_option Elab.async false
set_option linter.all false
set_option maxHeartbeats 1000000
namespace FD
open PySem
theorem part_sub : ∀ (t : Tr) (a : List Nat) (u : Tr), part t a = some u → u.leaves ≤ t.leaves ∧ u.dep ≤ t.dep ∧ (t.ok → u.ok)
  | t, [], u, h => by
    have : t = u := by cases t <;> simpa [part] using h
    subst this; exact ⟨Nat.le_refl _, Nat.le_refl _, id⟩
  | .num _, _ :: _, u, h => by simp [part] at h
  | .node k l r, c :: cs, u, h => by
    have lp := l.leaves_pos
    have rp := r.leaves_pos
    simp only [part] at h
    simp only [Tr.leaves, Tr.dep, Tr.ok]
    split at h
    · obtain ⟨h1, h2, h3⟩ := part_sub l cs u h
      exact ⟨by omega, by omega, fun z => h3 z.1⟩
    · split at h
      · obtain ⟨h1, h2, h3⟩ := part_sub r cs u h
        exact ⟨by omega, by omega, fun z => h3 z.2⟩
      · cases h
def partsIn (t : Tr) (r : Row) : Prop := ∀ a, some a ∈ r → (part t a).isSome = true
theorem parts_held {t : Tr} {r : Row} (h : partsIn t r) {k : Int} {a : List Nat} (e : held r k = some a) : (part t a).isSome = true := by
  unfold held at e
  split at e
  · cases hr : r[k.toNat]? with
    | none => rw [hr] at e; cases e
    | some o =>
      rw [hr] at e
      have : o = some a := e
      subst this
      exact h a (List.mem_of_getElem? hr)
  · cases e
theorem parts_set {t : Tr} {r : Row} {a : List Nat} (h : partsIn t r) (ha : (part t a).isSome = true) (k : Nat) : partsIn t (r.set k (some a)) := fun b hb => by
  rcases List.mem_or_eq_of_mem_set hb with hb | hb
  · exact h b hb
  · cases hb; exact ha
theorem lrun_parts (t : Tr) : ∀ (C : List Deed) (row shelf row' : Row), partsIn t row → partsIn t shelf → lrun t C row shelf = some row' → partsIn t row'
  | [], row, shelf, row', h1, _, e => by simp only [lrun, Option.some.injEq] at e; subst e; exact h1
  | d :: C, row, shelf, row', h1, h2, e => by
    simp only [lrun] at e
    cases hs : lstep t row shelf d with
    | none => rw [hs] at e; cases e
    | some p =>
      rw [hs] at e
      unfold lstep at hs
      cases hbr : brings t row shelf d with
      | none => rw [hbr] at hs; cases hs
      | some a =>
        have ha : (part t a).isSome = true := by
          cases d with
          | fetch p q => exact parts_held h2 hbr
          | shelve p q => exact parts_held h1 hbr
          | put p b =>
            simp only [brings] at hbr
            split at hbr
            · rename_i hc; cases hbr
              cases hp : part t a with
              | none => rw [hp] at hc; cases hc
              | some u => rfl
            · cases hbr
          | join p b o s =>
            simp only [brings] at hbr
            split at hbr
            · rename_i hc; cases hbr
              cases hp : part t a with
              | none => rw [hp] at hc; cases hc.1
              | some u => rfl
            · cases hbr
        rw [hbr] at hs
        simp only at hs
        split at hs
        · split at hs <;> cases hs
          exact lrun_parts t C row _ row' h1 (parts_set h2 ha _) e
        · split at hs <;> cases hs
          exact lrun_parts t C _ shelf row' (parts_set h1 ha _) h2 e
theorem parts_start (t : Tr) (p : Nat) : partsIn t (start0 p) := fun a ha => by
  have := (List.mem_replicate.mp ha).2; cases this
end FD
end
section
set_option Elab.async false
set_option linter.all false
set_option maxHeartbeats 1000000
namespace FD
open PySem
end FD
end
section
set_option Elab.async false
set_option linter.all false
set_option maxRecDepth 100000
set_option maxHeartbeats 4000000
namespace FD
open PySem
def c_PLACES : D := (.int 41)
def f_joined_worth : FS :=
  (sSeq (sIf (tVal (eBin eqD (eVar 0) (eC (.str "plus")))) (sRet (eBin addD (eVar 1) (eVar 2))) sNil) (sSeq (sIf (tVal (eBin eqD (eVar 0) (eC (.str "less")))) (sRet (eBin subD (eVar 1) (eVar 2))) sNil) (sRet (eBin mulD (eVar 1) (eVar 2)))))
def F_joined_worth : Nat → List D → Option D
  | 0, _ => none
  | n + 1, ds => bodyF 3 3 (f_joined_worth ) ds
theorem e_joined_worth (n : Nat) (ds : List D) : F_joined_worth (n + 1) ds = bodyF 3 3 (f_joined_worth ) ds := rfl
def f_part_at : FS :=
  (sSeq (sSet 2 (eVar 0)) (sSeq (sForStr 3 (eVar 1) (sSeq (sIf (tVal (eBin eqD (eBin ixD (eVar 2) (eC (.int 0))) (eC (.str "number")))) (sRet (eC .none)) sNil) (sIf (tVal (eBin eqD (eVar 3) (eC (.str "l")))) (sSet 2 (eBin ixD (eVar 2) (eC (.int 1)))) (sIf (tVal (eBin eqD (eVar 3) (eC (.str "r")))) (sSet 2 (eBin ixD (eVar 2) (eC (.int 2)))) (sRet (eC .none)))))) (sRet (eVar 2))))
def F_part_at : Nat → List D → Option D
  | 0, _ => none
  | n + 1, ds => bodyF 4 2 (f_part_at ) ds
theorem e_part_at (n : Nat) (ds : List D) : F_part_at (n + 1) ds = bodyF 4 2 (f_part_at ) ds := rfl
def f_is_there : FS :=
  (sRet (eAnd (eBin geD (eVar 1) (eC (.int 0))) (eBin ltD (eVar 1) (eCall lenD (aCons (eVar 0) aNil)))))
def F_is_there : Nat → List D → Option D
  | 0, _ => none
  | n + 1, ds => bodyF 2 2 (f_is_there ) ds
theorem e_is_there (n : Nat) (ds : List D) : F_is_there (n + 1) ds = bodyF 2 2 (f_is_there ) ds := rfl
def f_leads_to_number (c_part_at : List D → Option D) : FS :=
  (sSeq (sSet 2 (eCall c_part_at (aCons (eVar 0) (aCons (eVar 1) aNil)))) (sRet (eAnd (eUn notND (eVar 2)) (eBin eqD (eBin ixD (eVar 2) (eC (.int 0))) (eC (.str "number"))))))
def F_leads_to_number : Nat → List D → Option D
  | 0, _ => none
  | n + 1, ds => bodyF 3 2 (f_leads_to_number (F_part_at n)) ds
theorem e_leads_to_number (n : Nat) (ds : List D) : F_leads_to_number (n + 1) ds = bodyF 3 2 (f_leads_to_number (F_part_at n)) ds := rfl
def f_held_at (c_is_there : List D → Option D) : FS :=
  (sSeq (sIf (tVal (eCall c_is_there (aCons (eVar 0) (aCons (eVar 1) aNil)))) (sRet (eBin ixD (eVar 0) (eVar 1))) sNil) (sRet (eC .none)))
def F_held_at : Nat → List D → Option D
  | 0, _ => none
  | n + 1, ds => bodyF 2 2 (f_held_at (F_is_there n)) ds
theorem e_held_at (n : Nat) (ds : List D) : F_held_at (n + 1) ds = bodyF 2 2 (f_held_at (F_is_there n)) ds := rfl
def f_holds_parts (c_part_at : List D → Option D) (c_held_at : List D → Option D) : FS :=
  (sSeq (sSet 3 (eBin ixD (eVar 1) (eC (.int 2)))) (sSeq (sSet 4 (eCall c_part_at (aCons (eVar 0) (aCons (eVar 3) aNil)))) (sSeq (sIf (tOr (tVal (eUn isND (eVar 4))) (tVal (eBin eqD (eBin ixD (eVar 4) (eC (.int 0))) (eC (.str "number"))))) (sRet (eC (.bool false))) sNil) (sRet (eAnd (eBin eqD (eCall c_held_at (aCons (eVar 2) (aCons (eBin ixD (eVar 1) (eC (.int 3))) aNil))) (eBin addD (eVar 3) (eC (.str "l")))) (eBin eqD (eCall c_held_at (aCons (eVar 2) (aCons (eBin ixD (eVar 1) (eC (.int 4))) aNil))) (eBin addD (eVar 3) (eC (.str "r")))))))))
def F_holds_parts : Nat → List D → Option D
  | 0, _ => none
  | n + 1, ds => bodyF 5 3 (f_holds_parts (F_part_at n) (F_held_at n)) ds
theorem e_holds_parts (n : Nat) (ds : List D) : F_holds_parts (n + 1) ds = bodyF 5 3 (f_holds_parts (F_part_at n) (F_held_at n)) ds := rfl
def f_can_be_done (c_is_there : List D → Option D) (c_leads_to_number : List D → Option D) (c_holds_parts : List D → Option D) (c_held_at : List D → Option D) : FS :=
  (sSeq (sIf (tVal (eBin eqD (eBin ixD (eVar 1) (eC (.int 0))) (eC (.str "put")))) (sRet (eAnd (eCall c_is_there (aCons (eVar 2) (aCons (eBin ixD (eVar 1) (eC (.int 1))) aNil))) (eCall c_leads_to_number (aCons (eVar 0) (aCons (eBin ixD (eVar 1) (eC (.int 2))) aNil))))) sNil) (sSeq (sIf (tVal (eBin eqD (eBin ixD (eVar 1) (eC (.int 0))) (eC (.str "join")))) (sRet (eAnd (eCall c_is_there (aCons (eVar 2) (aCons (eBin ixD (eVar 1) (eC (.int 1))) aNil))) (eCall c_holds_parts (aCons (eVar 0) (aCons (eVar 1) (aCons (eVar 2) aNil)))))) sNil) (sSeq (sIf (tVal (eBin eqD (eBin ixD (eVar 1) (eC (.int 0))) (eC (.str "shelve")))) (sRet (eAnd (eCall c_is_there (aCons (eVar 3) (aCons (eBin ixD (eVar 1) (eC (.int 1))) aNil))) (eUn notND (eCall c_held_at (aCons (eVar 2) (aCons (eBin ixD (eVar 1) (eC (.int 2))) aNil)))))) sNil) (sRet (eAnd (eCall c_is_there (aCons (eVar 2) (aCons (eBin ixD (eVar 1) (eC (.int 1))) aNil))) (eUn notND (eCall c_held_at (aCons (eVar 3) (aCons (eBin ixD (eVar 1) (eC (.int 2))) aNil)))))))))
def F_can_be_done : Nat → List D → Option D
  | 0, _ => none
  | n + 1, ds => bodyF 4 4 (f_can_be_done (F_is_there n) (F_leads_to_number n) (F_holds_parts n) (F_held_at n)) ds
theorem e_can_be_done (n : Nat) (ds : List D) : F_can_be_done (n + 1) ds = bodyF 4 4 (f_can_be_done (F_is_there n) (F_leads_to_number n) (F_holds_parts n) (F_held_at n)) ds := rfl
def f_makes : FS :=
  (sRet (eOr (eBin eqD (eBin ixD (eVar 0) (eC (.int 0))) (eC (.str "put"))) (eBin eqD (eBin ixD (eVar 0) (eC (.int 0))) (eC (.str "join")))))
def F_makes : Nat → List D → Option D
  | 0, _ => none
  | n + 1, ds => bodyF 1 1 (f_makes ) ds
theorem e_makes (n : Nat) (ds : List D) : F_makes (n + 1) ds = bodyF 1 1 (f_makes ) ds := rfl
def f_move : FK :=
  (kIf (tVal (eBin eqD (eBin ixD (eVar 0) (eC (.int 0))) (eC (.str "shelve")))) (kPut 2 (eBin ixD (eVar 0) (eC (.int 1))) (eBin ixD (eVar 1) (eBin ixD (eVar 0) (eC (.int 2))))) (kPut 1 (eBin ixD (eVar 0) (eC (.int 1))) (eBin ixD (eVar 2) (eBin ixD (eVar 0) (eC (.int 2))))))
def F_move : Nat → FK
  | 0, _ => none
  | n + 1, m => f_move m
theorem e_move (n : Nat) : F_move (n + 1) = f_move := rfl
def f_run (c_can_be_done : List D → Option D) (c_makes : List D → Option D) (c_move : FK) : FM :=
  (mSeq (mOwn 3 (gRep (gFew (aCons (eC .none) aNil)) (eVar 2))) (mSeq (mOwn 4 (gRep (gFew (aCons (eC .none) aNil)) (eC c_PLACES))) (mSeq (mFor 5 (eVar 1) (mSeq (mIf (tNot (tVal (eCall c_can_be_done (aCons (eVar 0) (aCons (eVar 5) (aCons (eVar 3) (aCons (eVar 4) aNil))))))) (mRet (eC .none)) mNil) (mIf (tVal (eCall c_makes (aCons (eVar 5) aNil))) (mPut 3 (eBin ixD (eVar 5) (eC (.int 1))) (eBin ixD (eVar 5) (eC (.int 2)))) (mMove 5 3 4 c_move)))) (mRet (eCall tupleD (aCons (eVar 3) aNil))))))
def F_run : Nat → List D → Option D
  | 0, _ => none
  | n + 1, ds => bodyM 6 3 (f_run (F_can_be_done n) (F_makes n) (F_move n)) ds
theorem e_run (n : Nat) (ds : List D) : F_run (n + 1) ds = bodyM 6 3 (f_run (F_can_be_done n) (F_makes n) (F_move n)) ds := rfl
def f_number_made (c_part_at : List D → Option D) (c_joined_worth : List D → Option D) : FS :=
  (sSeq (sSet 3 (eCall c_part_at (aCons (eVar 0) (aCons (eBin ixD (eVar 1) (eC (.int 2))) aNil)))) (sSeq (sIf (tVal (eBin eqD (eBin ixD (eVar 1) (eC (.int 0))) (eC (.str "put")))) (sRet (eBin ixD (eVar 3) (eC (.int 1)))) sNil) (sRet (eCall c_joined_worth (aCons (eBin ixD (eVar 3) (eC (.int 0))) (aCons (eBin ixD (eVar 2) (eBin ixD (eVar 1) (eC (.int 3)))) (aCons (eBin ixD (eVar 2) (eBin ixD (eVar 1) (eC (.int 4)))) aNil)))))))
def F_number_made : Nat → List D → Option D
  | 0, _ => none
  | n + 1, ds => bodyF 4 3 (f_number_made (F_part_at n) (F_joined_worth n)) ds
theorem e_number_made (n : Nat) (ds : List D) : F_number_made (n + 1) ds = bodyF 4 3 (f_number_made (F_part_at n) (F_joined_worth n)) ds := rfl
def f_numbers (c_run : List D → Option D) (c_makes : List D → Option D) (c_number_made : List D → Option D) (c_move : FK) : FM :=
  (mSeq (mIf (tVal (eUn isND (eCall c_run (aCons (eVar 0) (aCons (eVar 1) (aCons (eVar 2) aNil)))))) (mRet (eC .none)) mNil) (mSeq (mOwn 3 (gRep (gFew (aCons (eC .none) aNil)) (eVar 2))) (mSeq (mOwn 4 (gRep (gFew (aCons (eC .none) aNil)) (eC c_PLACES))) (mSeq (mFor 5 (eVar 1) (mIf (tVal (eCall c_makes (aCons (eVar 5) aNil))) (mPut 3 (eBin ixD (eVar 5) (eC (.int 1))) (eCall c_number_made (aCons (eVar 0) (aCons (eVar 5) (aCons (eVar 3) aNil))))) (mMove 5 3 4 c_move))) (mRet (eCall tupleD (aCons (eVar 3) aNil)))))))
def F_numbers : Nat → List D → Option D
  | 0, _ => none
  | n + 1, ds => bodyM 6 3 (f_numbers (F_run n) (F_makes n) (F_number_made n) (F_move n)) ds
theorem e_numbers (n : Nat) (ds : List D) : F_numbers (n + 1) ds = bodyM 6 3 (f_numbers (F_run n) (F_makes n) (F_number_made n) (F_move n)) ds := rfl
def f__law_cell_at : FS :=
  (sSeq (sIf (tVal (eBin ltD (eVar 1) (eCall lenD (aCons (eVar 0) aNil)))) (sRet (eBin ixD (eVar 0) (eVar 1))) sNil) (sRet (eC (.int 0))))
def F__law_cell_at : Nat → List D → Option D
  | 0, _ => none
  | n + 1, ds => bodyF 2 2 (f__law_cell_at ) ds
theorem e__law_cell_at (n : Nat) (ds : List D) : F__law_cell_at (n + 1) ds = bodyF 2 2 (f__law_cell_at ) ds := rfl
def f__law_mixed (c__law_cell_at : List D → Option D) : FS :=
  (sSeq (sSet 2 (eBin modD (eBin mulD (eBin addD (eBin addD (eCall c__law_cell_at (aCons (eVar 0) (aCons (eVar 1) aNil))) (eBin mulD (eC (.int 7919)) (eVar 1))) (eC (.int 1))) (eC (.int 48271))) (eC (.int 2147483647)))) (sRet (eBin modD (eBin addD (eBin addD (eBin mulD (eVar 2) (eVar 2)) (eBin mulD (eC (.int 7)) (eVar 2))) (eVar 1)) (eC (.int 2147483629)))))
def F__law_mixed : Nat → List D → Option D
  | 0, _ => none
  | n + 1, ds => bodyF 3 2 (f__law_mixed (F__law_cell_at n)) ds
theorem e__law_mixed (n : Nat) (ds : List D) : F__law_mixed (n + 1) ds = bodyF 3 2 (f__law_mixed (F__law_cell_at n)) ds := rfl
def f__law_drawn : FS :=
  (sSeq (sSet 2 (eBin modD (eBin mulD (eBin addD (eBin addD (eVar 0) (eBin mulD (eC (.int 104729)) (eVar 1))) (eC (.int 17))) (eC (.int 69621))) (eC (.int 2147483647)))) (sRet (eBin modD (eBin addD (eBin addD (eBin mulD (eVar 2) (eVar 2)) (eBin mulD (eC (.int 3)) (eVar 2))) (eVar 1)) (eC (.int 2147483629)))))
def F__law_drawn : Nat → List D → Option D
  | 0, _ => none
  | n + 1, ds => bodyF 3 2 (f__law_drawn ) ds
theorem e__law_drawn (n : Nat) (ds : List D) : F__law_drawn (n + 1) ds = bodyF 3 2 (f__law_drawn ) ds := rfl
def f__law_tree (c__law_drawn : List D → Option D) (c__law_tree : List D → Option D) : FS :=
  (sSeq (sIf (tVal (eBin eqD (eVar 1) (eC (.int 1)))) (sRet (eTup (aCons (eC (.str "number")) (aCons (eBin subD (eBin modD (eBin fdivD (eCall c__law_drawn (aCons (eVar 0) (aCons (eC (.int 1)) aNil))) (eC (.int 8))) (eBin ixD (eTup (aCons (eC (.int 21)) (aCons (eC (.int 2001)) aNil))) (eBin modD (eBin fdivD (eVar 0) (eC (.int 16))) (eC (.int 2))))) (eBin ixD (eTup (aCons (eC (.int 10)) (aCons (eC (.int 1000)) aNil))) (eBin modD (eBin fdivD (eVar 0) (eC (.int 16))) (eC (.int 2))))) aNil)))) sNil) (sSeq (sSet 3 (eBin addD (eC (.int 1)) (eBin modD (eBin fdivD (eVar 0) (eC (.int 8))) (eBin subD (eVar 1) (eC (.int 1)))))) (sSeq (sIf (tOr (tVal (eBin eqD (eVar 2) (eC (.int 1)))) (tAnd (tVal (eBin eqD (eVar 2) (eC (.int 2)))) (tVal (eBin eqD (eBin modD (eVar 0) (eC (.int 2))) (eC (.int 1)))))) (sSet 3 (eBin fdivD (eVar 1) (eC (.int 2)))) sNil) (sSeq (sIf (tVal (eBin eqD (eVar 2) (eC (.int 3)))) (sSet 3 (eBin ixD (eLst (aCons (eC (.int 1)) (aCons (eBin subD (eVar 1) (eC (.int 1))) aNil))) (eBin modD (eBin fdivD (eVar 0) (eC (.int 8))) (eC (.int 2))))) sNil) (sSeq (sSet 4 (eCall c__law_tree (aCons (eCall c__law_drawn (aCons (eVar 0) (aCons (eC (.int 2)) aNil))) (aCons (eVar 3) (aCons (eVar 2) aNil))))) (sSeq (sSet 5 (eCall c__law_tree (aCons (eCall c__law_drawn (aCons (eVar 0) (aCons (eC (.int 3)) aNil))) (aCons (eBin subD (eVar 1) (eVar 3)) (aCons (eVar 2) aNil))))) (sRet (eTup (aCons (eBin ixD (eTup (aCons (eC (.str "plus")) (aCons (eC (.str "less")) (aCons (eC (.str "times")) aNil)))) (eBin modD (eBin fdivD (eVar 0) (eC (.int 4))) (eC (.int 3)))) (aCons (eVar 4) (aCons (eVar 5) aNil)))))))))))
def F__law_tree : Nat → List D → Option D
  | 0, _ => none
  | n + 1, ds => bodyF 6 3 (f__law_tree (F__law_drawn n) (F__law_tree n)) ds
theorem e__law_tree (n : Nat) (ds : List D) : F__law_tree (n + 1) ds = bodyF 6 3 (f__law_tree (F__law_drawn n) (F__law_tree n)) ds := rfl
def f__law_drawn_tree (c__law_tree : List D → Option D) : FS :=
  (sRet (eCall c__law_tree (aCons (eBin fdivD (eVar 0) (eC (.int 64))) (aCons (eBin ixD (eTup (aCons (eC (.int 16)) (aCons (eC (.int 8)) (aCons (eC (.int 4)) (aCons (eBin addD (eC (.int 1)) (eBin modD (eBin fdivD (eVar 0) (eC (.int 64))) (eC (.int 16)))) aNil))))) (eBin modD (eBin fdivD (eVar 0) (eC (.int 4))) (eC (.int 4)))) (aCons (eBin modD (eVar 0) (eC (.int 4))) aNil)))))
def F__law_drawn_tree : Nat → List D → Option D
  | 0, _ => none
  | n + 1, ds => bodyF 1 1 (f__law_drawn_tree (F__law_tree n)) ds
theorem e__law_drawn_tree (n : Nat) (ds : List D) : F__law_drawn_tree (n + 1) ds = bodyF 1 1 (f__law_drawn_tree (F__law_tree n)) ds := rfl
def f__law_part : FS :=
  (sSeq (sSet 2 (eVar 0)) (sSeq (sForStr 3 (eVar 1) (sSeq (sIf (tOr (tVal (eBin eqD (eBin ixD (eVar 2) (eC (.int 0))) (eC (.str "number")))) (tVal (eBin ltD (eBin findD (eC (.str "lr")) (eVar 3)) (eC (.int 0))))) (sRet (eC .none)) sNil) (sSet 2 (eBin ixD (eVar 2) (eBin addD (eBin findD (eC (.str "lr")) (eVar 3)) (eC (.int 1))))))) (sRet (eVar 2))))
def F__law_part : Nat → List D → Option D
  | 0, _ => none
  | n + 1, ds => bodyF 4 2 (f__law_part ) ds
theorem e__law_part (n : Nat) (ds : List D) : F__law_part (n + 1) ds = bodyF 4 2 (f__law_part ) ds := rfl
def f__law_addresses (c__law_addresses : List D → Option D) : FS :=
  (sSeq (sIf (tVal (eBin eqD (eBin ixD (eVar 0) (eC (.int 0))) (eC (.str "number")))) (sRet (eLst (aCons (eVar 1) aNil))) sNil) (sRet (eBin addD (eBin addD (eLst (aCons (eVar 1) aNil)) (eCall c__law_addresses (aCons (eBin ixD (eVar 0) (eC (.int 1))) (aCons (eBin addD (eVar 1) (eC (.str "l"))) aNil)))) (eCall c__law_addresses (aCons (eBin ixD (eVar 0) (eC (.int 2))) (aCons (eBin addD (eVar 1) (eC (.str "r"))) aNil))))))
def F__law_addresses : Nat → List D → Option D
  | 0, _ => none
  | n + 1, ds => bodyF 2 2 (f__law_addresses (F__law_addresses n)) ds
theorem e__law_addresses (n : Nat) (ds : List D) : F__law_addresses (n + 1) ds = bodyF 2 2 (f__law_addresses (F__law_addresses n)) ds := rfl
def f__law_worth (c__law_worth : List D → Option D) : FS :=
  (sSeq (sIf (tVal (eBin eqD (eBin ixD (eVar 0) (eC (.int 0))) (eC (.str "number")))) (sRet (eBin ixD (eVar 0) (eC (.int 1)))) sNil) (sSeq (sSet 1 (eCall c__law_worth (aCons (eBin ixD (eVar 0) (eC (.int 1))) aNil))) (sSeq (sSet 2 (eCall c__law_worth (aCons (eBin ixD (eVar 0) (eC (.int 2))) aNil))) (sSeq (sIf (tVal (eBin eqD (eBin ixD (eVar 0) (eC (.int 0))) (eC (.str "times")))) (sRet (eBin mulD (eVar 1) (eVar 2))) sNil) (sRet (eBin addD (eVar 1) (eBin ixD (eLst (aCons (eVar 2) (aCons (eUn negD (eVar 2)) aNil))) (eCall intD (aCons (eBin eqD (eBin ixD (eVar 0) (eC (.int 0))) (eC (.str "less"))) aNil)))))))))
def F__law_worth : Nat → List D → Option D
  | 0, _ => none
  | n + 1, ds => bodyF 3 1 (f__law_worth (F__law_worth n)) ds
theorem e__law_worth (n : Nat) (ds : List D) : F__law_worth (n + 1) ds = bodyF 3 1 (f__law_worth (F__law_worth n)) ds := rfl
def f__law_held : FS :=
  (sSeq (sIf (tVal (eChain leD ltD (eC (.int 0)) (eVar 1) (eCall lenD (aCons (eVar 0) aNil)))) (sRet (eBin ixD (eVar 0) (eVar 1))) sNil) (sRet (eC .none)))
def F__law_held : Nat → List D → Option D
  | 0, _ => none
  | n + 1, ds => bodyF 2 2 (f__law_held ) ds
theorem e__law_held (n : Nat) (ds : List D) : F__law_held (n + 1) ds = bodyF 2 2 (f__law_held ) ds := rfl
def f__law_brings (c__law_held : List D → Option D) (c__law_part : List D → Option D) : FS :=
  (sSeq (sIf (tVal (eBin eqD (eBin ixD (eVar 3) (eC (.int 0))) (eC (.str "fetch")))) (sRet (eCall c__law_held (aCons (eVar 2) (aCons (eBin ixD (eVar 3) (eC (.int 2))) aNil)))) sNil) (sSeq (sIf (tVal (eBin eqD (eBin ixD (eVar 3) (eC (.int 0))) (eC (.str "shelve")))) (sRet (eCall c__law_held (aCons (eVar 1) (aCons (eBin ixD (eVar 3) (eC (.int 2))) aNil)))) sNil) (sSeq (sSet 4 (eCall c__law_part (aCons (eVar 0) (aCons (eBin ixD (eVar 3) (eC (.int 2))) aNil)))) (sSeq (sIf (tOr (tVal (eUn isND (eVar 4))) (tVal (eBin neD (eBin eqD (eBin ixD (eVar 4) (eC (.int 0))) (eC (.str "number"))) (eBin eqD (eBin ixD (eVar 3) (eC (.int 0))) (eC (.str "put")))))) (sRet (eC .none)) sNil) (sSeq (sIf (tAnd (tVal (eBin eqD (eBin ixD (eVar 3) (eC (.int 0))) (eC (.str "join")))) (tVal (eBin neD (eCall c__law_held (aCons (eVar 1) (aCons (eBin ixD (eVar 3) (eC (.int 3))) aNil))) (eBin addD (eBin ixD (eVar 3) (eC (.int 2))) (eC (.str "l")))))) (sRet (eC .none)) sNil) (sSeq (sIf (tAnd (tVal (eBin eqD (eBin ixD (eVar 3) (eC (.int 0))) (eC (.str "join")))) (tVal (eBin neD (eCall c__law_held (aCons (eVar 1) (aCons (eBin ixD (eVar 3) (eC (.int 4))) aNil))) (eBin addD (eBin ixD (eVar 3) (eC (.int 2))) (eC (.str "r")))))) (sRet (eC .none)) sNil) (sRet (eBin ixD (eVar 3) (eC (.int 2))))))))))
def F__law_brings : Nat → List D → Option D
  | 0, _ => none
  | n + 1, ds => bodyF 5 4 (f__law_brings (F__law_held n) (F__law_part n)) ds
theorem e__law_brings (n : Nat) (ds : List D) : F__law_brings (n + 1) ds = bodyF 5 4 (f__law_brings (F__law_held n) (F__law_part n)) ds := rfl
def f__law_run (c__law_brings : List D → Option D) : FM :=
  (mSeq (mOwn 3 (gRep (gFew (aCons (eC .none) aNil)) (eVar 2))) (mSeq (mOwn 4 (gRep (gFew (aCons (eC .none) aNil)) (eC (.int 41)))) (mSeq (mFor 5 (eVar 1) (mSeq (mSet 6 (eCall c__law_brings (aCons (eVar 0) (aCons (eVar 3) (aCons (eVar 4) (aCons (eVar 5) aNil)))))) (mSeq (mPick 7 3 4 (eCall intD (aCons (eBin eqD (eBin ixD (eVar 5) (eC (.int 0))) (eC (.str "shelve"))) aNil))) (mSeq (mIf (tOr (tVal (eUn isND (eVar 6))) (tNot (tVal (eChain leD ltD (eC (.int 0)) (eBin ixD (eVar 5) (eC (.int 1))) (eCall lenD (aCons (eVar 7) aNil)))))) (mRet (eC .none)) mNil) (mPut 7 (eBin ixD (eVar 5) (eC (.int 1))) (eVar 6)))))) (mRet (eCall tupleD (aCons (eVar 3) aNil))))))
def F__law_run : Nat → List D → Option D
  | 0, _ => none
  | n + 1, ds => bodyM 8 3 (f__law_run (F__law_brings n)) ds
theorem e__law_run (n : Nat) (ds : List D) : F__law_run (n + 1) ds = bodyM 8 3 (f__law_run (F__law_brings n)) ds := rfl
def f__law_work (c__law_part : List D → Option D) (c__law_drawn : List D → Option D) (c__law_work : List D → Option D) : FS :=
  (sSeq (sSet 5 (eCall c__law_part (aCons (eVar 0) (aCons (eVar 1) aNil)))) (sSeq (sIf (tVal (eBin eqD (eBin ixD (eVar 5) (eC (.int 0))) (eC (.str "number")))) (sRet (eLst (aCons (eTup (aCons (eC (.str "put")) (aCons (eBin ixD (eVar 2) (eC (.int 0))) (aCons (eVar 1) aNil)))) aNil))) sNil) (sSeq (sSet 6 (eCall c__law_drawn (aCons (eVar 3) (aCons (eBin indexD (eVar 4) (eVar 1)) aNil)))) (sSeq (sUnp [7, 8] (eBin ixD (eLst (aCons (eTup (aCons (eC (.str "l")) (aCons (eC (.str "r")) aNil))) (aCons (eTup (aCons (eC (.str "r")) (aCons (eC (.str "l")) aNil))) aNil))) (eBin modD (eVar 6) (eC (.int 2))))) (sSeq (sSet 9 (eBin eqD (eBin ixD (eCall c__law_part (aCons (eVar 0) (aCons (eBin addD (eVar 1) (eVar 8)) aNil))) (eC (.int 0))) (eC (.str "number")))) (sSeq (sSet 10 (eCall c__law_work (aCons (eVar 0) (aCons (eBin addD (eVar 1) (eVar 7)) (aCons (eVar 2) (aCons (eVar 3) (aCons (eVar 4) aNil))))))) (sSeq (sIf (tAnd (tVal (eBin gtD (eCall lenD (aCons (eVar 2) aNil)) (eBin subD (eC (.int 2)) (eCall intD (aCons (eVar 9) aNil))))) (tVal (eBin gtD (eBin modD (eBin fdivD (eVar 6) (eC (.int 2))) (eC (.int 4))) (eC (.int 0))))) (sSeq (sSet 10 (eBin addD (eVar 10) (eCall c__law_work (aCons (eVar 0) (aCons (eBin addD (eVar 1) (eVar 8)) (aCons (eSlice (eVar 2) (oSome (eC (.int 1))) oNone) (aCons (eVar 3) (aCons (eVar 4) aNil)))))))) (sSet 11 (eTup (aCons (eBin ixD (eVar 2) (eC (.int 0))) (aCons (eBin ixD (eVar 2) (eC (.int 1))) aNil))))) (sSeq (sSet 12 (eBin modD (eBin addD (eBin indexD (eVar 4) (eVar 1)) (eBin fdivD (eVar 3) (eC (.int 4096)))) (eC (.int 41)))) (sSeq (sSet 10 (eBin addD (eBin addD (eVar 10) (eLst (aCons (eTup (aCons (eC (.str "shelve")) (aCons (eVar 12) (aCons (eBin ixD (eVar 2) (eC (.int 0))) aNil)))) aNil))) (eCall c__law_work (aCons (eVar 0) (aCons (eBin addD (eVar 1) (eVar 8)) (aCons (eVar 2) (aCons (eVar 3) (aCons (eVar 4) aNil)))))))) (sSeq (sSet 10 (eBin addD (eVar 10) (eLst (aCons (eTup (aCons (eC (.str "fetch")) (aCons (eBin ixD (eVar 2) (eC (.int 1))) (aCons (eVar 12) aNil)))) aNil)))) (sSet 11 (eTup (aCons (eBin ixD (eVar 2) (eC (.int 1))) (aCons (eBin ixD (eVar 2) (eC (.int 0))) aNil)))))))) (sSeq (sIf (tVal (eBin eqD (eVar 7) (eC (.str "r")))) (sSet 11 (eUn revD (eVar 11))) sNil) (sRet (eBin addD (eVar 10) (eLst (aCons (eTup (aCons (eC (.str "join")) (aCons (eBin ixD (eVar 2) (eC (.int 0))) (aCons (eVar 1) (aCons (eBin ixD (eVar 11) (eC (.int 0))) (aCons (eBin ixD (eVar 11) (eC (.int 1))) aNil)))))) aNil))))))))))))
def F__law_work : Nat → List D → Option D
  | 0, _ => none
  | n + 1, ds => bodyF 13 5 (f__law_work (F__law_part n) (F__law_drawn n) (F__law_work n)) ds
theorem e__law_work (n : Nat) (ds : List D) : F__law_work (n + 1) ds = bodyF 13 5 (f__law_work (F__law_part n) (F__law_drawn n) (F__law_work n)) ds := rfl
def f__law_code (c__law_addresses : List D → Option D) (c__law_work : List D → Option D) : FS :=
  (sSeq (sSet 3 (eCall c__law_addresses (aCons (eVar 0) (aCons (eC (.str "")) aNil)))) (sSeq (sSet 4 (eLst aNil)) (sSeq (sIf (tVal (eBin eqD (eBin modD (eVar 1) (eC (.int 3))) (eC (.int 1)))) (sSeq (sSet 5 (eBin ixD (eVar 3) (eBin modD (eBin fdivD (eVar 1) (eC (.int 3))) (eCall lenD (aCons (eVar 3) aNil))))) (sSet 4 (eCall c__law_work (aCons (eVar 0) (aCons (eVar 5) (aCons (eListRng (eVar 2)) (aCons (eBin fdivD (eVar 1) (eC (.int 64))) (aCons (eVar 3) aNil)))))))) sNil) (sRet (eBin addD (eVar 4) (eCall c__law_work (aCons (eVar 0) (aCons (eC (.str "")) (aCons (eListRng (eVar 2)) (aCons (eVar 1) (aCons (eVar 3) aNil)))))))))))
def F__law_code : Nat → List D → Option D
  | 0, _ => none
  | n + 1, ds => bodyF 6 3 (f__law_code (F__law_addresses n) (F__law_work n)) ds
theorem e__law_code (n : Nat) (ds : List D) : F__law_code (n + 1) ds = bodyF 6 3 (f__law_code (F__law_addresses n) (F__law_work n)) ds := rfl
def f__law_changed : FS :=
  (sSeq (sSet 2 (eBin modD (eBin fdivD (eVar 1) (eC (.int 8))) (eCall lenD (aCons (eVar 0) aNil)))) (sSeq (sSet 3 (eBin ixD (eVar 0) (eVar 2))) (sSeq (sSet 4 (eBin modD (eVar 1) (eC (.int 8)))) (sSeq (sIf (tVal (eBin eqD (eVar 4) (eC (.int 0)))) (sRet (eBin addD (eSlice (eVar 0) oNone (oSome (eVar 2))) (eSlice (eVar 0) (oSome (eBin addD (eVar 2) (eC (.int 1)))) oNone))) sNil) (sSeq (sIf (tVal (eBin eqD (eVar 4) (eC (.int 1)))) (sRet (eBin addD (eSlice (eVar 0) oNone (oSome (eBin addD (eVar 2) (eC (.int 1))))) (eSlice (eVar 0) (oSome (eVar 2)) oNone))) sNil) (sSeq (sIf (tVal (eBin eqD (eVar 4) (eC (.int 2)))) (sSeq (sSet 5 (eBin addD (eSlice (eVar 0) (oSome (eBin addD (eVar 2) (eC (.int 1)))) (oSome (eBin addD (eVar 2) (eC (.int 2))))) (eLst (aCons (eVar 3) aNil)))) (sRet (eBin addD (eBin addD (eSlice (eVar 0) oNone (oSome (eVar 2))) (eVar 5)) (eSlice (eVar 0) (oSome (eBin addD (eVar 2) (eC (.int 2)))) oNone)))) sNil) (sSeq (sSet 6 (eBin addD (eC (.int 1)) (eBin modD (eBin fdivD (eVar 1) (eC (.int 800))) (eBin subD (eCall lenD (aCons (eVar 3) aNil)) (eC (.int 1)))))) (sSeq (sSet 7 (eBin ixD (eLst (aCons (eC (.int 0)) (aCons (eC (.int 1)) (aCons (eC (.int 7)) (aCons (eC (.int 8)) (aCons (eC (.int 40)) (aCons (eC (.int 41)) (aCons (eUn negD (eC (.int 1))) (aCons (eC (.int 2)) aNil))))))))) (eBin modD (eBin fdivD (eVar 1) (eC (.int 4000))) (eC (.int 8))))) (sSeq (sSet 8 (eBin ixD (eVar 3) (eVar 6))) (sSeq (sIf (tVal (eUn (isiD .str) (eVar 8))) (sSet 7 (eBin ixD (eLst (aCons (eC (.str "")) (aCons (eC (.str "l")) (aCons (eC (.str "r")) (aCons (eBin addD (eVar 8) (eC (.str "l"))) (aCons (eSlice (eVar 8) oNone (oSome (eUn negD (eC (.int 1))))) (aCons (eC (.str "x")) aNil))))))) (eBin modD (eBin fdivD (eVar 1) (eC (.int 4000))) (eC (.int 6))))) sNil) (sSeq (sSet 9 (eBin addD (eBin addD (eSlice (eVar 3) oNone (oSome (eVar 6))) (eTup (aCons (eVar 7) aNil))) (eSlice (eVar 3) (oSome (eBin addD (eVar 6) (eC (.int 1)))) oNone))) (sRet (eBin addD (eBin addD (eSlice (eVar 0) oNone (oSome (eVar 2))) (eLst (aCons (eVar 9) aNil))) (eSlice (eVar 0) (oSome (eBin addD (eVar 2) (eC (.int 1)))) oNone))))))))))))))
def F__law_changed : Nat → List D → Option D
  | 0, _ => none
  | n + 1, ds => bodyF 10 2 (f__law_changed ) ds
theorem e__law_changed (n : Nat) (ds : List D) : F__law_changed (n + 1) ds = bodyF 10 2 (f__law_changed ) ds := rfl
def f_law (c__law_mixed : List D → Option D) (c__law_drawn_tree : List D → Option D) (c__law_code : List D → Option D) (c__law_changed : List D → Option D) (c__law_run : List D → Option D) (c_numbers : List D → Option D) (c__law_part : List D → Option D) (c__law_worth : List D → Option D) : FS :=
  (sSeq (sSet 1 (eCall c__law_drawn_tree (aCons (eCall c__law_mixed (aCons (eVar 0) (aCons (eC (.int 0)) aNil))) aNil))) (sSeq (sSet 2 (eBin addD (eC (.int 2)) (eBin modD (eCall c__law_mixed (aCons (eVar 0) (aCons (eC (.int 1)) aNil))) (eC (.int 7))))) (sSeq (sSet 3 (eCall c__law_code (aCons (eVar 1) (aCons (eCall c__law_mixed (aCons (eVar 0) (aCons (eC (.int 2)) aNil))) (aCons (eVar 2) aNil))))) (sSeq (sIf (tVal (eBin eqD (eBin modD (eCall c__law_mixed (aCons (eVar 0) (aCons (eC (.int 3)) aNil))) (eC (.int 2))) (eC (.int 1)))) (sSet 3 (eCall c__law_changed (aCons (eVar 3) (aCons (eBin fdivD (eCall c__law_mixed (aCons (eVar 0) (aCons (eC (.int 3)) aNil))) (eC (.int 2))) aNil)))) sNil) (sSeq (sSet 4 (eCall c__law_run (aCons (eVar 1) (aCons (eVar 3) (aCons (eVar 2) aNil))))) (sSeq (sIf (tVal (eUn isND (eVar 4))) (sRet (eC (.bool true))) sNil) (sSeq (sSet 5 (eCall c_numbers (aCons (eVar 1) (aCons (eCall tupleD (aCons (eVar 3) aNil)) (aCons (eVar 2) aNil))))) (sSeq (sIf (tOr (tNot (tVal (eUn (isiD .tup) (eVar 5)))) (tVal (eBin neD (eCall lenD (aCons (eVar 5) aNil)) (eVar 2)))) (sRet (eC (.bool false))) sNil) (sSeq (sForZip 6 7 (eVar 4) (eVar 5) (sSeq (sIf (tOr (tAnd (tVal (eUn isND (eVar 6))) (tVal (eUn notND (eVar 7)))) (tVal (eUn (isiD .bool) (eVar 7)))) (sRet (eC (.bool false))) sNil) (sIf (tAnd (tVal (eUn notND (eVar 6))) (tVal (eBin neD (eVar 7) (eCall c__law_worth (aCons (eCall c__law_part (aCons (eVar 1) (aCons (eVar 6) aNil))) aNil))))) (sRet (eC (.bool false))) sNil))) (sRet (eC (.bool true))))))))))))
def F_law : Nat → List D → Option D
  | 0, _ => none
  | n + 1, ds => bodyF 8 1 (f_law (F__law_mixed n) (F__law_drawn_tree n) (F__law_code n) (F__law_changed n) (F__law_run n) (F_numbers n) (F__law_part n) (F__law_worth n)) ds
theorem e_law (n : Nat) (ds : List D) : F_law (n + 1) ds = bodyF 8 1 (f_law (F__law_mixed n) (F__law_drawn_tree n) (F__law_code n) (F__law_changed n) (F__law_run n) (F_numbers n) (F__law_part n) (F__law_worth n)) ds := rfl
end FD
end
section
set_option Elab.async false
set_option linter.all false
set_option maxHeartbeats 1000000
namespace FD
open PySem
def pBody : FS := (sSeq (sIf (tVal (eBin eqD (eBin ixD (eVar 2) (eC (.int 0))) (eC (.str "number")))) (sRet (eC .none)) sNil) (sIf (tVal (eBin eqD (eVar 3) (eC (.str "l")))) (sSet 2 (eBin ixD (eVar 2) (eC (.int 1)))) (sIf (tVal (eBin eqD (eVar 3) (eC (.str "r")))) (sSet 2 (eBin ixD (eVar 2) (eC (.int 2)))) (sRet (eC .none)))))
theorem pLoop (t0 a : D) : ∀ (cs : List Nat) (t : Tr) (y : Option D), valid cs →
    (∃ y', forGo 3 pBody (cs.map chr1) [some t0, some a, some t.toD, y] = match part t cs with
      | some t' => some (.nx [some t0, some a, some t'.toD, y'])
      | none => some (.rt .none))
  | [], t, y, _ => ⟨y, by simp [forGo, part]⟩
  | c :: cs, .num i, y, h => ⟨y, by
      simp [forGo, part, pBody, Tr.toD]⟩
  | c :: cs, .node k l r, y, h => by
    have hc := h c (List.mem_cons_self ..)
    have h' : valid cs := fun d hd => h d (List.mem_cons_of_mem _ hd)
    by_cases e1 : c = 108
    · obtain ⟨y', e⟩ := pLoop t0 a cs l (some (chr1 108)) h'
      refine ⟨y', ?_⟩
      subst e1
      simp [forGo, part, pBody, Tr.toD, eqD_l hc] at e ⊢
      exact e
    · by_cases e2 : c = 114
      · obtain ⟨y', e⟩ := pLoop t0 a cs r (some (chr1 114)) h'
        refine ⟨y', ?_⟩
        subst e2
        simp [forGo, part, pBody, Tr.toD, eqD_l hc, eqD_r hc] at e ⊢
        exact e
      · exact ⟨y, by simp [forGo, part, pBody, Tr.toD, eqD_l hc, eqD_r hc, e1, e2]⟩
theorem F_part (n : Nat) (t : Tr) (s : Str) (h : valid s.cps.toList) : F_part_at (n + 1) [t.toD, .str s] = some (partD t s.cps.toList) := by
  obtain ⟨y, e⟩ := pLoop t.toD (.str s) s.cps.toList t none h
  rw [e_part_at]
  have e' : f_part_at = sSeq (sSet 2 (eVar 0)) (sSeq (sForStr 3 (eVar 1) pBody) (sRet (eVar 2))) := rfl
  rw [e']
  simp [chars, e, partD]
  cases part t s.cps.toList <;> simp
def Kd.go : Kd → Int → Int → Int
  | .plus, x, y => x + y
  | .less, x, y => x - y
  | .times, x, y => x * y
theorem F_pjoined (n : Nat) (k : Kd) (x y : Int) (hm : okMul x y = true) : F_joined_worth (n + 1) [.str k.str, .int x, .int y] = some (.int (k.go x y)) := by
  rw [e_joined_worth]
  cases k <;> simp [f_joined_worth, Kd.go, eqD_k2 _ _ ok_plus, eqD_k2 _ _ ok_less, addD, mulD, hm]
theorem worth_go (k : Kd) (l r : Tr) : (Tr.node k l r).worth = k.go l.worth r.worth := by cases k <;> simp [Tr.worth, Kd.go]
theorem okMul_worth {l r : Tr} (hl : l.ok) (hr : r.ok) (h : l.leaves ≤ 16) (h' : r.leaves ≤ 16) : okMul l.worth r.worth = true := by
  have bl := Tr.worth_lt hl h
  have br := Tr.worth_lt hr h'
  simp [okMul, bl, br]
def qBody : FS := (sSeq (sIf (tOr (tVal (eBin eqD (eBin ixD (eVar 2) (eC (.int 0))) (eC (.str "number")))) (tVal (eBin ltD (eBin findD (eC (.str "lr")) (eVar 3)) (eC (.int 0))))) (sRet (eC .none)) sNil) (sSet 2 (eBin ixD (eVar 2) (eBin addD (eBin findD (eC (.str "lr")) (eVar 3)) (eC (.int 1))))))
theorem qLoop (t0 a : D) : ∀ (cs : List Nat) (t : Tr) (y : Option D),
    (∃ y', forGo 3 qBody (cs.map chr1) [some t0, some a, some t.toD, y] = match part t cs with
      | some t' => some (.nx [some t0, some a, some t'.toD, y'])
      | none => some (.rt .none))
  | [], t, y => ⟨y, by simp [forGo, part]⟩
  | c :: cs, .num i, y => ⟨y, by
      simp [forGo, part, qBody, Tr.toD]⟩
  | c :: cs, .node k l r, y => by
    by_cases e1 : c = 108
    · obtain ⟨y', e⟩ := qLoop t0 a cs l (some (chr1 108))
      refine ⟨y', ?_⟩
      subst e1
      simp [forGo, part, qBody, Tr.toD, findD_chr, findLR, addD] at e ⊢
      exact e
    · by_cases e2 : c = 114
      · obtain ⟨y', e⟩ := qLoop t0 a cs r (some (chr1 114))
        refine ⟨y', ?_⟩
        subst e2
        simp [forGo, part, qBody, Tr.toD, findD_chr, findLR, addD] at e ⊢
        exact e
      · exact ⟨y, by simp [forGo, part, qBody, Tr.toD, findD_chr, findLR, addD, e1, e2]⟩
theorem F_lpart (n : Nat) (t : Tr) (s : Str) : F__law_part (n + 1) [t.toD, .str s] = some (partD t s.cps.toList) := by
  obtain ⟨y, e⟩ := qLoop t.toD (.str s) s.cps.toList t none
  rw [e__law_part]
  have e' : f__law_part = sSeq (sSet 2 (eVar 0)) (sSeq (sForStr 3 (eVar 1) qBody) (sRet (eVar 2))) := rfl
  rw [e']
  simp [chars, e, partD]
  cases part t s.cps.toList <;> simp
theorem F_addrs (n : Nat) : ∀ (t : Tr) (a : List Nat), t.dep < n → t.leaves ≤ 100 → a.length + t.dep ≤ 900 → F__law_addresses n [t.toD, strD' a] = some (.list ((addrs t a).map strD')) := by
  induction n with
  | zero => intro t a h; omega
  | succ n ih =>
    intro t a hn hl ha
    rw [e__law_addresses]
    cases t with
    | num i => simp [f__law_addresses, Tr.toD, addrs]
    | node k l r =>
      simp only [Tr.dep, Tr.leaves] at hn hl ha
      have el := ih l (a ++ [108]) (by omega) (by omega) (by simp; omega)
      have er := ih r (a ++ [114]) (by omega) (by omega) (by simp; omega)
      have ll := addrs_len l (a ++ [108])
      have lr := addrs_len r (a ++ [114])
      have h1 : a.length + 1 ≤ 1000 := by omega
      have g1 : 0 + 1 + (addrs l (a ++ [108])).length ≤ 1000 := by omega
      have g2 : (addrs l (a ++ [108])).length + 1 + (addrs r (a ++ [114])).length ≤ 1000 := by omega
      have s1 : addD (strD' a) (.str "l") = some (strD' (a ++ [108])) := by
        simp only [strD', addD, app_l, len_l]; rw [if_pos (by simpa [Str.length] using h1)]
      have s2 : addD (strD' a) (.str "r") = some (strD' (a ++ [114])) := by
        simp only [strD', addD, app_r, len_r]; rw [if_pos (by simpa [Str.length] using h1)]
      simp [f__law_addresses, Tr.toD, addrs, s1, s2, el, er]
      rw [addD_list (by simp; omega)]
      simp only [Option.bind_some]
      rw [addD_list (by simp; omega)]
      simp
theorem F_drawn (n : Nat) (num k : Int) : F__law_drawn (n + 1) [.int num, .int k] = some (.int (drawn num k)) := by
  rw [e__law_drawn]
  have h1 : okMul 104729 k = true := okMul_l _ _ (by decide)
  have h2 : okMul (num + 104729 * k + 17) 69621 = true := okMul_r _ _ (by decide)
  have h3 : okMul ((num + 104729 * k + 17) * 69621 % 2147483647) ((num + 104729 * k + 17) * 69621 % 2147483647) = true := okMul_l _ _ (by omega)
  have h4 : okMul 3 ((num + 104729 * k + 17) * 69621 % 2147483647) = true := okMul_l _ _ (by decide)
  simp [f__law_drawn, addD, mulD, modD, h1, h2, h3, h4, drawn]
theorem F_cell (n : Nat) (xs : List Int) (k : Nat) : F__law_cell_at (n + 1) [.list (xs.map .int), .int k] = some (.int (cell xs k)) := by
  rw [e__law_cell_at]
  by_cases h : k < xs.length
  · have h' : (k : Int) < (xs.length : Int) := by omega
    have e : at? (xs.map PyData.int) (k : Int) = some (.int (cell xs k)) := by
      simp [at?, cell, List.getD, h]
    simp [f__law_cell_at, h', e]
  · have h' : ¬ (k : Int) < (xs.length : Int) := by omega
    have e : cell xs k = 0 := by simp [cell, List.getD, h]
    simp [f__law_cell_at, h', e]
theorem F_mixed (n : Nat) (xs : List Int) (k : Nat) : F__law_mixed (n + 2) [.list (xs.map .int), .int k] = some (.int (mixed xs k)) := by
  rw [e__law_mixed]
  have h1 : okMul 7919 (k : Int) = true := okMul_l _ _ (by decide)
  have h2 : okMul (cell xs k + 7919 * k + 1) 48271 = true := okMul_r _ _ (by decide)
  have h3 : okMul ((cell xs k + 7919 * k + 1) * 48271 % 2147483647) ((cell xs k + 7919 * k + 1) * 48271 % 2147483647) = true := okMul_l _ _ (by omega)
  have h4 : okMul 7 ((cell xs k + 7919 * k + 1) * 48271 % 2147483647) = true := okMul_l _ _ (by decide)
  simp [f__law_mixed, F_cell n xs k, addD, mulD, modD, h1, h2, h3, h4, mixed]
def treeRest (c__law_drawn c__law_tree : List D → Option D) : FS := (sSeq (sSet 4 (eCall c__law_tree (aCons (eCall c__law_drawn (aCons (eVar 0) (aCons (eC (.int 2)) aNil))) (aCons (eVar 3) (aCons (eVar 2) aNil))))) (sSeq (sSet 5 (eCall c__law_tree (aCons (eCall c__law_drawn (aCons (eVar 0) (aCons (eC (.int 3)) aNil))) (aCons (eBin subD (eVar 1) (eVar 3)) (aCons (eVar 2) aNil))))) (sRet (eTup (aCons (eBin ixD (eTup (aCons (eC (.str "plus")) (aCons (eC (.str "less")) (aCons (eC (.str "times")) aNil)))) (eBin modD (eBin fdivD (eVar 0) (eC (.int 4))) (eC (.int 3)))) (aCons (eVar 4) (aCons (eVar 5) aNil)))))))
theorem tree_first (cd ct : List D → Option D) (many : Nat) (num kind : Int) (h2 : 2 ≤ many) :
    ∃ first : Nat, 1 ≤ first ∧ first < many ∧ f__law_tree cd ct [some (.int num), some (.int many), some (.int kind), none, none, none] =
      treeRest cd ct [some (.int num), some (.int many), some (.int kind), some (.int first), none, none] := by
  have hne : ¬ ((many : Int) = 1) := by omega
  have hpos : (0 : Int) < (many : Int) - 1 := by omega
  have hpos' : (1 : Int) < (many : Int) := by omega
  by_cases k3 : kind = 3
  · subst k3
    rcases half_cases (num / 8) with hh | hh
    · refine ⟨1, Nat.le_refl _, by omega, ?_⟩
      simp only [f__law_tree, treeRest]
      simp [fdivD, modD, addD, hne, hpos', hh]
    · refine ⟨many - 1, by omega, by omega, ?_⟩
      have e : ((many - 1 : Nat) : Int) = (many : Int) - 1 := by omega
      simp only [f__law_tree, treeRest]
      simp [fdivD, modD, addD, hne, hpos', hh, e]
  · by_cases k1 : kind = 1
    · refine ⟨many / 2, by omega, by omega, ?_⟩
      simp only [f__law_tree, treeRest]
      simp [fdivD, modD, addD, hne, hpos', k1]
    · by_cases k2 : kind = 2 ∧ num % 2 = 1
      · refine ⟨many / 2, by omega, by omega, ?_⟩
        simp only [f__law_tree, treeRest]
        simp [fdivD, modD, addD, hne, hpos', k2.1, k2.2]
      · have hm := Int.emod_nonneg (num / 8) (show (many : Int) - 1 ≠ 0 by omega)
        have hl := Int.emod_lt_of_pos (num / 8) hpos
        refine ⟨(1 + num / 8 % ((many : Int) - 1)).toNat, by omega, by omega, ?_⟩
        have e : (((1 + num / 8 % ((many : Int) - 1)).toNat : Nat) : Int) = 1 + num / 8 % ((many : Int) - 1) := by omega
        rw [e]
        simp only [f__law_tree, treeRest]
        by_cases k4 : kind = 2
        · have k5 : ¬ num % 2 = 1 := fun z => k2 ⟨k4, z⟩
          subst k4
          simp [fdivD, modD, addD, hne, hpos', k5]
        · simp [fdivD, modD, addD, hne, hpos', k1, k3, k4]
theorem F_tree (m : Nat) : ∀ (many : Nat) (num kind : Int) (n : Nat), many ≤ m → 1 ≤ many → many ≤ 16 → many + 1 ≤ n →
    ∃ t : Tr, F__law_tree n [.int num, .int many, .int kind] = some t.toD ∧ t.leaves = many ∧ t.ok := by
  induction m with
  | zero => intro many num kind n h h1; omega
  | succ m ih =>
    intro many num kind n hm h1 h16 hn
    obtain ⟨n, rfl⟩ : ∃ k, n = k + 2 := ⟨n - 2, by omega⟩
    by_cases e1 : many = 1
    · subst e1
      rcases half_cases (num / 16) with hh | hh
      · refine ⟨.num (drawn num 1 / 8 % 21 - 10), ?_, rfl, ?_⟩
        · rw [e__law_tree]
          simp [f__law_tree, F_drawn n num 1, fdivD, modD, hh, Tr.toD]
        · simp only [Tr.ok]; omega
      · refine ⟨.num (drawn num 1 / 8 % 2001 - 1000), ?_, rfl, ?_⟩
        · rw [e__law_tree]
          simp [f__law_tree, F_drawn n num 1, fdivD, modD, hh, Tr.toD]
        · simp only [Tr.ok]; omega
    · obtain ⟨first, f1, f2, ef⟩ := tree_first (F__law_drawn (n + 1)) (F__law_tree (n + 1)) many num kind (by omega)
      obtain ⟨t1, e1', l1, o1⟩ := ih first (drawn num 2) kind (n + 1) (by omega) f1 (by omega) (by omega)
      obtain ⟨t2, e2', l2, o2⟩ := ih (many - first) (drawn num 3) kind (n + 1) (by omega) (by omega) (by omega) (by omega)
      refine ⟨.node (kdOf (num / 4 % 3)) t1 t2, ?_, by simp only [Tr.leaves]; omega, o1, o2⟩
      rw [e__law_tree]
      have es : ((many : Int) - (first : Int)) = ((many - first : Nat) : Int) := by omega
      have hq : num / 4 % 3 = 0 ∨ num / 4 % 3 = 1 ∨ num / 4 % 3 = 2 := by omega
      have ek : (if num / 4 % 3 = 0 then PyData.str "plus" else if num / 4 % 3 = 1 then .str "less" else .str "times") = PyData.str (kdOf (num / 4 % 3)).str := by
        rcases hq with h | h | h <;> rw [h] <;> rfl
      simp only [bodyF, start]
      simp [ef]
      simp [treeRest, F_drawn n, e1', es, e2', fdivD, modD, at_three hq, ek, Tr.toD]
theorem F_drawn_tree (n : Nat) (num : Int) (h : 18 ≤ n) : ∃ t : Tr, F__law_drawn_tree (n + 1) [.int num] = some t.toD ∧ t.leaves ≤ 16 ∧ t.ok := by
  rw [e__law_drawn_tree]
  have hq : num / 4 % 4 = 0 ∨ num / 4 % 4 = 1 ∨ num / 4 % 4 = 2 ∨ num / 4 % 4 = 3 := by omega
  have go : ∀ many : Nat, 1 ≤ many → many ≤ 16 → ∃ t : Tr, F__law_tree n [.int (num / 64), .int many, .int (num % 4)] = some t.toD ∧ t.leaves ≤ 16 ∧ t.ok := fun many h1 h2 => by
    obtain ⟨t, a, b, c⟩ := F_tree many many (num / 64) (num % 4) n (Nat.le_refl _) h1 h2 (by omega)
    exact ⟨t, a, by omega, c⟩
  rcases hq with hq | hq | hq | hq
  · obtain ⟨t, a, b⟩ := go 16 (by decide) (by decide)
    refine ⟨t, ?_, b⟩
    have a' : F__law_tree n [.int (num / 64), .int 16, .int (num % 4)] = some t.toD := a
    simp [f__law_drawn_tree, fdivD, modD, hq, addD, a']
  · obtain ⟨t, a, b⟩ := go 8 (by decide) (by decide)
    refine ⟨t, ?_, b⟩
    have a' : F__law_tree n [.int (num / 64), .int 8, .int (num % 4)] = some t.toD := a
    simp [f__law_drawn_tree, fdivD, modD, hq, addD, a']
  · obtain ⟨t, a, b⟩ := go 4 (by decide) (by decide)
    refine ⟨t, ?_, b⟩
    have a' : F__law_tree n [.int (num / 64), .int 4, .int (num % 4)] = some t.toD := a
    simp [f__law_drawn_tree, fdivD, modD, hq, addD, a']
  · obtain ⟨t, a, b⟩ := go (1 + num / 64 % 16).toNat (by omega) (by omega)
    refine ⟨t, ?_, b⟩
    have e : (((1 + num / 64 % 16).toNat : Nat) : Int) = 1 + num / 64 % 16 := by omega
    rw [e] at a
    have h3 : at? [PyData.int 16, PyData.int 8, PyData.int 4, PyData.int (1 + num / 64 % 16)] 3 = some (.int (1 + num / 64 % 16)) := rfl
    simp [f__law_drawn_tree, fdivD, modD, hq, addD, a, h3]
theorem F_lworth_eq (n : Nat) : ∀ t : Tr, t.ok → t.leaves ≤ 16 → t.dep < n → F__law_worth n [t.toD] = some (.int t.worth) := by
  induction n with
  | zero => intro t _ _ h; omega
  | succ n ih =>
    intro t hok hl hn
    rw [e__law_worth]
    cases t with
    | num i => simp [f__law_worth, Tr.toD, Tr.worth]
    | node k l r =>
      have pl := l.leaves_pos
      have pr := r.leaves_pos
      simp only [Tr.leaves, Tr.dep] at hl hn
      have el := ih l hok.1 (by omega) (by omega)
      have er := ih r hok.2 (by omega) (by omega)
      have bl := Tr.worth_lt hok.1 (by omega)
      have br := Tr.worth_lt hok.2 (by omega)
      have hm : okMul l.worth r.worth = true := by simp [okMul, bl, br]
      cases k <;> simp [f__law_worth, Tr.toD, Tr.worth, el, er, eqD_k2 _ _ ok_times, eqD_k2 _ _ ok_less, addD, mulD, hm, Int.sub_eq_add_neg]
theorem F_lheld (n : Nat) (row : Row) (k : Int) (hl : row.length ≤ 1000) : F__law_held (n + 1) [.list (row.map osD), .int k] = some (osD (held row k)) := by
  rw [e__law_held]
  by_cases h : 0 ≤ k ∧ k < row.length
  · have hk : k.toNat < row.length := by omega
    have e1 : at? (row.map osD) k = some (osD (held row k)) := by
      simp only [at?, h.1, if_true, held, h, and_self]
      simp [hk]
    simp [f__law_held, h, e1]
  · by_cases h0 : 0 ≤ k
    · have h1 : ¬ k < row.length := fun z => h ⟨h0, z⟩
      simp [f__law_held, held, h0, h1, osD]
    · simp [f__law_held, held, h0, osD]
theorem F_lbrings (n : Nat) (t : Tr) (row shelf : Row) (d : Deed) (hr : okR row) (hs : okR shelf) (hd : d.ok) (h1 : row.length ≤ 1000) (h2 : shelf.length ≤ 1000) :
    F__law_brings (n + 2) [t.toD, .list (row.map osD), .list (shelf.map osD), d.toD] = some (osD (brings t row shelf d)) := by
  rw [e__law_brings]
  have hh : ∀ k, F__law_held (n + 1) [.list (row.map osD), .int k] = some (osD (held row k)) := fun k => F_lheld n row k h1
  have hh' : ∀ k, F__law_held (n + 1) [.list (shelf.map osD), .int k] = some (osD (held shelf k)) := fun k => F_lheld n shelf k h2
  cases d with
  | fetch p q => simp [f__law_brings, Deed.toD, eqD_fetch_fetch, hh', brings]
  | shelve p q => simp [f__law_brings, Deed.toD, eqD_shelve_fetch, eqD_shelve_shelve, hh, brings]
  | put p a =>
    have hp : F__law_part (n + 1) [t.toD, strD' a] = some (partD t a) := F_lpart n t _
    simp only [brings]
    cases ht : part t a with
    | none => simp [f__law_brings, Deed.toD, eqD_put_fetch, eqD_put_shelve, hp, partD, ht, isLeaf, osD]
    | some u =>
      cases u with
      | num i => simp [f__law_brings, Deed.toD, eqD_put_fetch, eqD_put_shelve, eqD_put_put, eqD_put_join, hp, partD, ht, isLeaf, osD, Tr.toD, neD_bool]
      | node k l r => simp [f__law_brings, Deed.toD, eqD_put_fetch, eqD_put_shelve, eqD_put_put, hp, partD, ht, isLeaf, osD, Tr.toD, neD_bool]
  | join p a o s =>
    have hp : F__law_part (n + 1) [t.toD, strD' a] = some (partD t a) := F_lpart n t _
    have ha : okA a := hd
    have al := addD_l (a := a) (by have := ha.2; omega)
    have ar := addD_r (a := a) (by have := ha.2; omega)
    have nl := neD_os (held_ok hr o) (valid_app ha.1 (fun c hc => by simp at hc; omega : valid [108]))
    have nr := neD_os (held_ok hr s) (valid_app ha.1 (fun c hc => by simp at hc; omega : valid [114]))
    simp only [brings]
    cases ht : part t a with
    | none => simp [f__law_brings, Deed.toD, eqD_join_fetch, eqD_join_shelve, hp, partD, ht, isNode, osD]
    | some u =>
      cases u with
      | num i => simp [f__law_brings, Deed.toD, eqD_join_fetch, eqD_join_shelve, eqD_join_put, hp, partD, ht, isNode, osD, Tr.toD, neD_bool]
      | node k l r =>
        by_cases c1 : held row o = some (a ++ [108])
        · have nl2 : neD (osD (held row o)) (strD' (a ++ [108])) = some (.bool false) := by rw [nl]; simp [c1]
          by_cases c2 : held row s = some (a ++ [114])
          · have nr2 : neD (osD (held row s)) (strD' (a ++ [114])) = some (.bool false) := by rw [nr]; simp [c2]
            rw [if_pos ⟨by simp [isNode], c1, c2⟩]
            simp [f__law_brings, Deed.toD, eqD_join_fetch, eqD_join_shelve, eqD_join_put, eqD_join_join, hp, partD, ht, Tr.toD, neD_bool, hh, al, ar, nl2, nr2]
            rfl
          · have nr2 : neD (osD (held row s)) (strD' (a ++ [114])) = some (.bool true) := by rw [nr]; simp [c2]
            rw [if_neg (fun z => c2 z.2.2)]
            simp [f__law_brings, Deed.toD, eqD_join_fetch, eqD_join_shelve, eqD_join_put, eqD_join_join, hp, partD, ht, Tr.toD, neD_bool, hh, al, ar, nl2, nr2]
            rfl
        · have nl2 : neD (osD (held row o)) (strD' (a ++ [108])) = some (.bool true) := by rw [nl]; simp [c1]
          rw [if_neg (fun z => c1 z.2.1)]
          simp [f__law_brings, Deed.toD, eqD_join_fetch, eqD_join_shelve, eqD_join_put, eqD_join_join, hp, partD, ht, Tr.toD, neD_bool, hh, al, ar, nl2]
          rfl
def runBody (c__law_brings : List D → Option D) : FM := (mSeq (mSet 6 (eCall c__law_brings (aCons (eVar 0) (aCons (eVar 3) (aCons (eVar 4) (aCons (eVar 5) aNil)))))) (mSeq (mPick 7 3 4 (eCall intD (aCons (eBin eqD (eBin ixD (eVar 5) (eC (.int 0))) (eC (.str "shelve"))) aNil))) (mSeq (mIf (tOr (tVal (eUn isND (eVar 6))) (tNot (tVal (eChain leD ltD (eC (.int 0)) (eBin ixD (eVar 5) (eC (.int 1))) (eCall lenD (aCons (eVar 7) aNil)))))) (mRet (eC .none)) mNil) (mPut 7 (eBin ixD (eVar 5) (eC (.int 1))) (eVar 6)))))
def runSt (t : Tr) (cd pd : D) (row shelf : Row) (x5 x6 x7 : Option D) (c7 : Option Nat) : MSt := ⟨[some t.toD, some cd, some pd, some (.list (row.map osD)), some (.list (shelf.map osD)), x5, x6, x7], [none, none, none, some 0, some 1, none, none, c7], 2⟩
theorem runTurn (n : Nat) (t : Tr) (cd pd : D) (d : Deed) (row shelf : Row) (x5 x6 x7 : Option D) (c7 : Option Nat) (hd : d.ok) (hr : okR row) (hs : okR shelf) (h1 : row.length ≤ 1000) (h2 : shelf.length ≤ 1000) :
    match lstep t row shelf d with
    | none => runBody (F__law_brings (n + 2)) ((runSt t cd pd row shelf x5 x6 x7 c7).set 5 d.toD) = some (.rt .none)
    | some (row', shelf') => ∃ y5 y6 y7 c, runBody (F__law_brings (n + 2)) ((runSt t cd pd row shelf x5 x6 x7 c7).set 5 d.toD) = some (.nx (runSt t cd pd row' shelf' y5 y6 y7 c)) := by
  have hb := F_lbrings n t row shelf d hr hs hd h1 h2
  obtain ⟨rest, hdt⟩ := deed_0 d
  have es := eqD_shelve d
  rw [hdt] at hb ⊢
  simp only [lstep]
  cases hbr : brings t row shelf d with
  | none =>
    rw [hbr] at hb
    cases hsh : d.isSh <;> rw [hsh] at es <;> simp [runBody, runSt, ev, hb, es, osD, imm]
  | some a =>
    rw [hbr] at hb
    have him : imm (strD' a) = true := imm_os (some a)
    have hb' : F__law_brings (n + 2) [t.toD, .list (row.map osD), .list (shelf.map osD), .tuple (.str d.word :: .int d.at :: rest)] = some (strD' a) := hb
    cases hsh : d.isSh
    · rw [hsh] at es
      simp only [Bool.false_eq_true, if_false]
      by_cases hk : 0 ≤ d.at ∧ d.at < row.length
      · rw [if_pos hk]
        refine ⟨some (.tuple (.str d.word :: .int d.at :: rest)), some (strD' a), some (.list ((row.set d.at.toNat (some a)).map osD)), some 0, ?_⟩
        have hx := ixN_in (n := row.length) hk
        simp [runBody, runSt, ev, hb', es, him, strD', hk, hx, ← map_set_os, imm, osD]
      · rw [if_neg hk]
        by_cases h0 : 0 ≤ d.at
        · have h1' : ¬ d.at < row.length := fun z => hk ⟨h0, z⟩
          simp [runBody, runSt, ev, hb', es, him, strD', h0, h1', imm]
        · simp [runBody, runSt, ev, hb', es, him, strD', h0, imm]
    · rw [hsh] at es
      simp only [if_true]
      by_cases hk : 0 ≤ d.at ∧ d.at < shelf.length
      · rw [if_pos hk]
        refine ⟨some (.tuple (.str d.word :: .int d.at :: rest)), some (strD' a), some (.list ((shelf.set d.at.toNat (some a)).map osD)), some 1, ?_⟩
        have hx := ixN_in (n := shelf.length) hk
        simp [runBody, runSt, ev, hb', es, him, strD', hk, hx, ← map_set_os, imm, osD]
      · rw [if_neg hk]
        by_cases h0 : 0 ≤ d.at
        · have h1' : ¬ d.at < shelf.length := fun z => hk ⟨h0, z⟩
          simp [runBody, runSt, ev, hb', es, him, strD', h0, h1', imm]
        · simp [runBody, runSt, ev, hb', es, him, strD', h0, imm]
theorem runLoop (n : Nat) (t : Tr) (cd pd : D) : ∀ (ds : List Deed) (row shelf : Row) (x5 x6 x7 : Option D) (c7 : Option Nat), (∀ d ∈ ds, d.ok) → okR row → okR shelf → row.length ≤ 1000 → shelf.length ≤ 1000 →
    match lrun t ds row shelf with
    | none => mforGo 5 (runBody (F__law_brings (n + 2))) (ds.map Deed.toD) (runSt t cd pd row shelf x5 x6 x7 c7) = some (.rt .none)
    | some row' => ∃ shelf' y5 y6 y7 c, mforGo 5 (runBody (F__law_brings (n + 2))) (ds.map Deed.toD) (runSt t cd pd row shelf x5 x6 x7 c7) = some (.nx (runSt t cd pd row' shelf' y5 y6 y7 c)) := by
  intro ds
  induction ds with
  | nil => intro row shelf x5 x6 x7 c7 _ _ _ _ _; exact ⟨shelf, x5, x6, x7, c7, rfl⟩
  | cons d r ih =>
    intro row shelf x5 x6 x7 c7 hd hr hs h1 h2
    have ht := runTurn n t cd pd d row shelf x5 x6 x7 c7 (hd d (by simp)) hr hs h1 h2
    simp only [lrun, List.map_cons, mforGo]
    cases hst : lstep t row shelf d with
    | none => rw [hst] at ht; simp only at ht ⊢; rw [ht]; rfl
    | some p =>
      obtain ⟨row', shelf'⟩ := p
      rw [hst] at ht
      simp only at ht ⊢
      obtain ⟨y5, y6, y7, c, e⟩ := ht
      rw [e]
      obtain ⟨k1, k2, k3, k4⟩ := lstep_ok (hd d (by simp)) hr hs hst
      exact ih row' shelf' y5 y6 y7 c (fun x hx => hd x (by simp [hx])) k1 k2 (by omega) (by omega)
theorem F_lrun (n : Nat) (t : Tr) (ds : List Deed) (c : D) (p : Nat) (hc : seqOf c = some (ds.map Deed.toD)) (hd : ∀ d ∈ ds, d.ok) (hp : p ≤ 1000) : F__law_run (n + 3) [t.toD, c, .int p] = some (runD (lrun t ds (start0 p) (start0 41))) := by
  rw [e__law_run]
  have e' : f__law_run (F__law_brings (n + 2)) = mSeq (mOwn 3 (gRep (gFew (aCons (eC .none) aNil)) (eVar 2))) (mSeq (mOwn 4 (gRep (gFew (aCons (eC .none) aNil)) (eC (.int 41)))) (mSeq (mFor 5 (eVar 1) (runBody (F__law_brings (n + 2)))) (mRet (eCall tupleD (aCons (eVar 3) aNil))))) := rfl
  rw [e']
  have hl := runLoop n t c (.int p) ds (start0 p) (start0 41) none none none none hd (okR_start p) (okR_start 41) (by simp [start0, hp]) (by simp [start0])
  have hp' : (p : Int) ≤ 1000 := by omega
  have a1 : mOwn 3 (gRep (gFew (aCons (eC .none) aNil)) (eVar 2)) (mstart 8 [t.toD, c, .int p]) = some (.nx ((mstart 8 [t.toD, c, .int p]).own 3 ((start0 p).map osD))) := by
    have g : gRep (gFew (aCons (eC .none) aNil)) (eVar 2) (mstart 8 [t.toD, c, .int p]).ρ = some ((start0 p).map osD) := by
      rw [← flat_none]; simp [hp, hp']
    simp only [mOwn, g, Option.bind_some, imm_start, if_true]
  have a2 : ∀ m : MSt, mOwn 4 (gRep (gFew (aCons (eC .none) aNil)) (eC (.int 41))) m = some (.nx (m.own 4 ((start0 41).map osD))) := fun m => by
    have g : gRep (gFew (aCons (eC .none) aNil)) (eC (.int 41)) m.ρ = some ((start0 41).map osD) := by
      rw [← flat_none]; rfl
    simp only [mOwn, g, Option.bind_some, imm_start, if_true]
  have a3 : mFor 5 (eVar 1) (runBody (F__law_brings (n + 2))) (runSt t c (.int p) (start0 p) (start0 41) none none none none) = mforGo 5 (runBody (F__law_brings (n + 2))) (ds.map Deed.toD) (runSt t c (.int p) (start0 p) (start0 41) none none none none) := by
    show ((some c).bind seqOf).bind _ = _
    rw [Option.bind_some, hc, Option.bind_some]
  have a4 : ((mstart 8 [t.toD, c, .int p]).own 3 ((start0 p).map osD)).own 4 ((start0 41).map osD) = runSt t c (.int p) (start0 p) (start0 41) none none none none := rfl
  show (if _ then (mSeq _ _ (mstart 8 [t.toD, c, .int p])).bind mretOf else none) = _
  rw [if_pos (by simp)]
  simp only [mSeq, a1, Option.bind_some, a2, a4, a3]
  cases hr : lrun t ds (start0 p) (start0 41) with
  | none =>
    rw [hr] at hl
    simp only at hl
    rw [hl]; rfl
  | some row' =>
    rw [hr] at hl
    obtain ⟨shelf', y5, y6, y7, c', e⟩ := hl
    rw [e]; rfl
/-- what the def does at a join, once it is known which part comes first -/
theorem work_core (cp cd cw : List D → Option D) (t u v2 : Tr) (num ix dr : Int) (a a1 a2 : List Nat) (free : List Int) (E fs ss : D) (simple lf : Bool) (C1 C2 C3 : List Deed)
    (hp : cp [t.toD, strD' a] = some u.toD) (hu : u.isL = false) (hi : indexD E (strD' a) = some (.int ix)) (hd : cd [.int num, .int ix] = some (.int dr))
    (hun : at? [PyData.tuple [.str "l", .str "r"], PyData.tuple [.str "r", .str "l"]] (dr % 2) = some (.tuple [fs, ss]))
    (h1 : addD (strD' a) fs = some (strD' a1)) (h2 : addD (strD' a) ss = some (strD' a2)) (hp2 : cp [t.toD, strD' a2] = some v2.toD) (hv : v2.isL = simple)
    (w1 : cw [t.toD, strD' a1, .list (free.map .int), .int num, E] = some (.list (C1.map Deed.toD)))
    (w2 : (decide ((free.length : Int) > 2 - (if simple then 1 else 0)) && decide (dr / 2 % 4 > 0)) = true → cw [t.toD, strD' a2, .list ((free.drop 1).map .int), .int num, E] = some (.list (C2.map Deed.toD)))
    (w3 : cw [t.toD, strD' a2, .list (free.map .int), .int num, E] = some (.list (C3.map Deed.toD)))
    (hr : eqD fs (.str "r") = some (.bool (!lf))) (f2 : 2 ≤ free.length) (l1 : C1.length ≤ 100) (l2 : C2.length ≤ 100) (l3 : C3.length ≤ 100) :
    bodyF 13 5 (f__law_work cp cd cw) [t.toD, strD' a, .list (free.map .int), .int num, E] = some (.list ((if decide ((free.length : Int) > 2 - (if simple then 1 else 0)) && decide (dr / 2 % 4 > 0)
      then C1 ++ C2 ++ [mkJoin lf (free.getD 0 0) a (free.getD 0 0) (free.getD 1 0)]
      else C1 ++ [Deed.shelve ((ix + num / 4096) % 41) (free.getD 0 0)] ++ C3 ++ [Deed.fetch (free.getD 1 0) ((ix + num / 4096) % 41)] ++ [mkJoin lf (free.getD 0 0) a (free.getD 1 0) (free.getD 0 0)]).map Deed.toD)) := by
  have g0 := getD_at0 (free := free) (by omega)
  have g1 := getD_at1 f2
  have hu' := isL_eq u
  rw [hu] at hu'
  have hv' := isL_eq v2
  rw [hv] at hv'
  have dct := drop1_cut free
  refine body_of (ρ := [some t.toD, some (strD' a), some (.list (free.map .int)), some (.int num), some E, none, none, none, none, none, none, none, none]) rfl rfl ?_
  unfold f__law_work
  refine seq_of (ρ' := [some t.toD, some (strD' a), some (.list (free.map .int)), some (.int num), some E, some u.toD, none, none, none, none, none, none, none]) (by simp [hp]) ?_
  refine seq_of (ρ' := [some t.toD, some (strD' a), some (.list (free.map .int)), some (.int num), some E, some u.toD, none, none, none, none, none, none, none]) ?_ ?_
  · cases u with
    | num i => simp [Tr.isL] at hu
    | node k l r => simp [Tr.toD]
  refine seq_of (ρ' := [some t.toD, some (strD' a), some (.list (free.map .int)), some (.int num), some E, some u.toD, some (.int dr), none, none, none, none, none, none]) (by simp [hi, hd]) ?_
  refine seq_of (ρ' := [some t.toD, some (strD' a), some (.list (free.map .int)), some (.int num), some E, some u.toD, some (.int dr), some fs, some ss, none, none, none, none]) ?_ ?_
  · simp [modD, hun]
  refine seq_of (ρ' := [some t.toD, some (strD' a), some (.list (free.map .int)), some (.int num), some E, some u.toD, some (.int dr), some fs, some ss, some (.bool simple), none, none, none]) ?_ ?_
  · subst hv
    cases v2 with
    | num i => simp [h2, hp2, Tr.toD, Tr.isL]
    | node k l r => simp [h2, hp2, Tr.toD, Tr.isL]
  refine seq_of (ρ' := [some t.toD, some (strD' a), some (.list (free.map .int)), some (.int num), some E, some u.toD, some (.int dr), some fs, some ss, some (.bool simple), some (.list (C1.map Deed.toD)), none, none]) (by simp [h1, w1]) ?_
  have jn : ∀ (C : List Deed) (x y : Int) (x12 : Option D), C.length ≤ 400 → sSeq (sIf (tVal (eBin eqD (eVar 7) (eC (.str "r")))) (sSet 11 (eUn revD (eVar 11))) sNil) (sRet (eBin addD (eVar 10) (eLst (aCons (eTup (aCons (eC (.str "join")) (aCons (eBin ixD (eVar 2) (eC (.int 0))) (aCons (eVar 1) (aCons (eBin ixD (eVar 11) (eC (.int 0))) (aCons (eBin ixD (eVar 11) (eC (.int 1))) aNil)))))) aNil)))) [some t.toD, some (strD' a), some (.list (free.map .int)), some (.int num), some E, some u.toD, some (.int dr), some fs, some ss, some (.bool simple), some (.list (C.map Deed.toD)), some (.tuple [.int x, .int y]), x12] = some (.rt (.list ((C ++ [mkJoin lf (free.getD 0 0) a x y]).map Deed.toD))) := fun C x y x12 hC => by
    have ad : ∀ z : D, addD (.list (C.map Deed.toD)) (.list [z]) = some (.list (C.map Deed.toD ++ [z])) := fun z => addD_list (by simp; omega)
    cases lf with
    | true => simp [hr, g0, ad, mkJoin, Deed.toD]
    | false => simp [hr, g0, ad, mkJoin, Deed.toD]
  cases hin : (decide ((free.length : Int) > 2 - (if simple then 1 else 0)) && decide (dr / 2 % 4 > 0)) with
  | true =>
    have w2' := w2 hin
    have ad := addD_list (xs := C1.map Deed.toD) (ys := C2.map Deed.toD) (by simp only [List.length_map]; omega)
    simp only [Bool.and_eq_true, decide_eq_true_eq] at hin
    refine seq_of (ρ' := [some t.toD, some (strD' a), some (.list (free.map .int)), some (.int num), some E, some u.toD, some (.int dr), some fs, some ss, some (.bool simple), some (.list ((C1 ++ C2).map Deed.toD)), some (.tuple [.int (free.getD 0 0), .int (free.getD 1 0)]), none]) ?_ ?_
    · have c1 : (2 : Int) - (if simple = true then 1 else 0) < free.length := hin.1
      have c2 : 0 < dr / 2 % 4 := hin.2
      rw [List.map_drop] at w2'
      simp [-List.drop_one, fdivD, modD, c1, c2, h2, w2', ad, g0, g1, dct]
    · rw [jn _ _ _ _ (by simp only [List.length_append]; omega)]; simp
  | false =>
    have ad1 : ∀ z : D, addD (.list (C1.map Deed.toD)) (.list [z]) = some (.list (C1.map Deed.toD ++ [z])) := fun z => addD_list (by simp; omega)
    have ad2 : ∀ z : D, addD (.list (C1.map Deed.toD ++ [z])) (.list (C3.map Deed.toD)) = some (.list (C1.map Deed.toD ++ [z] ++ C3.map Deed.toD)) := fun z => addD_list (by simp; omega)
    have ad3 : ∀ z y : D, addD (.list (C1.map Deed.toD ++ z :: C3.map Deed.toD)) (.list [y]) = some (.list (C1.map Deed.toD ++ z :: C3.map Deed.toD ++ [y])) := fun z y => addD_list (by simp; omega)
    refine seq_of (ρ' := [some t.toD, some (strD' a), some (.list (free.map .int)), some (.int num), some E, some u.toD, some (.int dr), some fs, some ss, some (.bool simple), some (.list ((C1 ++ [Deed.shelve ((ix + num / 4096) % 41) (free.getD 0 0)] ++ C3 ++ [Deed.fetch (free.getD 1 0) ((ix + num / 4096) % 41)]).map Deed.toD)), some (.tuple [.int (free.getD 1 0), .int (free.getD 0 0)]), some (.int ((ix + num / 4096) % 41))]) ?_ ?_
    · have key : (tAnd (tVal (eBin gtD (eCall lenD (aCons (eVar 2) aNil)) (eBin subD (eC (.int 2)) (eCall intD (aCons (eVar 9) aNil))))) (tVal (eBin gtD (eBin modD (eBin fdivD (eVar 6) (eC (.int 2))) (eC (.int 4))) (eC (.int 0))))) [some t.toD, some (strD' a), some (.list (free.map .int)), some (.int num), some E, some u.toD, some (.int dr), some fs, some ss, some (.bool simple), some (.list (C1.map Deed.toD)), none, none] = some false := by
        by_cases c1 : (2 : Int) - (if simple = true then 1 else 0) < free.length
        · have c2 : ¬ 0 < dr / 2 % 4 := fun z => by
            have : (decide ((free.length : Int) > 2 - (if simple then 1 else 0)) && decide (dr / 2 % 4 > 0)) = true := by
              simp only [Bool.and_eq_true, decide_eq_true_eq]; exact ⟨c1, z⟩
            rw [hin] at this; cases this
          simp [fdivD, modD, c1, c2]
        · simp [c1]
      simp only [sIf, key, Option.bind_some, Bool.false_eq_true, if_false]
      simp [fdivD, modD, hi, h2, w3, g0, g1, ad1, ad2, ad3, addD_int, Deed.toD]
    · rw [jn _ _ _ _ (by simp only [List.length_append, List.length_cons, List.length_nil]; omega)]; simp
theorem F_lwork (t : Tr) (num : Int) (every : List (List Nat)) : ∀ (u : Tr) (n : Nat) (a : List Nat) (free : List Int), part t a = some u → u.dep + 2 ≤ n → u.leaves ≤ 16 → a.length + u.dep ≤ 200 → (∀ b c, part t b = some c → b ∈ every) → okFr u free → free.length ≤ 100 →
    F__law_work n [t.toD, strD' a, .list (free.map .int), .int num, .list (every.map strD')] = some (.list ((lwork num every u a free).map Deed.toD))
  | .num i, n, a, free, hp, hn, hle, hl, hev, hf, hfl => by
    obtain ⟨n, rfl⟩ : ∃ m, n = m + 2 := ⟨n - 2, by simp [Tr.dep] at hn; omega⟩
    have e1 : F__law_part (n + 1) [t.toD, strD' a] = some (Tr.num i).toD := by
      have := F_lpart n t ⟨a.toArray⟩
      simp only [partD] at this
      rw [hp] at this; exact this
    rw [e__law_work]
    have h0 := getD_at0 hf.1
    simp [f__law_work, e1, Tr.toD, lwork, h0, Deed.toD]
  | .node k l r, n, a, free, hp, hn, hle, hl, hev, hf, hfl => by
    simp only [Tr.dep, Tr.leaves] at hn hle hl
    obtain ⟨n, rfl⟩ : ∃ m, n = m + 2 := ⟨n - 2, by omega⟩
    obtain ⟨pl, pr⟩ := part_app t a k l r hp
    have lp := l.leaves_pos
    have rp := r.leaves_pos
    have lpart : ∀ (b : List Nat) (c : Tr), part t b = some c → F__law_part (n + 1) [t.toD, strD' b] = some c.toD := fun b c h => by
      have := F_lpart n t ⟨b.toArray⟩
      simp only [partD] at this
      rw [h] at this; exact this
    have e1 := lpart a _ hp
    have el := lpart _ _ pl
    have er := lpart _ _ pr
    have hi := indexD_map (hev a _ hp)
    have hd : F__law_drawn (n + 1) [.int num, .int (idxN a every : Nat)] = some (.int (drawn num (idxN a every : Nat))) := F_drawn n num _
    have f2 : 2 ≤ free.length := hf.2 rfl
    have h0 := getD_at0 (free := free) (by omega)
    have h1 := getD_at1 f2
    have al := addD_l (a := a) (by omega)
    have ar := addD_r (a := a) (by omega)
    have hil := isL_eq l
    have hir := isL_eq r
    have W : ∀ (b : List Nat) (v : Tr) (fr : List Int), part t b = some v → v.dep + 2 ≤ n + 1 → v.leaves ≤ 16 → b.length + v.dep ≤ 200 → okFr v fr → fr.length ≤ 100 → (v = l ∨ v = r) → F__law_work (n + 1) [t.toD, strD' b, .list (fr.map .int), .int num, .list (every.map strD')] = some (.list ((lwork num every v b fr).map Deed.toD)) := fun b v fr q1 q2 q3 q4 q5 q6 q7 => by
      rcases q7 with rfl | rfl
      · exact F_lwork t num every v (n + 1) b fr q1 q2 q3 q4 hev q5 q6
      · exact F_lwork t num every v (n + 1) b fr q1 q2 q3 q4 hev q5 q6
    have wl : ∀ fr, okFr l fr → fr.length ≤ 100 → F__law_work (n + 1) [t.toD, strD' (a ++ [108]), .list (fr.map .int), .int num, .list (every.map strD')] = some (.list ((lwork num every l (a ++ [108]) fr).map Deed.toD)) := fun fr o1 o2 => W _ l fr pl (by omega) (by omega) (by simp; omega) o1 o2 (.inl rfl)
    have wr : ∀ fr, okFr r fr → fr.length ≤ 100 → F__law_work (n + 1) [t.toD, strD' (a ++ [114]), .list (fr.map .int), .int num, .list (every.map strD')] = some (.list ((lwork num every r (a ++ [114]) fr).map Deed.toD)) := fun fr o1 o2 => W _ r fr pr (by omega) (by omega) (by simp; omega) o1 o2 (.inr rfl)
    have okl : okFr l free := ⟨by omega, fun _ => f2⟩
    have okr : okFr r free := ⟨by omega, fun _ => f2⟩
    have ll := lwork_len num every l (a ++ [108])
    have lr := lwork_len num every r (a ++ [114])
    rw [e__law_work]
    have dc : ∀ {simple : Bool} {v : Tr}, v.isL = simple → lwIn num every a free simple = true → okFr v (free.drop 1) := fun {simple v} hv hin => by
      simp only [lwIn, Bool.and_eq_true, decide_eq_true_eq] at hin
      refine ⟨by simp; omega, fun h => ?_⟩
      rw [h] at hv
      subst hv
      simp at hin ⊢
      omega
    have ld : (free.drop 1).length ≤ 100 := by simp; omega
    simp only [lwork]
    rcases half_cases (drawn num (idxN a every : Nat)) with h2 | h2
    · rw [if_pos h2]
      exact work_core (F__law_part (n + 1)) (F__law_drawn (n + 1)) (F__law_work (n + 1)) t (.node k l r) r num _ _ a (a ++ [108]) (a ++ [114]) free _ (.str "l") (.str "r") r.isL true _ _ _ e1 rfl hi hd (by rw [h2]; rfl) al ar er rfl (wl free okl hfl)
        (fun hin => wr (free.drop 1) (dc rfl hin) ld) (wr free okr hfl) eqD_lr f2 (by have := ll free; omega) (by have := lr (free.drop 1); omega) (by have := lr free; omega)
    · rw [if_neg (by omega)]
      exact work_core (F__law_part (n + 1)) (F__law_drawn (n + 1)) (F__law_work (n + 1)) t (.node k l r) l num _ _ a (a ++ [114]) (a ++ [108]) free _ (.str "r") (.str "l") l.isL false _ _ _ e1 rfl hi hd (by rw [h2]; rfl) ar al el rfl (wr free okr hfl)
        (fun hin => wl (free.drop 1) (dc rfl hin) ld) (wl free okl hfl) eqD_rr f2 (by have := lr free; omega) (by have := ll (free.drop 1); omega) (by have := ll free; omega)
theorem F_lcode (n : Nat) (t : Tr) (num : Int) (p : Nat) (hn : t.dep + 2 ≤ n) (hl : t.leaves ≤ 16) (hp : 2 ≤ p) (hp' : p ≤ 100) : F__law_code (n + 1) [t.toD, .int num, .int p] = some (.list ((lcode t num p).map Deed.toD)) := by
  have dl := t.dep_lt
  have ea : F__law_addresses n [t.toD, strD' []] = some (.list ((addrs t []).map strD')) := F_addrs n t [] (by omega) (by omega) (by simp; omega)
  have hev : ∀ b c, part t b = some c → b ∈ addrs t [] := fun b c h => by simpa using addrs_all t b c [] h
  have fl : (freeOf p).length = p := by simp [freeOf]
  have e2 : F__law_work n [t.toD, strD' [], .list ((freeOf p).map .int), .int num, .list ((addrs t []).map strD')] = some (.list ((lwork num (addrs t []) t [] (freeOf p)).map Deed.toD)) :=
    F_lwork t num (addrs t []) t n [] (freeOf p) (by cases t <;> rfl) hn hl (by simp; omega) hev ⟨by omega, fun _ => by omega⟩ (by omega)
  obtain ⟨b, hb, hm⟩ := drawn_at (t := t) num
  obtain ⟨u, hu, h1, h2, h3⟩ := addrs_mem hm
  have e1 : F__law_work n [t.toD, strD' b, .list ((freeOf p).map .int), .int (num / 64), .list ((addrs t []).map strD')] = some (.list ((lwork (num / 64) (addrs t []) u b (freeOf p)).map Deed.toD)) :=
    F_lwork t (num / 64) (addrs t []) u n b (freeOf p) hu (by omega) (by omega) (by omega) hev ⟨by omega, fun _ => by omega⟩ (by omega)
  have se : (PyData.str "" : D) = strD' [] := by rw [s_e]; rfl
  have lr : (eListRng (eVar 2)) = fun ρ => (((eVar 2) ρ).bind intOf).bind fun j => if -1000 ≤ j ∧ j ≤ 1000 then some (.list ((freeOf j.toNat).map .int)) else none := by
    funext ρ; simp only [eListRng, rng_free]
  have pp : (-1000 : Int) ≤ (p : Int) ∧ (p : Int) ≤ 1000 := by omega
  have pl : 0 < (addrs t []).length := by have := addrs_len t []; have := t.leaves_pos; omega
  have l1 := lwork_len (num / 64) (addrs t []) u b (freeOf p)
  have l2 := lwork_len num (addrs t []) t [] (freeOf p)
  have at1 : at? ((addrs t []).map strD') (num / 3 % (addrs t []).length) = some (strD' b) := by
    have h1 := Int.emod_nonneg (num / 3) (b := ((addrs t []).length : Int)) (by omega)
    simp [at?, h1, hb]
  rw [e__law_code]
  refine body_of (ρ := [some t.toD, some (.int num), some (.int p), none, none, none]) rfl rfl ?_
  unfold f__law_code
  rw [lr]
  refine seq_of (ρ' := [some t.toD, some (.int num), some (.int p), some (.list ((addrs t []).map strD')), none, none]) (by simp [se, ea]) ?_
  refine seq_of (ρ' := [some t.toD, some (.int num), some (.int p), some (.list ((addrs t []).map strD')), some (.list []), none]) (by simp) ?_
  have rest : ∀ (C : List Deed) (x : Option D), C.length ≤ 400 → sRet (eBin addD (eVar 4) (eCall (F__law_work n) (aCons (eVar 0) (aCons (eC (.str "")) (aCons (fun ρ => (((eVar 2) ρ).bind intOf).bind fun j => if -1000 ≤ j ∧ j ≤ 1000 then some (.list ((freeOf j.toNat).map .int)) else none) (aCons (eVar 1) (aCons (eVar 3) aNil)))))))
      [some t.toD, some (.int num), some (.int p), some (.list ((addrs t []).map strD')), some (.list (C.map Deed.toD)), x] = some (.rt (.list ((C ++ lwork num (addrs t []) t [] (freeOf p)).map Deed.toD))) := fun C x hC => by
    have ad := addD_list (xs := C.map Deed.toD) (ys := (lwork num (addrs t []) t [] (freeOf p)).map Deed.toD) (by simp only [List.length_map]; omega)
    simp [se, pp, e2, ad]
  by_cases h3' : num % 3 = 1
  · refine seq_of (ρ' := [some t.toD, some (.int num), some (.int p), some (.list ((addrs t []).map strD')), some (.list ((lwork (num / 64) (addrs t []) u b (freeOf p)).map Deed.toD)), some (strD' b)]) ?_ ?_
    · simp [fdivD, modD, h3', pl, at1, pp, e1]
    · rw [rest _ _ (by omega)]
      simp only [lcode, if_pos h3', hb, Option.getD_some, sub_of hu]
  · refine seq_of (ρ' := [some t.toD, some (.int num), some (.int p), some (.list ((addrs t []).map strD')), some (.list (([] : List Deed).map Deed.toD)), none]) ?_ ?_
    · simp [modD, h3']
    · rw [rest _ _ (by simp)]
      simp only [lcode, if_neg h3']
theorem F_lchanged (n : Nat) (C : List Deed) (num : Int) (K : Nat) (hC : C ≠ []) (hl : C.length ≤ 400) (hK : K ≤ 150) (hk : ∀ d ∈ C, d.okN K) :
    ∃ C' : List Deed, F__law_changed (n + 1) [.list (C.map Deed.toD), .int num] = some (.list (C'.map Deed.toD)) ∧ (∀ d ∈ C', d.okN (K + 1)) ∧ C'.length ≤ C.length + 1 := by
  have hlen : 0 < C.length := by cases C with | nil => exact absurd rfl hC | cons _ _ => simp
  obtain ⟨w, hw⟩ : ∃ w : Int, w = num / 8 % C.length := ⟨_, rfl⟩
  have w0 : 0 ≤ w := by rw [hw]; exact Int.emod_nonneg _ (by omega)
  have w1 : w < C.length := by rw [hw]; exact Int.emod_lt_of_pos _ (by omega)
  have wn : w.toNat < C.length := by omega
  obtain ⟨d, hd⟩ : ∃ d, C[w.toNat]? = some d := ⟨C[w.toNat], by simp [wn]⟩
  have dm : d ∈ C := List.mem_of_getElem? hd
  have dk := hk d dm
  have up : ∀ d ∈ C, d.okN (K + 1) := fun d h => Deed.okN_mono (by omega) (hk d h)
  have atd : at? (C.map Deed.toD) w = some d.toD := by simp [at?, w0, hd]
  have ct := map_cut_take C w0
  have ct1 := map_cut_take C (k := w + 1) (by omega)
  have cd := map_cut_drop C w0
  have cd1 := map_cut_drop C (k := w + 1) (by omega)
  have cd2 := map_cut_drop C (k := w + 2) (by omega)
  have co := map_cut_one C w0
  have lm : (C.map Deed.toD).length = C.length := by simp
  rw [e__law_changed]
  by_cases k0 : num % 8 = 0
  · refine ⟨C.take w.toNat ++ C.drop (w + 1).toNat, ?_, fun d h => up d (take_drop_mem h), by simp; omega⟩
    have ad := addD_list (xs := (C.take w.toNat).map Deed.toD) (ys := (C.drop (w + 1).toNat).map Deed.toD) (by simp; omega)
    refine body_of (ρ := [some (.list (C.map Deed.toD)), some (.int num), none, none, none, none, none, none, none, none]) rfl rfl ?_
    unfold f__law_changed
    refine seq_of (ρ' := [some (.list (C.map Deed.toD)), some (.int num), some (.int w), none, none, none, none, none, none, none]) (by simp [fdivD, modD, hlen, ← hw]) ?_
    refine seq_of (ρ' := [some (.list (C.map Deed.toD)), some (.int num), some (.int w), some d.toD, none, none, none, none, none, none]) (by simp [atd]) ?_
    refine seq_of (ρ' := [some (.list (C.map Deed.toD)), some (.int num), some (.int w), some d.toD, some (.int (num % 8)), none, none, none, none, none]) (by simp [modD]) ?_
    refine seq_rt ?_
    have t0 : (tVal (eBin eqD (eVar 4) (eC (.int 0)))) [some (.list (C.map Deed.toD)), some (.int num), some (.int w), some d.toD, some (.int (num % 8)), none, none, none, none, none] = some true := by simp [k0]
    simp only [sIf, t0, Option.bind_some, if_true]
    show ((((sliceD (.list (C.map Deed.toD)) none (some w))).bind fun x => ((sliceD (.list (C.map Deed.toD)) (some (w + 1)) none)).bind fun y => addD x y).bind _) = _
    simp only [sliceD, ct, cd1, Option.bind_some, ad, List.map_append]
  by_cases k1 : num % 8 = 1
  · refine ⟨C.take (w + 1).toNat ++ C.drop w.toNat, ?_, fun d h => up d (take_drop_mem h), by simp; omega⟩
    have ad := addD_list (xs := (C.take (w + 1).toNat).map Deed.toD) (ys := (C.drop w.toNat).map Deed.toD) (by simp; omega)
    refine body_of (ρ := [some (.list (C.map Deed.toD)), some (.int num), none, none, none, none, none, none, none, none]) rfl rfl ?_
    unfold f__law_changed
    refine seq_of (ρ' := [some (.list (C.map Deed.toD)), some (.int num), some (.int w), none, none, none, none, none, none, none]) (by simp [fdivD, modD, hlen, ← hw]) ?_
    refine seq_of (ρ' := [some (.list (C.map Deed.toD)), some (.int num), some (.int w), some d.toD, none, none, none, none, none, none]) (by simp [atd]) ?_
    refine seq_of (ρ' := [some (.list (C.map Deed.toD)), some (.int num), some (.int w), some d.toD, some (.int (num % 8)), none, none, none, none, none]) (by simp [modD]) ?_
    refine seq_of (ρ' := [some (.list (C.map Deed.toD)), some (.int num), some (.int w), some d.toD, some (.int (num % 8)), none, none, none, none, none]) (by simp [k0]) ?_
    refine seq_rt ?_
    have t1 : (tVal (eBin eqD (eVar 4) (eC (.int 1)))) [some (.list (C.map Deed.toD)), some (.int num), some (.int w), some d.toD, some (.int (num % 8)), none, none, none, none, none] = some true := by simp [k1]
    simp only [sIf, t1, Option.bind_some, if_true]
    show ((((sliceD (.list (C.map Deed.toD)) none (some (w + 1)))).bind fun x => ((sliceD (.list (C.map Deed.toD)) (some w) none)).bind fun y => addD x y).bind _) = _
    simp only [sliceD, ct1, cd, Option.bind_some, ad, List.map_append]
  by_cases k2 : num % 8 = 2
  · refine ⟨C.take w.toNat ++ ((C.drop (w.toNat + 1)).take 1 ++ [d]) ++ C.drop (w + 2).toNat, ?_, fun x h => ?_, by simp; omega⟩
    · have ad1 : addD (.list (((C.drop (w.toNat + 1)).take 1).map Deed.toD)) (.list [d.toD]) = some (.list (((C.drop (w.toNat + 1)).take 1 ++ [d]).map Deed.toD)) := by
        rw [addD_list (by simp; omega)]; simp
      have ad2 : addD (.list ((C.take w.toNat).map Deed.toD)) (.list (((C.drop (w.toNat + 1)).take 1 ++ [d]).map Deed.toD)) = some (.list ((C.take w.toNat ++ ((C.drop (w.toNat + 1)).take 1 ++ [d])).map Deed.toD)) := by
        rw [addD_list (by simp; omega)]; simp
      have ad3 : addD (.list ((C.take w.toNat ++ ((C.drop (w.toNat + 1)).take 1 ++ [d])).map Deed.toD)) (.list ((C.drop (w + 2).toNat).map Deed.toD)) = some (.list ((C.take w.toNat ++ ((C.drop (w.toNat + 1)).take 1 ++ [d]) ++ C.drop (w + 2).toNat).map Deed.toD)) := by
        rw [addD_list (by simp; omega)]; simp
      refine body_of (ρ := [some (.list (C.map Deed.toD)), some (.int num), none, none, none, none, none, none, none, none]) rfl rfl ?_
      unfold f__law_changed
      refine seq_of (ρ' := [some (.list (C.map Deed.toD)), some (.int num), some (.int w), none, none, none, none, none, none, none]) (by simp [fdivD, modD, hlen, ← hw]) ?_
      refine seq_of (ρ' := [some (.list (C.map Deed.toD)), some (.int num), some (.int w), some d.toD, none, none, none, none, none, none]) (by simp [atd]) ?_
      refine seq_of (ρ' := [some (.list (C.map Deed.toD)), some (.int num), some (.int w), some d.toD, some (.int (num % 8)), none, none, none, none, none]) (by simp [modD]) ?_
      refine seq_of (ρ' := [some (.list (C.map Deed.toD)), some (.int num), some (.int w), some d.toD, some (.int (num % 8)), none, none, none, none, none]) (by simp [k0]) ?_
      refine seq_of (ρ' := [some (.list (C.map Deed.toD)), some (.int num), some (.int w), some d.toD, some (.int (num % 8)), none, none, none, none, none]) (by simp [k1]) ?_
      refine seq_rt ?_
      have t2 : (tVal (eBin eqD (eVar 4) (eC (.int 2)))) [some (.list (C.map Deed.toD)), some (.int num), some (.int w), some d.toD, some (.int (num % 8)), none, none, none, none, none] = some true := by simp [k2]
      simp only [sIf, t2, Option.bind_some, if_true]
      refine seq_of (ρ' := [some (.list (C.map Deed.toD)), some (.int num), some (.int w), some d.toD, some (.int (num % 8)), some (.list (((C.drop (w.toNat + 1)).take 1 ++ [d]).map Deed.toD)), none, none, none, none]) ?_ ?_
      · show (((((sliceD (.list (C.map Deed.toD)) (some (w + 1)) (some (w + 2)))).bind fun x => addD x (.list [d.toD]))).bind fun d => _) = _
        simp only [sliceD, co, Option.bind_some, ad1]; rfl
      · show ((((((sliceD (.list (C.map Deed.toD)) none (some w))).bind fun x => addD x _)).bind fun x => ((sliceD (.list (C.map Deed.toD)) (some (w + 2)) none)).bind fun y => addD x y).bind _) = _
        simp only [sliceD, ct, cd2, Option.bind_some, ad2, ad3]
    · refine up x ?_
      simp only [List.mem_append, List.mem_singleton] at h
      rcases h with (h | h | h) | h
      · exact List.mem_of_mem_take h
      · exact List.mem_of_mem_drop (List.mem_of_mem_take h)
      · subst h; exact dm
      · exact List.mem_of_mem_drop h
  obtain ⟨xs, hx, x3, x5⟩ := deed_tup d
  obtain ⟨i, hi⟩ : ∃ i : Int, i = 1 + num / 800 % ((xs.length : Int) - 1) := ⟨_, rfl⟩
  have i1 : 1 ≤ i := by rw [hi]; have := Int.emod_nonneg (num / 800) (b := (xs.length : Int) - 1) (by omega); omega
  have i2 : i < xs.length := by rw [hi]; have := Int.emod_lt_of_pos (num / 800) (b := (xs.length : Int) - 1) (by omega); omega
  obtain ⟨x, hx8⟩ : ∃ x : Int, at? [(.int 0 : D), .int 1, .int 7, .int 8, .int 40, .int 41, .int (-1), .int 2] (num / 4000 % 8) = some (.int x) := by
    obtain ⟨z, hz, e⟩ := at_mem (xs := [(.int 0 : D), .int 1, .int 7, .int 8, .int 40, .int 41, .int (-1), .int 2]) (i := num / 4000 % 8) (by omega) (by simp; omega)
    simp only [List.mem_cons, List.not_mem_nil, or_false] at hz
    rcases hz with rfl | rfl | rfl | rfl | rfl | rfl | rfl | rfl <;> exact ⟨_, e⟩
  have fin : ∀ (d' : Deed) (x6 x7 x8 : Option D), sRet (eBin addD (eBin addD (eSlice (eVar 0) oNone (oSome (eVar 2))) (eLst (aCons (eVar 9) aNil))) (eSlice (eVar 0) (oSome (eBin addD (eVar 2) (eC (.int 1)))) oNone)) [some (.list (C.map Deed.toD)), some (.int num), some (.int w), some d.toD, some (.int (num % 8)), none, x6, x7, x8, some d'.toD] = some (.rt (.list ((C.take w.toNat ++ [d'] ++ C.drop (w + 1).toNat).map Deed.toD))) := fun d' x6 x7 x8 => by
    have ad1 : addD (.list ((C.take w.toNat).map Deed.toD)) (.list [d'.toD]) = some (.list ((C.take w.toNat ++ [d']).map Deed.toD)) := by
      rw [addD_list (by simp; omega)]; simp
    have ad2 : addD (.list ((C.take w.toNat ++ [d']).map Deed.toD)) (.list ((C.drop (w + 1).toNat).map Deed.toD)) = some (.list ((C.take w.toNat ++ [d'] ++ C.drop (w + 1).toNat).map Deed.toD)) := by
      rw [addD_list (by simp; omega)]; simp
    show ((((((sliceD (.list (C.map Deed.toD)) none (some w))).bind fun x => addD x (.list [d'.toD]))).bind fun x => ((sliceD (.list (C.map Deed.toD)) (some (w + 1)) none)).bind fun y => addD x y).bind _) = _
    simp only [sliceD, ct, cd1, Option.bind_some, ad1, ad2]
  have done : ∀ (d' : Deed), d'.okN (K + 1) → (∀ x ∈ C.take w.toNat ++ [d'] ++ C.drop (w + 1).toNat, x.okN (K + 1)) ∧ (C.take w.toNat ++ [d'] ++ C.drop (w + 1).toNat).length ≤ C.length + 1 := fun d' h' => by
    refine ⟨fun y hy => ?_, by simp; omega⟩
    simp only [List.mem_append, List.mem_singleton] at hy
    rcases hy with (hy | hy) | hy
    · exact up y (List.mem_of_mem_take hy)
    · subst hy; exact h'
    · exact up y (List.mem_of_mem_drop hy)
  have new9 : ∀ (z : D) (x8 : Option D), sSet 9 (eBin addD (eBin addD (eSlice (eVar 3) oNone (oSome (eVar 6))) (eTup (aCons (eVar 7) aNil))) (eSlice (eVar 3) (oSome (eBin addD (eVar 6) (eC (.int 1)))) oNone)) [some (.list (C.map Deed.toD)), some (.int num), some (.int w), some d.toD, some (.int (num % 8)), none, some (.int i), some z, x8, none] = some (.nx [some (.list (C.map Deed.toD)), some (.int num), some (.int w), some d.toD, some (.int (num % 8)), none, some (.int i), some z, x8, some (.tuple (cut xs none (some i) ++ [z] ++ cut xs (some (i + 1)) none))]) := fun z x8 => by
    have l1 := cut_len xs none (some i)
    have l2 := cut_len xs (some (i + 1)) none
    have ad1 := addD_tup (xs := cut xs none (some i)) (ys := [z]) (by simp; omega)
    have ad2 := addD_tup (xs := cut xs none (some i) ++ [z]) (ys := cut xs (some (i + 1)) none) (by simp; omega)
    rw [hx]
    show ((((((sliceD (.tuple xs) none (some i))).bind fun x => addD x (.tuple [z]))).bind fun x => ((sliceD (.tuple xs) (some (i + 1)) none)).bind fun y => addD x y).bind _) = _
    simp only [sliceD, Option.bind_some, ad1, ad2]
    rfl
  have c6 : sSet 6 (eBin addD (eC (.int 1)) (eBin modD (eBin fdivD (eVar 1) (eC (.int 800))) (eBin subD (eCall lenD (aCons (eVar 3) aNil)) (eC (.int 1))))) [some (.list (C.map Deed.toD)), some (.int num), some (.int w), some d.toD, some (.int (num % 8)), none, none, none, none, none] = some (.nx [some (.list (C.map Deed.toD)), some (.int num), some (.int w), some d.toD, some (.int (num % 8)), none, some (.int i), none, none, none]) := by
    have h1 : (1 : Int) < xs.length := by omega
    rw [hx]
    simp [fdivD, modD, h1, addD_int, ← hi]
  have c7 : sSet 7 (eBin ixD (eLst (aCons (eC (.int 0)) (aCons (eC (.int 1)) (aCons (eC (.int 7)) (aCons (eC (.int 8)) (aCons (eC (.int 40)) (aCons (eC (.int 41)) (aCons (eUn negD (eC (.int 1))) (aCons (eC (.int 2)) aNil))))))))) (eBin modD (eBin fdivD (eVar 1) (eC (.int 4000))) (eC (.int 8)))) [some (.list (C.map Deed.toD)), some (.int num), some (.int w), some d.toD, some (.int (num % 8)), none, some (.int i), none, none, none] = some (.nx [some (.list (C.map Deed.toD)), some (.int num), some (.int w), some d.toD, some (.int (num % 8)), none, some (.int i), some (.int x), none, none]) := by
    simp [fdivD, modD, hx8]
  rcases new_deed d K dk hK i x i1 (by rw [hx]; exact i2) with ⟨z, ez, d', hd', he⟩ | ⟨a, ea, va, la, hb⟩
  · refine ⟨_, ?_, done d' hd'⟩
    refine body_of (ρ := [some (.list (C.map Deed.toD)), some (.int num), none, none, none, none, none, none, none, none]) rfl rfl ?_
    unfold f__law_changed
    refine seq_of (ρ' := [some (.list (C.map Deed.toD)), some (.int num), some (.int w), none, none, none, none, none, none, none]) (by simp [fdivD, modD, hlen, ← hw]) ?_
    refine seq_of (ρ' := [some (.list (C.map Deed.toD)), some (.int num), some (.int w), some d.toD, none, none, none, none, none, none]) (by simp [atd]) ?_
    refine seq_of (ρ' := [some (.list (C.map Deed.toD)), some (.int num), some (.int w), some d.toD, some (.int (num % 8)), none, none, none, none, none]) (by simp [modD]) ?_
    refine seq_of (ρ' := [some (.list (C.map Deed.toD)), some (.int num), some (.int w), some d.toD, some (.int (num % 8)), none, none, none, none, none]) (by simp [k0]) ?_
    refine seq_of (ρ' := [some (.list (C.map Deed.toD)), some (.int num), some (.int w), some d.toD, some (.int (num % 8)), none, none, none, none, none]) (by simp [k1]) ?_
    refine seq_of (ρ' := [some (.list (C.map Deed.toD)), some (.int num), some (.int w), some d.toD, some (.int (num % 8)), none, none, none, none, none]) (by simp [k2]) ?_
    refine seq_of c6 (seq_of c7 ?_)
    refine seq_of (ρ' := [some (.list (C.map Deed.toD)), some (.int num), some (.int w), some d.toD, some (.int (num % 8)), none, some (.int i), some (.int x), some (.int z), none]) ?_ ?_
    · show ((ixD d.toD (.int i)).bind _) = _
      rw [ez]; rfl
    refine seq_of (ρ' := [some (.list (C.map Deed.toD)), some (.int num), some (.int w), some d.toD, some (.int (num % 8)), none, some (.int i), some (.int x), some (.int z), none]) (by simp) ?_
    refine seq_of (new9 _ _) ?_
    rw [he xs hx]
    exact fin d' _ _ _
  · obtain ⟨b, vb, lb, e6⟩ : ∃ b, valid b ∧ b.length ≤ K + 1 ∧ at? [(.str "" : D), .str "l", .str "r", strD' (a ++ [108]), strD' a.dropLast, .str "x"] (num / 4000 % 6) = some (strD' b) := by
      obtain ⟨z, hz, e⟩ := at_mem (xs := [(.str "" : D), .str "l", .str "r", strD' (a ++ [108]), strD' a.dropLast, .str "x"]) (i := num / 4000 % 6) (by omega) (by simp; omega)
      have sx : ("x" : Str) = ⟨#[120]⟩ := by decide +kernel
      simp only [List.mem_cons, List.not_mem_nil, or_false] at hz
      rcases hz with rfl | rfl | rfl | rfl | rfl | rfl
      · exact ⟨[], fun c hc => (nomatch hc), by simp, by rw [e, s_e]; rfl⟩
      · exact ⟨[108], fun c hc => by simp at hc; omega, by simp, by rw [e, s_l]; rfl⟩
      · exact ⟨[114], fun c hc => by simp at hc; omega, by simp, by rw [e, s_r]; rfl⟩
      · exact ⟨a ++ [108], valid_app va (fun c hc => by simp at hc; omega), by simp; omega, e⟩
      · exact ⟨a.dropLast, fun c hc => va c ((List.dropLast_sublist a).subset hc), by simp; omega, e⟩
      · exact ⟨[120], fun c hc => by simp at hc; omega, by simp, by rw [e, sx]; rfl⟩
    obtain ⟨d', hd', he⟩ := hb b vb lb
    have al := addD_l (a := a) (by omega)
    have sc := str_cut (a := a) (by omega)
    refine ⟨_, ?_, done d' hd'⟩
    refine body_of (ρ := [some (.list (C.map Deed.toD)), some (.int num), none, none, none, none, none, none, none, none]) rfl rfl ?_
    unfold f__law_changed
    refine seq_of (ρ' := [some (.list (C.map Deed.toD)), some (.int num), some (.int w), none, none, none, none, none, none, none]) (by simp [fdivD, modD, hlen, ← hw]) ?_
    refine seq_of (ρ' := [some (.list (C.map Deed.toD)), some (.int num), some (.int w), some d.toD, none, none, none, none, none, none]) (by simp [atd]) ?_
    refine seq_of (ρ' := [some (.list (C.map Deed.toD)), some (.int num), some (.int w), some d.toD, some (.int (num % 8)), none, none, none, none, none]) (by simp [modD]) ?_
    refine seq_of (ρ' := [some (.list (C.map Deed.toD)), some (.int num), some (.int w), some d.toD, some (.int (num % 8)), none, none, none, none, none]) (by simp [k0]) ?_
    refine seq_of (ρ' := [some (.list (C.map Deed.toD)), some (.int num), some (.int w), some d.toD, some (.int (num % 8)), none, none, none, none, none]) (by simp [k1]) ?_
    refine seq_of (ρ' := [some (.list (C.map Deed.toD)), some (.int num), some (.int w), some d.toD, some (.int (num % 8)), none, none, none, none, none]) (by simp [k2]) ?_
    refine seq_of c6 (seq_of c7 ?_)
    refine seq_of (ρ' := [some (.list (C.map Deed.toD)), some (.int num), some (.int w), some d.toD, some (.int (num % 8)), none, some (.int i), some (.int x), some (strD' a), none]) ?_ ?_
    · show ((ixD d.toD (.int i)).bind _) = _
      rw [ea]; rfl
    refine seq_of (ρ' := [some (.list (C.map Deed.toD)), some (.int num), some (.int w), some d.toD, some (.int (num % 8)), none, some (.int i), some (strD' b), some (strD' a), none]) ?_ ?_
    · have tt : (tVal (eUn (isiD .str) (eVar 8))) [some (.list (C.map Deed.toD)), some (.int num), some (.int w), some d.toD, some (.int (num % 8)), none, some (.int i), some (.int x), some (strD' a), none] = some true := by simp [strD']
      simp only [sIf, tt, Option.bind_some, if_true]
      have ls : (eSlice (eVar 8) oNone (oSome (eUn negD (eC (.int 1))))) [some (.list (C.map Deed.toD)), some (.int num), some (.int w), some d.toD, some (.int (num % 8)), none, some (.int i), some (.int x), some (strD' a), none] = some (strD' a.dropLast) := sc
      have lb' : (eBin addD (eVar 8) (eC (.str "l"))) [some (.list (C.map Deed.toD)), some (.int num), some (.int w), some d.toD, some (.int (num % 8)), none, some (.int i), some (.int x), some (strD' a), none] = some (strD' (a ++ [108])) := al
      have l6 : (eLst (aCons (eC (.str "")) (aCons (eC (.str "l")) (aCons (eC (.str "r")) (aCons (eBin addD (eVar 8) (eC (.str "l"))) (aCons (eSlice (eVar 8) oNone (oSome (eUn negD (eC (.int 1))))) (aCons (eC (.str "x")) aNil))))))) [some (.list (C.map Deed.toD)), some (.int num), some (.int w), some d.toD, some (.int (num % 8)), none, some (.int i), some (.int x), some (strD' a), none] = some (.list [(.str "" : D), .str "l", .str "r", strD' (a ++ [108]), strD' a.dropLast, .str "x"]) := by
        simp only [eLst, aCons, ls, lb', eC, aNil, Option.bind_some]; rfl
      have m6 : (eBin modD (eBin fdivD (eVar 1) (eC (.int 4000))) (eC (.int 6))) [some (.list (C.map Deed.toD)), some (.int num), some (.int w), some d.toD, some (.int (num % 8)), none, some (.int i), some (.int x), some (strD' a), none] = some (.int (num / 4000 % 6)) := by simp [fdivD, modD]
      have i6 : (eBin ixD (eLst (aCons (eC (.str "")) (aCons (eC (.str "l")) (aCons (eC (.str "r")) (aCons (eBin addD (eVar 8) (eC (.str "l"))) (aCons (eSlice (eVar 8) oNone (oSome (eUn negD (eC (.int 1))))) (aCons (eC (.str "x")) aNil))))))) (eBin modD (eBin fdivD (eVar 1) (eC (.int 4000))) (eC (.int 6)))) [some (.list (C.map Deed.toD)), some (.int num), some (.int w), some d.toD, some (.int (num % 8)), none, some (.int i), some (.int x), some (strD' a), none] = some (strD' b) := by
        show ((eLst _ _).bind fun x => ((eBin modD _ _) _).bind fun y => ixD x y) = _
        rw [l6, m6]
        exact e6
      show (((eBin ixD _ _) _).bind _) = _
      rw [i6]; rfl
    refine seq_of (new9 _ _) ?_
    rw [he xs hx]
    exact fin d' _ _ _
theorem eqD_os {o : Option (List Nat)} {b : List Nat} (ho : okO o) (hb : valid b) : eqD (osD o) (strD' b) = some (.bool (decide (o = some b))) := by
  cases o with
  | none => simp [eqD, okEq, osD, strD', PyData.canLay0, okA_str hb, PyData.depth, PyData.eqv]
  | some a =>
    have ha := (ho a rfl).1
    simp only [eqD, okEq, osD, strD', canLay0_str, okA_str ha, okA_str hb, PyData.depth, PyData.eqv, str_beq]
    simp
def inR (n : Nat) (k : Int) : Bool := decide (0 ≤ k) && decide (k < n)
theorem inR_iff {n : Nat} {k : Int} : inR n k = true ↔ 0 ≤ k ∧ k < n := by simp [inR]
theorem F_pthere (n : Nat) (xs : List D) (k : Int) : F_is_there (n + 1) [.list xs, .int k] = some (.bool (inR xs.length k)) := by
  rw [e_is_there]
  by_cases c : 0 ≤ k
  · simp [f_is_there, inR, c]
  · simp [f_is_there, inR, c]
theorem F_pheld (n : Nat) (row : Row) (k : Int) : F_held_at (n + 2) [.list (row.map osD), .int k] = some (osD (held row k)) := by
  rw [e_held_at]
  have e := F_pthere n (row.map osD) k
  rw [List.length_map] at e
  cases c : inR row.length k with
  | true =>
    rw [c] at e
    have h := inR_iff.mp c
    have hk : k.toNat < row.length := by omega
    have e1 : at? (row.map osD) k = some (osD (held row k)) := by
      simp only [at?, h.1, if_true, held, h, and_self]
      simp [hk]
    simp [f_held_at, e, e1]
  | false =>
    rw [c] at e
    have h : ¬ (0 ≤ k ∧ k < row.length) := fun z => by rw [inR_iff.mpr z] at c; cases c
    simp [f_held_at, e, held, h, osD]
theorem F_pleads (n : Nat) (t : Tr) (a : List Nat) (va : valid a) : F_leads_to_number (n + 2) [t.toD, strD' a] = some (.bool (isLeaf (part t a))) := by
  have hp : F_part_at (n + 1) [t.toD, strD' a] = some (partD t a) := F_part n t ⟨a.toArray⟩ (by simpa using va)
  rw [e_leads_to_number]
  cases ht : part t a with
  | none => simp [f_leads_to_number, hp, partD, ht, isLeaf]
  | some u => cases u <;> simp [f_leads_to_number, hp, partD, ht, isLeaf, Tr.toD]
theorem F_pholds (n : Nat) (t : Tr) (row : Row) (p o s : Int) (a : List Nat) (ha : okA a) (hr : okR row) : F_holds_parts (n + 3) [t.toD, (Deed.join p a o s).toD, .list (row.map osD)] = some (.bool (decide (isNode (part t a) = true ∧ held row o = some (a ++ [108]) ∧ held row s = some (a ++ [114])))) := by
  have hp : F_part_at (n + 2) [t.toD, strD' a] = some (partD t a) := F_part (n + 1) t ⟨a.toArray⟩ (by simpa using ha.1)
  have ho := F_pheld n row o
  have hs := F_pheld n row s
  have al := addD_l (a := a) (by have := ha.2; omega)
  have ar := addD_r (a := a) (by have := ha.2; omega)
  have el := eqD_os (held_ok hr o) (valid_app ha.1 (fun c hc => by simp at hc; omega : valid [108]))
  have er := eqD_os (held_ok hr s) (valid_app ha.1 (fun c hc => by simp at hc; omega : valid [114]))
  rw [e_holds_parts]
  cases ht : part t a with
  | none => simp [f_holds_parts, Deed.toD, hp, partD, ht, isNode]
  | some u =>
    cases u with
    | num i => simp [f_holds_parts, Deed.toD, hp, partD, ht, isNode, Tr.toD]
    | node k l r =>
      have nd : isNode (some (Tr.node k l r)) = true := rfl
      by_cases c1 : held row o = some (a ++ [108])
      · have el2 : eqD (osD (held row o)) (strD' (a ++ [108])) = some (.bool true) := by rw [el]; simp [c1]
        by_cases c2 : held row s = some (a ++ [114])
        · have er2 : eqD (osD (held row s)) (strD' (a ++ [114])) = some (.bool true) := by rw [er]; simp [c2]
          simp only [nd, c1, c2, and_self, decide_true]
          simp only [c1, c2] at el2 er2 ho hs
          simp [f_holds_parts, Deed.toD, hp, partD, ht, Tr.toD, ho, hs, al, ar, el2, er2]
        · have er2 : eqD (osD (held row s)) (strD' (a ++ [114])) = some (.bool false) := by rw [er]; simp [c2]
          simp only [c2, and_false, decide_false]
          simp [f_holds_parts, Deed.toD, hp, partD, ht, Tr.toD, ho, hs, al, ar, el2, er2]
      · have el2 : eqD (osD (held row o)) (strD' (a ++ [108])) = some (.bool false) := by rw [el]; simp [c1]
        simp only [c1, false_and, and_false, decide_false]
        simp [f_holds_parts, Deed.toD, hp, partD, ht, Tr.toD, ho, al, el2]
theorem notND_os (o : Option (List Nat)) : notND (osD o) = some (.bool o.isSome) := by cases o <;> simp [osD, strD']
theorem lstep_isSome (t : Tr) (row shelf : Row) (d : Deed) : (lstep t row shelf d).isSome = (inR (if d.isSh = true then shelf.length else row.length) d.at && (brings t row shelf d).isSome) := by
  have g : ∀ (n : Nat) (k : Int), ¬ (0 ≤ k ∧ k < (n : Int)) → inR n k = false := fun n k c => by
    cases h : inR n k with
    | true => exact absurd (inR_iff.mp h) c
    | false => rfl
  unfold lstep
  cases hb : brings t row shelf d with
  | none => simp
  | some a =>
    cases hs : d.isSh with
    | true =>
      simp only [if_true]
      by_cases c : 0 ≤ d.at ∧ d.at < (shelf.length : Int)
      · rw [if_pos c, inR_iff.mpr c]; rfl
      · rw [if_neg c, g _ _ c]; rfl
    | false =>
      simp only [Bool.false_eq_true, if_false]
      by_cases c : 0 ≤ d.at ∧ d.at < (row.length : Int)
      · rw [if_pos c, inR_iff.mpr c]; rfl
      · rw [if_neg c, g _ _ c]; rfl
theorem F_pcan (n : Nat) (t : Tr) (row shelf : Row) (d : Deed) (hd : d.ok) (hr : okR row) : F_can_be_done (n + 4) [t.toD, d.toD, .list (row.map osD), .list (shelf.map osD)] = some (.bool (lstep t row shelf d).isSome) := by
  have th : ∀ (r : Row) (k : Int), F_is_there (n + 3) [.list (r.map osD), .int k] = some (.bool (inR r.length k)) := fun r k => by
    have := F_pthere (n + 2) (r.map osD) k; rwa [List.length_map] at this
  have hh : ∀ (r : Row) (k : Int), F_held_at (n + 3) [.list (r.map osD), .int k] = some (osD (held r k)) := fun r k => F_pheld (n + 1) r k
  rw [e_can_be_done]
  cases d with
  | put p a =>
    have hl := F_pleads (n + 1) t a hd.1
    have e : (lstep t row shelf (.put p a)).isSome = (inR row.length p && isLeaf (part t a)) := by
      rw [lstep_isSome]
      show (inR row.length p && (if isLeaf (part t a) = true then some a else none).isSome) = _
      cases isLeaf (part t a) <;> rfl
    rw [e]
    cases c : inR row.length p <;> simp [f_can_be_done, Deed.toD, eqD_put_put, th, c, hl]
  | join p a o s =>
    have hl := F_pholds n t row p o s a hd hr
    have e : (lstep t row shelf (.join p a o s)).isSome = (inR row.length p && decide (isNode (part t a) = true ∧ held row o = some (a ++ [108]) ∧ held row s = some (a ++ [114]))) := by
      rw [lstep_isSome]
      show (inR row.length p && (if isNode (part t a) = true ∧ held row o = some (a ++ [108]) ∧ held row s = some (a ++ [114]) then some a else none).isSome) = _
      by_cases c : isNode (part t a) = true ∧ held row o = some (a ++ [108]) ∧ held row s = some (a ++ [114])
      · rw [if_pos c, decide_eq_true c]; rfl
      · rw [if_neg c, decide_eq_false c]; rfl
    rw [e]
    have hl' : F_holds_parts (n + 3) [t.toD, .tuple [.str "join", .int p, strD' a, .int o, .int s], .list (row.map osD)] = _ := hl
    cases c : inR row.length p <;> simp [f_can_be_done, Deed.toD, eqD_join_put, eqD_join_join, th, c, hl', -Bool.decide_and]
  | shelve p q =>
    have e : (lstep t row shelf (.shelve p q)).isSome = (inR shelf.length p && (held row q).isSome) := lstep_isSome t row shelf _
    rw [e]
    have w1 : eqD (.str "shelve") (.str "put") = some (.bool false) := eqD_put (.shelve 0 0)
    have w2 : eqD (.str "shelve") (.str "join") = some (.bool false) := eqD_join (.shelve 0 0)
    have nn := notND_os (held row q)
    cases c : inR shelf.length p
    · simp [f_can_be_done, Deed.toD, w1, w2, eqD_shelve_shelve, th, c]
    · simp only [Bool.true_and]
      have : (eUn notND (eCall (F_held_at (n + 3)) (aCons (eVar 2) (aCons (eBin ixD (eVar 1) (eC (.int 2))) aNil)))) [some t.toD, some (Deed.shelve p q).toD, some (.list (row.map osD)), some (.list (shelf.map osD))] = some (.bool (held row q).isSome) := by
        simp only [eUn, eCall, aCons, aNil, eBin, eVar, eC, List.getElem?_cons_succ, List.getElem?_cons_zero, Option.bind_some, id, Deed.toD, ixD, at_2, hh]
        exact nn
      refine body_of (ρ := [some t.toD, some (Deed.shelve p q).toD, some (.list (row.map osD)), some (.list (shelf.map osD))]) rfl rfl ?_
      unfold f_can_be_done
      refine seq_of (ρ' := [some t.toD, some (Deed.shelve p q).toD, some (.list (row.map osD)), some (.list (shelf.map osD))]) (by simp [Deed.toD, w1]) ?_
      refine seq_of (ρ' := [some t.toD, some (Deed.shelve p q).toD, some (.list (row.map osD)), some (.list (shelf.map osD))]) (by simp [Deed.toD, w2]) ?_
      refine seq_rt ?_
      have a1 : (eCall (F_is_there (n + 3)) (aCons (eVar 3) (aCons (eBin ixD (eVar 1) (eC (.int 1))) aNil))) [some t.toD, some (Deed.shelve p q).toD, some (.list (row.map osD)), some (.list (shelf.map osD))] = some (.bool true) := by simp [Deed.toD, th, c]
      have a0 : (tVal (eBin eqD (eBin ixD (eVar 1) (eC (.int 0))) (eC (.str "shelve")))) [some t.toD, some (Deed.shelve p q).toD, some (.list (row.map osD)), some (.list (shelf.map osD))] = some true := by simp [Deed.toD, eqD_shelve_shelve]
      simp only [sIf, a0, sRet, eAnd, a1, this, Option.bind_some, boolOf, if_true]
  | fetch p q =>
    have e : (lstep t row shelf (.fetch p q)).isSome = (inR row.length p && (held shelf q).isSome) := lstep_isSome t row shelf _
    rw [e]
    have w1 : eqD (.str "fetch") (.str "put") = some (.bool false) := eqD_put (.fetch 0 0)
    have w2 : eqD (.str "fetch") (.str "join") = some (.bool false) := eqD_join (.fetch 0 0)
    have nn := notND_os (held shelf q)
    cases c : inR row.length p
    · simp [f_can_be_done, Deed.toD, w1, w2, eqD_fetch_shelve, th, c]
    · simp only [Bool.true_and]
      have : (eUn notND (eCall (F_held_at (n + 3)) (aCons (eVar 3) (aCons (eBin ixD (eVar 1) (eC (.int 2))) aNil)))) [some t.toD, some (Deed.fetch p q).toD, some (.list (row.map osD)), some (.list (shelf.map osD))] = some (.bool (held shelf q).isSome) := by
        simp only [eUn, eCall, aCons, aNil, eBin, eVar, eC, List.getElem?_cons_succ, List.getElem?_cons_zero, Option.bind_some, id, Deed.toD, ixD, at_2, hh]
        exact nn
      refine body_of (ρ := [some t.toD, some (Deed.fetch p q).toD, some (.list (row.map osD)), some (.list (shelf.map osD))]) rfl rfl ?_
      unfold f_can_be_done
      refine seq_of (ρ' := [some t.toD, some (Deed.fetch p q).toD, some (.list (row.map osD)), some (.list (shelf.map osD))]) (by simp [Deed.toD, w1]) ?_
      refine seq_of (ρ' := [some t.toD, some (Deed.fetch p q).toD, some (.list (row.map osD)), some (.list (shelf.map osD))]) (by simp [Deed.toD, w2]) ?_
      refine seq_of (ρ' := [some t.toD, some (Deed.fetch p q).toD, some (.list (row.map osD)), some (.list (shelf.map osD))]) (by simp [Deed.toD, eqD_fetch_shelve]) ?_
      have a1 : (eCall (F_is_there (n + 3)) (aCons (eVar 2) (aCons (eBin ixD (eVar 1) (eC (.int 1))) aNil))) [some t.toD, some (Deed.fetch p q).toD, some (.list (row.map osD)), some (.list (shelf.map osD))] = some (.bool true) := by simp [Deed.toD, th, c]
      simp only [sRet, eAnd, a1, this, Option.bind_some, boolOf, if_true]
def Deed.mk : Deed → Bool
  | .put _ _ => true
  | .join _ _ _ _ => true
  | _ => false
theorem F_pmakes (n : Nat) (d : Deed) : F_makes (n + 1) [d.toD] = some (.bool d.mk) := by
  have w1 : eqD (.str "shelve") (.str "put") = some (.bool false) := eqD_put (.shelve 0 0)
  have w2 : eqD (.str "shelve") (.str "join") = some (.bool false) := eqD_join (.shelve 0 0)
  have w3 : eqD (.str "fetch") (.str "put") = some (.bool false) := eqD_put (.fetch 0 0)
  have w4 : eqD (.str "fetch") (.str "join") = some (.bool false) := eqD_join (.fetch 0 0)
  rw [e_makes]
  cases d <;> simp [f_makes, Deed.toD, Deed.mk, eqD_put_put, eqD_join_put, eqD_join_join, w1, w2, w3, w4]
abbrev mvSt (d : Deed) (R S : List D) : MSt := ⟨[some d.toD, some (.list R), some (.list S)], [none, some 0, some 1], 2⟩
theorem F_pmove_s (n : Nat) (p q : Int) (R S : List D) (x : D) (hp : 0 ≤ p ∧ p < S.length) (hx : at? R q = some x) (hi : imm x = true) : F_move (n + 1) (mvSt (.shelve p q) R S) = some (mvSt (.shelve p q) R (S.set p.toNat x)) := by
  rw [e_move]
  have hn := ixN_in (n := S.length) hp
  simp [f_move, mvSt, Deed.toD, eqD_shelve_shelve, ev, hx, hi, hn]
theorem F_pmove_f (n : Nat) (p q : Int) (R S : List D) (x : D) (hp : 0 ≤ p ∧ p < R.length) (hx : at? S q = some x) (hi : imm x = true) : F_move (n + 1) (mvSt (.fetch p q) R S) = some (mvSt (.fetch p q) (R.set p.toNat x) S) := by
  rw [e_move]
  have hn := ixN_in (n := R.length) hp
  simp [f_move, mvSt, Deed.toD, eqD_fetch_shelve, ev, hx, hi, hn]
def prSt (td cd pd : D) (R S : List D) (x5 : Option D) : MSt := ⟨[some td, some cd, some pd, some (.list R), some (.list S), x5], [none, none, none, some 0, some 1, none], 2⟩
theorem mv_s (n : Nat) (td cd pd : D) (p q : Int) (R S : List D) (x : D) (x5 : Option D) (hp : 0 ≤ p ∧ p < S.length) (hx : at? R q = some x) (hi : imm x = true) :
    mMove 5 3 4 (F_move (n + 1)) ((prSt td cd pd R S x5).set 5 (Deed.shelve p q).toD) = some (.nx (prSt td cd pd R (S.set p.toNat x) (some (Deed.shelve p q).toD))) := by
  have e := F_pmove_s n p q R S x hp hx hi
  simp only [mvSt] at e
  simp [prSt, e]
theorem mv_f (n : Nat) (td cd pd : D) (p q : Int) (R S : List D) (x : D) (x5 : Option D) (hp : 0 ≤ p ∧ p < R.length) (hx : at? S q = some x) (hi : imm x = true) :
    mMove 5 3 4 (F_move (n + 1)) ((prSt td cd pd R S x5).set 5 (Deed.fetch p q).toD) = some (.nx (prSt td cd pd (R.set p.toNat x) S (some (Deed.fetch p q).toD))) := by
  have e := F_pmove_f n p q R S x hp hx hi
  simp only [mvSt] at e
  simp [prSt, e]
theorem held_range {row : Row} {k : Int} {a : List Nat} (h : held row k = some a) : (0 ≤ k ∧ k < row.length) ∧ row[k.toNat]? = some (some a) := by
  unfold held at h
  split at h
  · rename_i c
    refine ⟨c, ?_⟩
    cases hr : row[k.toNat]? with
    | none => rw [hr] at h; cases h
    | some o => rw [hr] at h; exact congrArg some h
  · cases h
theorem at_map {row : Row} {k : Int} {a : List Nat} (g : Option (List Nat) → D) (h : held row k = some a) : at? (row.map g) k = some (g (some a)) := by
  obtain ⟨c, hr⟩ := held_range h
  simp [at?, c.1, hr]
theorem lstep_some {t : Tr} {row shelf row' shelf' : Row} {d : Deed} (h : lstep t row shelf d = some (row', shelf')) : ∃ a, brings t row shelf d = some a ∧ ((d.isSh = true ∧ (0 ≤ d.at ∧ d.at < shelf.length) ∧ row' = row ∧ shelf' = shelf.set d.at.toNat (some a)) ∨ (d.isSh = false ∧ (0 ≤ d.at ∧ d.at < row.length) ∧ row' = row.set d.at.toNat (some a) ∧ shelf' = shelf)) := by
  unfold lstep at h
  cases hb : brings t row shelf d with
  | none => rw [hb] at h; cases h
  | some a =>
    rw [hb] at h
    refine ⟨a, rfl, ?_⟩
    simp only at h
    cases hs : d.isSh with
    | true =>
      rw [hs] at h
      simp only [if_true] at h
      split at h
      · rename_i c; cases h; exact .inl ⟨rfl, c, rfl, rfl⟩
      · cases h
    | false =>
      rw [hs] at h
      simp only [Bool.false_eq_true, if_false] at h
      split at h
      · rename_i c; cases h; exact .inr ⟨rfl, c, rfl, rfl⟩
      · cases h
def prBody (c_can c_mk : List D → Option D) (c_mv : FK) : FM := mSeq (mIf (tNot (tVal (eCall c_can (aCons (eVar 0) (aCons (eVar 5) (aCons (eVar 3) (aCons (eVar 4) aNil))))))) (mRet (eC .none)) mNil) (mIf (tVal (eCall c_mk (aCons (eVar 5) aNil))) (mPut 3 (eBin ixD (eVar 5) (eC (.int 1))) (eBin ixD (eVar 5) (eC (.int 2)))) (mMove 5 3 4 c_mv))
theorem prTurn (n : Nat) (t : Tr) (cd pd : D) (d : Deed) (row shelf : Row) (x5 : Option D) (hd : d.ok) (hr : okR row) :
    match lstep t row shelf d with
    | none => prBody (F_can_be_done (n + 4)) (F_makes (n + 4)) (F_move (n + 4)) ((prSt t.toD cd pd (row.map osD) (shelf.map osD) x5).set 5 d.toD) = some (.rt .none)
    | some (row', shelf') => prBody (F_can_be_done (n + 4)) (F_makes (n + 4)) (F_move (n + 4)) ((prSt t.toD cd pd (row.map osD) (shelf.map osD) x5).set 5 d.toD) = some (.nx (prSt t.toD cd pd (row'.map osD) (shelf'.map osD) (some d.toD))) := by
  have hc := F_pcan n t row shelf d hd hr
  have hm := F_pmakes (n + 3) d
  have tc : (tNot (tVal (eCall (F_can_be_done (n + 4)) (aCons (eVar 0) (aCons (eVar 5) (aCons (eVar 3) (aCons (eVar 4) aNil))))))) ((prSt t.toD cd pd (row.map osD) (shelf.map osD) x5).set 5 d.toD).ρ = some (!(lstep t row shelf d).isSome) := by
    simp [prSt, hc]
  have tm : (tVal (eCall (F_makes (n + 4)) (aCons (eVar 5) aNil))) ((prSt t.toD cd pd (row.map osD) (shelf.map osD) x5).set 5 d.toD).ρ = some d.mk := by
    simp [prSt, hm]
  cases hst : lstep t row shelf d with
  | none =>
    rw [hst] at tc
    simp only
    unfold prBody
    refine mseq_rt ?_
    rw [mif_t tc]; rfl
  | some rs =>
    obtain ⟨row', shelf'⟩ := rs
    rw [hst] at tc
    simp only
    unfold prBody
    refine mseq_of (m' := (prSt t.toD cd pd (row.map osD) (shelf.map osD) x5).set 5 d.toD) (by rw [mif_f tc]; rfl) ?_
    obtain ⟨a, hb, hcase⟩ := lstep_some hst
    cases d with
    | put p b =>
      rw [mif_t tm]
      rcases hcase with ⟨h, _⟩ | ⟨_, h1, rfl, rfl⟩
      · cases h
      · have : b = a := by
          simp only [brings] at hb
          split at hb <;> cases hb
          rfl
        subst this
        have hn := ixN_in (n := row.length) h1
        simp only [Deed.at] at hn
        simp [prSt, Deed.toD, ev, hn, map_set_os, Deed.at]
    | join p b o s =>
      rw [mif_t tm]
      rcases hcase with ⟨h, _⟩ | ⟨_, h1, rfl, rfl⟩
      · cases h
      · have : b = a := by
          simp only [brings] at hb
          split at hb <;> cases hb
          rfl
        subst this
        have hn := ixN_in (n := row.length) h1
        simp only [Deed.at] at hn
        simp [prSt, Deed.toD, ev, hn, map_set_os, Deed.at]
    | shelve p q =>
      rw [mif_f tm]
      rcases hcase with ⟨_, h1, rfl, rfl⟩ | ⟨h, _⟩
      · have := mv_s (n + 3) t.toD cd pd p q (row'.map osD) (shelf.map osD) (strD' a) x5 (by rw [List.length_map]; exact h1) (at_map osD hb) (imm_os (some a))
        rw [map_set_os] at this
        exact this
      · cases h
    | fetch p q =>
      rw [mif_f tm]
      rcases hcase with ⟨h, _⟩ | ⟨_, h1, rfl, rfl⟩
      · cases h
      · have := mv_f (n + 3) t.toD cd pd p q (row.map osD) (shelf'.map osD) (strD' a) x5 (by rw [List.length_map]; exact h1) (at_map osD hb) (imm_os (some a))
        rw [map_set_os] at this
        exact this
theorem prLoop (n : Nat) (t : Tr) (cd pd : D) : ∀ (ds : List Deed) (row shelf : Row) (x5 : Option D), (∀ d ∈ ds, d.ok) → okR row → okR shelf →
    match lrun t ds row shelf with
    | none => mforGo 5 (prBody (F_can_be_done (n + 4)) (F_makes (n + 4)) (F_move (n + 4))) (ds.map Deed.toD) (prSt t.toD cd pd (row.map osD) (shelf.map osD) x5) = some (.rt .none)
    | some row' => ∃ S y5, mforGo 5 (prBody (F_can_be_done (n + 4)) (F_makes (n + 4)) (F_move (n + 4))) (ds.map Deed.toD) (prSt t.toD cd pd (row.map osD) (shelf.map osD) x5) = some (.nx (prSt t.toD cd pd (row'.map osD) S y5)) := by
  intro ds
  induction ds with
  | nil => intro row shelf x5 _ _ _; exact ⟨shelf.map osD, x5, rfl⟩
  | cons d r ih =>
    intro row shelf x5 hd hr hs
    have ht := prTurn n t cd pd d row shelf x5 (hd d (by simp)) hr
    simp only [lrun, List.map_cons, mforGo]
    cases hst : lstep t row shelf d with
    | none => rw [hst] at ht; simp only at ht ⊢; rw [ht]; rfl
    | some p =>
      obtain ⟨row', shelf'⟩ := p
      rw [hst] at ht
      simp only at ht ⊢
      rw [ht]
      obtain ⟨k1, k2, _, _⟩ := lstep_ok (hd d (by simp)) hr hs hst
      exact ih row' shelf' (some d.toD) (fun x hx => hd x (by simp [hx])) k1 k2
theorem F_prun (n : Nat) (t : Tr) (C : List Deed) (p : Nat) (hd : ∀ d ∈ C, d.ok) (hp : p ≤ 1000) : F_run (n + 5) [t.toD, .tuple (C.map Deed.toD), .int p] = some (runD (lrun t C (start0 p) (start0 41))) := by
  rw [e_run]
  have e' : f_run (F_can_be_done (n + 4)) (F_makes (n + 4)) (F_move (n + 4)) = mSeq (mOwn 3 (gRep (gFew (aCons (eC .none) aNil)) (eVar 2))) (mSeq (mOwn 4 (gRep (gFew (aCons (eC .none) aNil)) (eC (.int 41)))) (mSeq (mFor 5 (eVar 1) (prBody (F_can_be_done (n + 4)) (F_makes (n + 4)) (F_move (n + 4)))) (mRet (eCall tupleD (aCons (eVar 3) aNil))))) := rfl
  rw [e']
  generalize hc : PyData.tuple (C.map Deed.toD) = c
  have hc' : seqOf c = some (C.map Deed.toD) := by rw [← hc]; rfl
  have hl := prLoop n t c (.int p) C (start0 p) (start0 41) none hd (okR_start p) (okR_start 41)
  have hp' : (p : Int) ≤ 1000 := by omega
  have a1 : mOwn 3 (gRep (gFew (aCons (eC .none) aNil)) (eVar 2)) (mstart 6 [t.toD, c, .int p]) = some (.nx ((mstart 6 [t.toD, c, .int p]).own 3 ((start0 p).map osD))) := by
    have g : gRep (gFew (aCons (eC .none) aNil)) (eVar 2) (mstart 6 [t.toD, c, .int p]).ρ = some ((start0 p).map osD) := by
      rw [← flat_none]; simp [hp, hp']
    simp only [mOwn, g, Option.bind_some, imm_start, if_true]
  have a2 : ∀ m : MSt, mOwn 4 (gRep (gFew (aCons (eC .none) aNil)) (eC (.int 41))) m = some (.nx (m.own 4 ((start0 41).map osD))) := fun m => by
    have g : gRep (gFew (aCons (eC .none) aNil)) (eC (.int 41)) m.ρ = some ((start0 41).map osD) := by
      rw [← flat_none]; rfl
    simp only [mOwn, g, Option.bind_some, imm_start, if_true]
  have a3 : mFor 5 (eVar 1) (prBody (F_can_be_done (n + 4)) (F_makes (n + 4)) (F_move (n + 4))) (prSt t.toD c (.int p) ((start0 p).map osD) ((start0 41).map osD) none) = mforGo 5 (prBody (F_can_be_done (n + 4)) (F_makes (n + 4)) (F_move (n + 4))) (C.map Deed.toD) (prSt t.toD c (.int p) ((start0 p).map osD) ((start0 41).map osD) none) := by
    show ((some c).bind seqOf).bind _ = _
    rw [Option.bind_some, hc', Option.bind_some]
  have a4 : ((mstart 6 [t.toD, c, .int p]).own 3 ((start0 p).map osD)).own 4 ((start0 41).map osD) = prSt t.toD c (.int p) ((start0 p).map osD) ((start0 41).map osD) none := rfl
  show (if _ then (mSeq _ _ (mstart 6 [t.toD, c, .int p])).bind mretOf else none) = _
  rw [if_pos (by simp)]
  simp only [mSeq, a1, Option.bind_some, a2, a4, a3]
  cases hr : lrun t C (start0 p) (start0 41) with
  | none =>
    rw [hr] at hl
    simp only at hl
    rw [hl]; rfl
  | some row' =>
    rw [hr] at hl
    obtain ⟨S, y5, e⟩ := hl
    rw [e]; rfl
theorem F_pmade_put (n : Nat) (t : Tr) (p i : Int) (a : List Nat) (R : List D) (va : valid a) (h : part t a = some (.num i)) : F_number_made (n + 2) [t.toD, (Deed.put p a).toD, .list R] = some (.int i) := by
  have hp : F_part_at (n + 1) [t.toD, strD' a] = some (partD t a) := F_part n t ⟨a.toArray⟩ (by simpa using va)
  rw [e_number_made]
  simp [f_number_made, Deed.toD, hp, partD, h, Tr.toD, eqD_put_put]
theorem F_pmade_join (n : Nat) (t : Tr) (p o s : Int) (a : List Nat) (k : Kd) (l r : Tr) (R : List D) (va : valid a) (h : part t a = some (.node k l r)) (ho : at? R o = some (.int l.worth)) (hs : at? R s = some (.int r.worth)) (hm : okMul l.worth r.worth = true) :
    F_number_made (n + 2) [t.toD, (Deed.join p a o s).toD, .list R] = some (.int (Tr.node k l r).worth) := by
  have hp : F_part_at (n + 1) [t.toD, strD' a] = some (partD t a) := F_part n t ⟨a.toArray⟩ (by simpa using va)
  have hj := F_pjoined n k _ _ hm
  rw [e_number_made, worth_go]
  simp [f_number_made, Deed.toD, hp, partD, h, Tr.toD, eqD_join_put, ho, hs, hj]
theorem imm_num (t : Tr) (o : Option (List Nat)) : imm (numD t o) = true := by
  cases o with
  | none => simp [numD, imm]
  | some a => simp only [numD]; split <;> simp [imm]
theorem num_some {t u : Tr} {a : List Nat} (h : part t a = some u) : numD t (some a) = .int u.worth := by simp [numD, h]
theorem map_set_num (t : Tr) (row : Row) (k : Nat) (a : List Nat) : (row.map (numD t)).set k (numD t (some a)) = (row.set k (some a)).map (numD t) := by rw [List.map_set]
def pnBody (c_mk c_nm : List D → Option D) (c_mv : FK) : FM := mIf (tVal (eCall c_mk (aCons (eVar 5) aNil))) (mPut 3 (eBin ixD (eVar 5) (eC (.int 1))) (eCall c_nm (aCons (eVar 0) (aCons (eVar 5) (aCons (eVar 3) aNil))))) (mMove 5 3 4 c_mv)
theorem pn_put (td cd pd : D) (c_nm : List D → Option D) (d : Deed) (R S : List D) (x5 : Option D) (x : D) (hx : c_nm [td, d.toD, .list R] = some x) (hi : imm x = true) (h1 : 0 ≤ d.at ∧ d.at < R.length) :
    mPut 3 (eBin ixD (eVar 5) (eC (.int 1))) (eCall c_nm (aCons (eVar 0) (aCons (eVar 5) (aCons (eVar 3) aNil)))) ((prSt td cd pd R S x5).set 5 d.toD) = some (.nx (prSt td cd pd (R.set d.at.toNat x) S (some d.toD))) := by
  have hn := ixN_in (n := R.length) h1
  obtain ⟨rest, hdt⟩ := deed_0 d
  rw [hdt] at hx ⊢
  simp [prSt, ev, hx, hi, hn]
theorem pnTurn (n : Nat) (t : Tr) (cd pd : D) (d : Deed) (row shelf row' shelf' : Row) (x5 : Option D) (tok : t.ok) (tl : t.leaves ≤ 16) (hd : d.ok) (hst : lstep t row shelf d = some (row', shelf')) :
    pnBody (F_makes (n + 2)) (F_number_made (n + 2)) (F_move (n + 2)) ((prSt t.toD cd pd (row.map (numD t)) (shelf.map (numD t)) x5).set 5 d.toD) = some (.nx (prSt t.toD cd pd (row'.map (numD t)) (shelf'.map (numD t)) (some d.toD))) := by
  have hm := F_pmakes (n + 1) d
  have tm : (tVal (eCall (F_makes (n + 2)) (aCons (eVar 5) aNil))) ((prSt t.toD cd pd (row.map (numD t)) (shelf.map (numD t)) x5).set 5 d.toD).ρ = some d.mk := by
    simp [prSt, hm]
  obtain ⟨a, hb, hcase⟩ := lstep_some hst
  unfold pnBody
  cases d with
  | put p b =>
    rw [mif_t tm]
    rcases hcase with ⟨h, _⟩ | ⟨_, h1, rfl, rfl⟩
    · cases h
    · simp only [brings] at hb
      split at hb
      · rename_i hl
        cases hb
        cases hu : part t a with
        | none => rw [hu] at hl; cases hl
        | some u =>
          cases u with
          | node k l r => rw [hu] at hl; cases hl
          | num i =>
            have := pn_put t.toD cd pd (F_number_made (n + 2)) (.put p a) (row.map (numD t)) (shelf'.map (numD t)) x5 _ (F_pmade_put n t p i a _ hd.1 hu) (by simp [imm]) (by rw [List.length_map]; exact h1)
            have e : (PyData.int i : D) = numD t (some a) := (num_some hu).symm
            rw [e, map_set_num] at this
            exact this
      · cases hb
  | join p b o s =>
    rw [mif_t tm]
    rcases hcase with ⟨h, _⟩ | ⟨_, h1, rfl, rfl⟩
    · cases h
    · simp only [brings] at hb
      split at hb
      · rename_i hl
        cases hb
        obtain ⟨hl, ho, hs⟩ := hl
        cases hu : part t a with
        | none => rw [hu] at hl; cases hl
        | some u =>
          cases u with
          | num i => rw [hu] at hl; cases hl
          | node k l r =>
            obtain ⟨pl, pr⟩ := part_child hu
            obtain ⟨b1, _, b3⟩ := part_sub t _ l pl
            obtain ⟨c1, _, c3⟩ := part_sub t _ r pr
            have e1 := at_map (numD t) ho
            have e2 := at_map (numD t) hs
            rw [num_some pl] at e1
            rw [num_some pr] at e2
            have := pn_put t.toD cd pd (F_number_made (n + 2)) (.join p a o s) (row.map (numD t)) (shelf'.map (numD t)) x5 _ (F_pmade_join n t p o s a k l r _ hd.1 hu e1 e2 (okMul_worth (b3 tok) (c3 tok) (by omega) (by omega))) (by simp [imm]) (by rw [List.length_map]; exact h1)
            have e : (PyData.int (Tr.node k l r).worth : D) = numD t (some a) := (num_some hu).symm
            rw [e, map_set_num] at this
            exact this
      · cases hb
  | shelve p q =>
    rw [mif_f tm]
    rcases hcase with ⟨_, h1, rfl, rfl⟩ | ⟨h, _⟩
    · have := mv_s (n + 1) t.toD cd pd p q (row'.map (numD t)) (shelf.map (numD t)) (numD t (some a)) x5 (by rw [List.length_map]; exact h1) (at_map (numD t) hb) (imm_num t _)
      rw [map_set_num] at this
      exact this
    · cases h
  | fetch p q =>
    rw [mif_f tm]
    rcases hcase with ⟨h, _⟩ | ⟨_, h1, rfl, rfl⟩
    · cases h
    · have := mv_f (n + 1) t.toD cd pd p q (row.map (numD t)) (shelf'.map (numD t)) (numD t (some a)) x5 (by rw [List.length_map]; exact h1) (at_map (numD t) hb) (imm_num t _)
      rw [map_set_num] at this
      exact this
theorem pnLoop (n : Nat) (t : Tr) (cd pd : D) (tok : t.ok) (tl : t.leaves ≤ 16) : ∀ (ds : List Deed) (row shelf row' : Row) (x5 : Option D), (∀ d ∈ ds, d.ok) → lrun t ds row shelf = some row' →
    ∃ S y5, mforGo 5 (pnBody (F_makes (n + 2)) (F_number_made (n + 2)) (F_move (n + 2))) (ds.map Deed.toD) (prSt t.toD cd pd (row.map (numD t)) (shelf.map (numD t)) x5) = some (.nx (prSt t.toD cd pd (row'.map (numD t)) S y5)) := by
  intro ds
  induction ds with
  | nil =>
    intro row shelf row' x5 _ e
    simp only [lrun, Option.some.injEq] at e
    subst e
    exact ⟨shelf.map (numD t), x5, rfl⟩
  | cons d r ih =>
    intro row shelf row' x5 hd e
    simp only [lrun] at e
    cases hst : lstep t row shelf d with
    | none => rw [hst] at e; cases e
    | some p =>
      obtain ⟨r1, s1⟩ := p
      rw [hst] at e
      have ht := pnTurn n t cd pd d row shelf r1 s1 x5 tok tl (hd d (by simp)) hst
      simp only [List.map_cons, mforGo]
      rw [ht]
      exact ih r1 s1 row' (some d.toD) (fun x hx => hd x (by simp [hx])) e
theorem start_num (t : Tr) (p : Nat) : (start0 p).map (numD t) = (start0 p).map osD := by simp [start0, numD, osD]
theorem F_pnumbers (n : Nat) (t : Tr) (C : List Deed) (p : Nat) (row : Row) (tok : t.ok) (tl : t.leaves ≤ 16) (hd : ∀ d ∈ C, d.ok) (hp : p ≤ 1000) (hr : lrun t C (start0 p) (start0 41) = some row) : F_numbers (n + 6) [t.toD, .tuple (C.map Deed.toD), .int p] = some (.tuple (row.map (numD t))) := by
  have er := F_prun n t C p hd hp
  rw [hr] at er
  rw [e_numbers]
  generalize hc : PyData.tuple (C.map Deed.toD) = c at *
  have hc' : seqOf c = some (C.map Deed.toD) := by rw [← hc]; rfl
  have e' : f_numbers (F_run (n + 5)) (F_makes (n + 5)) (F_number_made (n + 5)) (F_move (n + 5)) = mSeq (mIf (tVal (eUn isND (eCall (F_run (n + 5)) (aCons (eVar 0) (aCons (eVar 1) (aCons (eVar 2) aNil)))))) (mRet (eC .none)) mNil) (mSeq (mOwn 3 (gRep (gFew (aCons (eC .none) aNil)) (eVar 2))) (mSeq (mOwn 4 (gRep (gFew (aCons (eC .none) aNil)) (eC (.int 41)))) (mSeq (mFor 5 (eVar 1) (pnBody (F_makes (n + 5)) (F_number_made (n + 5)) (F_move (n + 5)))) (mRet (eCall tupleD (aCons (eVar 3) aNil)))))) := rfl
  rw [e']
  obtain ⟨S, y5, hl⟩ := pnLoop (n + 3) t c (.int p) tok tl C (start0 p) (start0 41) row none hd hr
  rw [start_num, start_num] at hl
  have hp' : (p : Int) ≤ 1000 := by omega
  have a0 : mIf (tVal (eUn isND (eCall (F_run (n + 5)) (aCons (eVar 0) (aCons (eVar 1) (aCons (eVar 2) aNil)))))) (mRet (eC .none)) mNil (mstart 6 [t.toD, c, .int p]) = some (.nx (mstart 6 [t.toD, c, .int p])) := by
    rw [mif_f]
    · rfl
    · simp [er, runD]
  have a1 : mOwn 3 (gRep (gFew (aCons (eC .none) aNil)) (eVar 2)) (mstart 6 [t.toD, c, .int p]) = some (.nx ((mstart 6 [t.toD, c, .int p]).own 3 ((start0 p).map osD))) := by
    have g : gRep (gFew (aCons (eC .none) aNil)) (eVar 2) (mstart 6 [t.toD, c, .int p]).ρ = some ((start0 p).map osD) := by
      rw [← flat_none]; simp [hp, hp']
    simp only [mOwn, g, Option.bind_some, imm_start, if_true]
  have a2 : ∀ m : MSt, mOwn 4 (gRep (gFew (aCons (eC .none) aNil)) (eC (.int 41))) m = some (.nx (m.own 4 ((start0 41).map osD))) := fun m => by
    have g : gRep (gFew (aCons (eC .none) aNil)) (eC (.int 41)) m.ρ = some ((start0 41).map osD) := by
      rw [← flat_none]; rfl
    simp only [mOwn, g, Option.bind_some, imm_start, if_true]
  have a3 : mFor 5 (eVar 1) (pnBody (F_makes (n + 5)) (F_number_made (n + 5)) (F_move (n + 5))) (prSt t.toD c (.int p) ((start0 p).map osD) ((start0 41).map osD) none) = mforGo 5 (pnBody (F_makes (n + 5)) (F_number_made (n + 5)) (F_move (n + 5))) (C.map Deed.toD) (prSt t.toD c (.int p) ((start0 p).map osD) ((start0 41).map osD) none) := by
    show ((some c).bind seqOf).bind _ = _
    rw [Option.bind_some, hc', Option.bind_some]
  have a4 : ((mstart 6 [t.toD, c, .int p]).own 3 ((start0 p).map osD)).own 4 ((start0 41).map osD) = prSt t.toD c (.int p) ((start0 p).map osD) ((start0 41).map osD) none := rfl
  show (if _ then (mSeq _ _ (mstart 6 [t.toD, c, .int p])).bind mretOf else none) = _
  rw [if_pos (by simp)]
  simp only [mSeq, a0, a1, Option.bind_some, a2, a4, a3, hl]
  rfl
def pairBody (c__law_worth c__law_part : List D → Option D) : FS := (sSeq (sIf (tOr (tAnd (tVal (eUn isND (eVar 6))) (tVal (eUn notND (eVar 7)))) (tVal (eUn (isiD .bool) (eVar 7)))) (sRet (eC (.bool false))) sNil) (sIf (tAnd (tVal (eUn notND (eVar 6))) (tVal (eBin neD (eVar 7) (eCall c__law_worth (aCons (eCall c__law_part (aCons (eVar 1) (aCons (eVar 6) aNil))) aNil))))) (sRet (eC (.bool false))) sNil))
theorem pairTurn (n : Nat) (S P C A B : D) (t : Tr) (o : Option (List Nat)) (tok : t.ok) (tl : t.leaves ≤ 16) (hn : t.dep < n + 1) (ho : ∀ a, o = some a → (part t a).isSome = true) :
    pairBody (F__law_worth (n + 1)) (F__law_part (n + 1)) [some S, some t.toD, some P, some C, some A, some B, some (osD o), some (numD t o)] = some (.nx [some S, some t.toD, some P, some C, some A, some B, some (osD o), some (numD t o)]) := by
  cases o with
  | none => simp [pairBody, osD, numD]
  | some a =>
    obtain ⟨u, hu⟩ := Option.isSome_iff_exists.mp (ho a rfl)
    obtain ⟨h1, h2, h3⟩ := part_sub t a u hu
    have hp : F__law_part (n + 1) [t.toD, .str ⟨a.toArray⟩] = some u.toD := by
      have := F_lpart n t ⟨a.toArray⟩
      simp only [partD, hu] at this; exact this
    have hw := F_lworth_eq (n + 1) u (h3 tok) (by omega) (by omega)
    have os : osD (some a) = .str ⟨a.toArray⟩ := rfl
    have nu : numD t (some a) = .int u.worth := by simp [numD, hu]
    rw [os, nu]
    simp [pairBody, hp, hw]
theorem pairLoop (n : Nat) (S P C A B : D) (t : Tr) (tok : t.ok) (tl : t.leaves ≤ 16) (hn : t.dep < n + 1) : ∀ (row : Row) (x y : Option D), partsIn t row →
    ∃ x' y', zipGo 6 7 (pairBody (F__law_worth (n + 1)) (F__law_part (n + 1))) (row.map osD) (row.map (numD t)) [some S, some t.toD, some P, some C, some A, some B, x, y] = some (.nx [some S, some t.toD, some P, some C, some A, some B, x', y'])
  | [], x, y, _ => ⟨x, y, rfl⟩
  | o :: r, x, y, h => by
    have e1 := pairTurn n S P C A B t o tok tl hn (fun a e => h a (by simp [e]))
    obtain ⟨x', y', e2⟩ := pairLoop n S P C A B t tok tl hn r (some (osD o)) (some (numD t o)) (fun a ha => h a (by simp [ha]))
    refine ⟨x', y', ?_⟩
    simp only [List.map_cons, zipGo]
    show ((pairBody _ _ [some S, some t.toD, some P, some C, some A, some B, some (osD o), some (numD t o)]).bind _) = _
    rw [e1]; exact e2
theorem k11_true (xs : List Int) (m : Nat) (hm : 60 ≤ m)
    (hnum : ∀ (t : Tr) (C : List Deed) (p : Nat) (row : Row), t.ok → t.leaves ≤ 16 → (∀ d ∈ C, d.ok) → C.length ≤ 400 → 1 ≤ p → p ≤ 8 → lrun t C (start0 p) (start0 41) = some row → F_numbers m [t.toD, .tuple (C.map Deed.toD), .int p] = some (.tuple (row.map (numD t)))) :
    F_law (m + 1) [.list (xs.map .int)] = some (.bool true) := by
  obtain ⟨n, rfl⟩ : ∃ k, m = k + 3 := ⟨m - 3, by omega⟩
  obtain ⟨t, et, tl, tok⟩ := F_drawn_tree (n + 2) (mixed xs 0) (by omega)
  have mx : ∀ k : Nat, F__law_mixed (n + 3) [.list (xs.map .int), .int k] = some (.int (mixed xs k)) := fun k => F_mixed (n + 1) xs k
  have m0 : F__law_mixed (n + 3) [.list (xs.map .int), .int 0] = some (.int (mixed xs 0)) := mx 0
  have m1 : F__law_mixed (n + 3) [.list (xs.map .int), .int 1] = some (.int (mixed xs 1)) := mx 1
  have m2 : F__law_mixed (n + 3) [.list (xs.map .int), .int 2] = some (.int (mixed xs 2)) := mx 2
  have m3 : F__law_mixed (n + 3) [.list (xs.map .int), .int 3] = some (.int (mixed xs 3)) := mx 3
  have tdep := t.dep_lt
  obtain ⟨p, hp⟩ : ∃ p : Nat, (p : Int) = 2 + mixed xs 1 % 7 := ⟨(2 + mixed xs 1 % 7).toNat, by omega⟩
  have p2 : 2 ≤ p := by omega
  have p8 : p ≤ 8 := by omega
  have ec := F_lcode (n + 2) t (mixed xs 2) p (by omega) tl p2 (by omega)
  obtain ⟨c1, c2, c3⟩ := lcode_ok t (mixed xs 2) p
  rw [e_law]
  refine body_of (ρ := [some (.list (xs.map .int)), none, none, none, none, none, none, none]) rfl rfl ?_
  unfold f_law
  refine seq_of (ρ' := [some (.list (xs.map .int)), some t.toD, none, none, none, none, none, none]) (by simp [m0, et]) ?_
  refine seq_of (ρ' := [some (.list (xs.map .int)), some t.toD, some (.int p), none, none, none, none, none]) (by simp [m1, modD, addD_int, hp]) ?_
  refine seq_of (ρ' := [some (.list (xs.map .int)), some t.toD, some (.int p), some (.list ((lcode t (mixed xs 2) p).map Deed.toD)), none, none, none, none]) (by simp [m2, ec]) ?_
  obtain ⟨C, hok, hlen, eC⟩ : ∃ C : List Deed, (∀ d ∈ C, d.ok) ∧ C.length ≤ 400 ∧ (sIf (tVal (eBin eqD (eBin modD (eCall (F__law_mixed (n + 3)) (aCons (eVar 0) (aCons (eC (.int 3)) aNil))) (eC (.int 2))) (eC (.int 1)))) (sSet 3 (eCall (F__law_changed (n + 3)) (aCons (eVar 3) (aCons (eBin fdivD (eCall (F__law_mixed (n + 3)) (aCons (eVar 0) (aCons (eC (.int 3)) aNil))) (eC (.int 2))) aNil)))) sNil) [some (.list (xs.map .int)), some t.toD, some (.int p), some (.list ((lcode t (mixed xs 2) p).map Deed.toD)), none, none, none, none] = some (.nx [some (.list (xs.map .int)), some t.toD, some (.int p), some (.list (C.map Deed.toD)), none, none, none, none]) := by
    by_cases c : mixed xs 3 % 2 = 1
    · obtain ⟨C', e', o', l'⟩ := F_lchanged (n + 2) (lcode t (mixed xs 2) p) (mixed xs 3 / 2) t.dep c3 (by omega) (by omega) c1
      exact ⟨C', fun d hd => Deed.okN_ok (by omega) (o' d hd), by omega, by simp [m3, modD, fdivD, c, e']⟩
    · exact ⟨lcode t (mixed xs 2) p, fun d hd => Deed.okN_ok (by omega) (c1 d hd), by omega, by simp [m3, modD, c]⟩
  refine seq_of eC ?_
  have er := F_lrun n t C (.list (C.map Deed.toD)) p rfl hok (by omega)
  refine seq_of (ρ' := [some (.list (xs.map .int)), some t.toD, some (.int p), some (.list (C.map Deed.toD)), some (runD (lrun t C (start0 p) (start0 41))), none, none, none]) (by simp [er]) ?_
  cases hr : lrun t C (start0 p) (start0 41) with
  | none => exact seq_rt (by simp [runD])
  | some row =>
    obtain ⟨_, hl⟩ := lrun_okR C _ _ row hok (okR_start p) (okR_start 41) hr
    have hl' : row.length = p := by rw [hl]; simp [start0]
    have hpt := lrun_parts t C _ _ row (parts_start t p) (parts_start t 41) hr
    have en := hnum t C p row tok tl hok hlen (by omega) p8 hr
    refine seq_of (ρ' := [some (.list (xs.map .int)), some t.toD, some (.int p), some (.list (C.map Deed.toD)), some (.tuple (row.map osD)), none, none, none]) (by simp [runD]) ?_
    refine seq_of (ρ' := [some (.list (xs.map .int)), some t.toD, some (.int p), some (.list (C.map Deed.toD)), some (.tuple (row.map osD)), some (.tuple (row.map (numD t))), none, none]) (by simp [en]) ?_
    refine seq_of (ρ' := [some (.list (xs.map .int)), some t.toD, some (.int p), some (.list (C.map Deed.toD)), some (.tuple (row.map osD)), some (.tuple (row.map (numD t))), none, none]) (by simp [hl']) ?_
    obtain ⟨x', y', el⟩ := pairLoop (n + 2) (.list (xs.map .int)) (.int p) (.list (C.map Deed.toD)) (.tuple (row.map osD)) (.tuple (row.map (numD t))) t tok tl (by omega) row none none hpt
    refine seq_of (ρ' := [some (.list (xs.map .int)), some t.toD, some (.int p), some (.list (C.map Deed.toD)), some (.tuple (row.map osD)), some (.tuple (row.map (numD t))), x', y']) ?_ (by simp)
    show zipGo 6 7 _ (row.map osD) (row.map (numD t)) _ = _
    exact el
theorem law_true (xs : List Int) (m : Nat) (hm : 100 ≤ m) : F_law (m + 1) [.list (xs.map .int)] = some (.bool true) := by
  obtain ⟨n, rfl⟩ : ∃ n, m = n + 6 := ⟨m - 6, by omega⟩
  exact k11_true xs (n + 6) (by omega) (fun t C p row tok tl hd _ _ h8 hr => F_pnumbers n t C p row tok tl hd (by omega) hr)
end FD
end
set_option Elab.async false
set_option linter.all false
set_option maxRecDepth 100000
set_option maxHeartbeats 4000000
namespace FD
open PySem PySem.Spec PyProof.Rows L2
abbrev FUEL1 : Nat := 100
abbrev FUEL : Nat := 101
theorem law_sp {K : PySem.W.Frag} : ∀ vs H Q E, spLaw K vs H Q E → spF K (F_law FUEL) vs H Q E := sp_of fun ns => law_true ns FUEL1 (Nat.le_refl _)
def top (i : Nat) : Stmt := PySem.Challenge.pw_fewpans_k11_whole_numbers_in_pans.main.body.getD i (.Pass ⟨0, 0, 0, 0⟩)
section
variable {P : Program} {w : World} {K : PySem.W.Frag} {mg : Str → Option Value} {base : Heap} {f : Addr} {fd : FuncData} {n : Nat}
abbrev st_joined_worth : Stmt := top 1
abbrev st_part_at : Stmt := top 2
abbrev st_is_there : Stmt := top 11
abbrev st_leads_to_number : Stmt := top 13
abbrev st_held_at : Stmt := top 12
abbrev st_holds_parts : Stmt := top 14
abbrev st_can_be_done : Stmt := top 10
abbrev st_makes : Stmt := top 7
abbrev st_move : Stmt := top 8
abbrev st_run : Stmt := top 5
abbrev st_number_made : Stmt := top 9
abbrev st_numbers : Stmt := top 6
abbrev st__law_cell_at : Stmt := top 16
abbrev st__law_mixed : Stmt := top 17
abbrev st__law_drawn : Stmt := top 18
abbrev st__law_tree : Stmt := top 19
abbrev st__law_drawn_tree : Stmt := top 20
abbrev st__law_part : Stmt := top 21
abbrev st__law_addresses : Stmt := top 22
abbrev st__law_worth : Stmt := top 23
abbrev st__law_held : Stmt := top 24
abbrev st__law_brings : Stmt := top 25
abbrev st__law_run : Stmt := top 26
abbrev st__law_work : Stmt := top 27
abbrev st__law_code : Stmt := top 28
abbrev st__law_changed : Stmt := top 29
abbrev st_law : Stmt := top 30
theorem sc_joined_worth : FnScope ["kind", "one", "other"] ["kind", "one", "other"] (defScope st_joined_worth) := ⟨rfl, rfl, rfl, by decide +kernel, rfl, by decide +kernel, by decide +kernel⟩
set_option maxHeartbeats 40000000 in
theorem ok_joined_worth (F : Fun K "joined_worth" "joined_worth" st_joined_worth f fd)  : FnOk P w K mg base CX0 (n + 1) f fd ["kind", "one", "other"] (spF K (F_joined_worth (n + 1))) := by
  have e : F_joined_worth (n + 1) = bodyF 3 3 (f_joined_worth ) := funext (e_joined_worth n)
  rw [e]
  refine okF F sc_joined_worth fun cdv A outer s H E hr => ?_
  have hu := hr.units
  have nd := sc_joined_worth.nd
  exact (fs_cons (fs_if (ft_cmp (op_eqD hu) (fe_var 0) fe_str (nomark _))
    (fs_one (fs_ret (fe_op op_addD (fe_var 1) (fe_var 2))))
    fs_nil) (fs_cons (fs_if (ft_cmp (op_eqD hu) (fe_var 0) fe_str (nomark _))
    (fs_one (fs_ret (fe_op op_subD (fe_var 1) (fe_var 2))))
    fs_nil) (fs_one (fs_ret (fe_op op_mulD (fe_var 1) (fe_var 2))))))
theorem sc_part_at : FnScope ["tree", "address", "part", "step"] ["tree", "address"] (defScope st_part_at) := ⟨rfl, rfl, rfl, by decide +kernel, rfl, by decide +kernel, by decide +kernel⟩
set_option maxHeartbeats 40000000 in
theorem ok_part_at (F : Fun K "part_at" "part_at" st_part_at f fd)  : FnOk P w K mg base CX0 (n + 1) f fd ["tree", "address"] (spF K (F_part_at (n + 1))) := by
  have e : F_part_at (n + 1) = bodyF 4 2 (f_part_at ) := funext (e_part_at n)
  rw [e]
  refine okF F sc_part_at fun cdv A outer s H E hr => ?_
  have hu := hr.units
  have nd := sc_part_at.nd
  exact (fs_cons (fs_set (i := 2) nd rfl (by first | exact Or.inl rfl | exact Or.inr rfl) (fe_var 0)) (fs_cons (fs_forStr (i := 3) nd rfl (by first | exact Or.inl rfl | exact Or.inr rfl) (fe_var 1)
    (fs_cons (fs_if (ft_cmp (op_eqD hu) (fe_ix (fe_var 2) fe_int (fun _ _ => rfl)) fe_str (nomark _))
    (fs_one (fs_ret fe_non))
    fs_nil) (fs_one (fs_if (ft_cmp (op_eqD hu) (fe_var 3) fe_str (nomark _))
    (fs_one (fs_set (i := 2) nd rfl (by first | exact Or.inl rfl | exact Or.inr rfl) (fe_ix (fe_var 2) fe_int (fun _ _ => rfl))))
    (fs_one (fs_if (ft_cmp (op_eqD hu) (fe_var 3) fe_str (nomark _))
    (fs_one (fs_set (i := 2) nd rfl (by first | exact Or.inl rfl | exact Or.inr rfl) (fe_ix (fe_var 2) fe_int (fun _ _ => rfl))))
    (fs_one (fs_ret fe_non)))))))) (fs_one (fs_ret (fe_var 2)))))
theorem sc_is_there : FnScope ["holders", "index"] ["holders", "index"] (defScope st_is_there) := ⟨rfl, rfl, rfl, by decide +kernel, rfl, by decide +kernel, by decide +kernel⟩
set_option maxHeartbeats 40000000 in
theorem ok_is_there (F : Fun K "is_there" "is_there" st_is_there f fd) (z_len : mg "len" = none) : FnOk P w K mg base CX0 (n + 1) f fd ["holders", "index"] (spF K (F_is_there (n + 1))) := by
  have e : F_is_there (n + 1) = bodyF 2 2 (f_is_there ) := funext (e_is_there n)
  rw [e]
  refine okF F sc_is_there fun cdv A outer s H E hr => ?_
  have hu := hr.units
  have nd := sc_is_there.nd
  exact (fs_one (fs_ret (fe_and (fe_cmp (op_geD) (fe_var 1) fe_int (nomark _)) (fe_one (fe_cmp (op_ltD) (fe_var 1) (fe_blt cb_len rfl z_len bt_len (fa_cons (fe_var 0) fa_nil)) (nomark _))))))
theorem sc_leads_to_number : FnScope ["tree", "address", "part"] ["tree", "address"] (defScope st_leads_to_number) := ⟨rfl, rfl, rfl, by decide +kernel, rfl, by decide +kernel, by decide +kernel⟩
set_option maxHeartbeats 40000000 in
theorem ok_leads_to_number (F : Fun K "leads_to_number" "leads_to_number" st_leads_to_number f fd) (k_part_at : Kn P w K mg base n "part_at" ["tree", "address"] (F_part_at n)) : FnOk P w K mg base CX0 (n + 1) f fd ["tree", "address"] (spF K (F_leads_to_number (n + 1))) := by
  have e : F_leads_to_number (n + 1) = bodyF 3 2 (f_leads_to_number (F_part_at n)) := funext (e_leads_to_number n)
  rw [e]
  refine okF F sc_leads_to_number fun cdv A outer s H E hr => ?_
  have hu := hr.units
  have nd := sc_leads_to_number.nd
  exact (fs_cons (fs_set (i := 2) nd rfl (by first | exact Or.inl rfl | exact Or.inr rfl) (fe_call k_part_at hr rfl (fa_cons (fe_var 0) (fa_cons (fe_var 1) fa_nil)))) (fs_one (fs_ret (fe_and (fe_notN (fe_var 2)) (fe_one (fe_cmp (op_eqD hu) (fe_ix (fe_var 2) fe_int (fun _ _ => rfl)) fe_str (nomark _)))))))
theorem sc_held_at : FnScope ["holders", "index"] ["holders", "index"] (defScope st_held_at) := ⟨rfl, rfl, rfl, by decide +kernel, rfl, by decide +kernel, by decide +kernel⟩
set_option maxHeartbeats 40000000 in
theorem ok_held_at (F : Fun K "held_at" "held_at" st_held_at f fd) (k_is_there : Kn P w K mg base n "is_there" ["holders", "index"] (F_is_there n)) : FnOk P w K mg base CX0 (n + 1) f fd ["holders", "index"] (spF K (F_held_at (n + 1))) := by
  have e : F_held_at (n + 1) = bodyF 2 2 (f_held_at (F_is_there n)) := funext (e_held_at n)
  rw [e]
  refine okF F sc_held_at fun cdv A outer s H E hr => ?_
  have hu := hr.units
  have nd := sc_held_at.nd
  exact (fs_cons (fs_if (ft_val (fe_call k_is_there hr rfl (fa_cons (fe_var 0) (fa_cons (fe_var 1) fa_nil))))
    (fs_one (fs_ret (fe_ix (fe_var 0) (fe_var 1) (fun _ _ => rfl))))
    fs_nil) (fs_one (fs_ret fe_non)))
theorem sc_holds_parts : FnScope ["tree", "deed", "held", "address", "part"] ["tree", "deed", "held"] (defScope st_holds_parts) := ⟨rfl, rfl, rfl, by decide +kernel, rfl, by decide +kernel, by decide +kernel⟩
set_option maxHeartbeats 40000000 in
theorem ok_holds_parts (F : Fun K "holds_parts" "holds_parts" st_holds_parts f fd) (k_part_at : Kn P w K mg base n "part_at" ["tree", "address"] (F_part_at n)) (k_held_at : Kn P w K mg base n "held_at" ["holders", "index"] (F_held_at n)) : FnOk P w K mg base CX0 (n + 1) f fd ["tree", "deed", "held"] (spF K (F_holds_parts (n + 1))) := by
  have e : F_holds_parts (n + 1) = bodyF 5 3 (f_holds_parts (F_part_at n) (F_held_at n)) := funext (e_holds_parts n)
  rw [e]
  refine okF F sc_holds_parts fun cdv A outer s H E hr => ?_
  have hu := hr.units
  have nd := sc_holds_parts.nd
  exact (fs_cons (fs_set (i := 3) nd rfl (by first | exact Or.inl rfl | exact Or.inr rfl) (fe_ix (fe_var 1) fe_int (fun _ _ => rfl))) (fs_cons (fs_set (i := 4) nd rfl (by first | exact Or.inl rfl | exact Or.inr rfl) (fe_call k_part_at hr rfl (fa_cons (fe_var 0) (fa_cons (fe_var 3) fa_nil)))) (fs_cons (fs_if (FWx.pt (fw_or (ft_isN (fe_var 4)) (fw_or1 (ft_cmp (op_eqD hu) (fe_ix (fe_var 4) fe_int (fun _ _ => rfl)) fe_str (nomark _)))))
    (fs_one (fs_ret fe_bl))
    fs_nil) (fs_one (fs_ret (fe_and (fe_cmp (op_eqD hu) (fe_call k_held_at hr rfl (fa_cons (fe_var 2) (fa_cons (fe_ix (fe_var 1) fe_int (fun _ _ => rfl)) fa_nil))) (fe_op op_addD (fe_var 3) fe_str) (nomark _)) (fe_one (fe_cmp (op_eqD hu) (fe_call k_held_at hr rfl (fa_cons (fe_var 2) (fa_cons (fe_ix (fe_var 1) fe_int (fun _ _ => rfl)) fa_nil))) (fe_op op_addD (fe_var 3) fe_str) (nomark _)))))))))
theorem sc_can_be_done : FnScope ["tree", "deed", "held", "shelf"] ["tree", "deed", "held", "shelf"] (defScope st_can_be_done) := ⟨rfl, rfl, rfl, by decide +kernel, rfl, by decide +kernel, by decide +kernel⟩
set_option maxHeartbeats 40000000 in
theorem ok_can_be_done (F : Fun K "can_be_done" "can_be_done" st_can_be_done f fd) (k_is_there : Kn P w K mg base n "is_there" ["holders", "index"] (F_is_there n)) (k_leads_to_number : Kn P w K mg base n "leads_to_number" ["tree", "address"] (F_leads_to_number n)) (k_holds_parts : Kn P w K mg base n "holds_parts" ["tree", "deed", "held"] (F_holds_parts n)) (k_held_at : Kn P w K mg base n "held_at" ["holders", "index"] (F_held_at n)) : FnOk P w K mg base CX0 (n + 1) f fd ["tree", "deed", "held", "shelf"] (spF K (F_can_be_done (n + 1))) := by
  have e : F_can_be_done (n + 1) = bodyF 4 4 (f_can_be_done (F_is_there n) (F_leads_to_number n) (F_holds_parts n) (F_held_at n)) := funext (e_can_be_done n)
  rw [e]
  refine okF F sc_can_be_done fun cdv A outer s H E hr => ?_
  have hu := hr.units
  have nd := sc_can_be_done.nd
  exact (fs_cons (fs_if (ft_cmp (op_eqD hu) (fe_ix (fe_var 1) fe_int (fun _ _ => rfl)) fe_str (nomark _))
    (fs_one (fs_ret (fe_and (fe_call k_is_there hr rfl (fa_cons (fe_var 2) (fa_cons (fe_ix (fe_var 1) fe_int (fun _ _ => rfl)) fa_nil))) (fe_one (fe_call k_leads_to_number hr rfl (fa_cons (fe_var 0) (fa_cons (fe_ix (fe_var 1) fe_int (fun _ _ => rfl)) fa_nil)))))))
    fs_nil) (fs_cons (fs_if (ft_cmp (op_eqD hu) (fe_ix (fe_var 1) fe_int (fun _ _ => rfl)) fe_str (nomark _))
    (fs_one (fs_ret (fe_and (fe_call k_is_there hr rfl (fa_cons (fe_var 2) (fa_cons (fe_ix (fe_var 1) fe_int (fun _ _ => rfl)) fa_nil))) (fe_one (fe_call k_holds_parts hr rfl (fa_cons (fe_var 0) (fa_cons (fe_var 1) (fa_cons (fe_var 2) fa_nil))))))))
    fs_nil) (fs_cons (fs_if (ft_cmp (op_eqD hu) (fe_ix (fe_var 1) fe_int (fun _ _ => rfl)) fe_str (nomark _))
    (fs_one (fs_ret (fe_and (fe_call k_is_there hr rfl (fa_cons (fe_var 3) (fa_cons (fe_ix (fe_var 1) fe_int (fun _ _ => rfl)) fa_nil))) (fe_one (fe_notN (fe_call k_held_at hr rfl (fa_cons (fe_var 2) (fa_cons (fe_ix (fe_var 1) fe_int (fun _ _ => rfl)) fa_nil))))))))
    fs_nil) (fs_one (fs_ret (fe_and (fe_call k_is_there hr rfl (fa_cons (fe_var 2) (fa_cons (fe_ix (fe_var 1) fe_int (fun _ _ => rfl)) fa_nil))) (fe_one (fe_notN (fe_call k_held_at hr rfl (fa_cons (fe_var 3) (fa_cons (fe_ix (fe_var 1) fe_int (fun _ _ => rfl)) fa_nil)))))))))))
theorem sc_makes : FnScope ["deed"] ["deed"] (defScope st_makes) := ⟨rfl, rfl, rfl, by decide +kernel, rfl, by decide +kernel, by decide +kernel⟩
set_option maxHeartbeats 40000000 in
theorem ok_makes (F : Fun K "makes" "makes" st_makes f fd)  : FnOk P w K mg base CX0 (n + 1) f fd ["deed"] (spF K (F_makes (n + 1))) := by
  have e : F_makes (n + 1) = bodyF 1 1 (f_makes ) := funext (e_makes n)
  rw [e]
  refine okF F sc_makes fun cdv A outer s H E hr => ?_
  have hu := hr.units
  have nd := sc_makes.nd
  exact (fs_one (fs_ret (fe_or (fe_cmp (op_eqD hu) (fe_ix (fe_var 0) fe_int (fun _ _ => rfl)) fe_str (nomark _)) (fe_one (fe_cmp (op_eqD hu) (fe_ix (fe_var 0) fe_int (fun _ _ => rfl)) fe_str (nomark _))))))
theorem sc_move : FnScope ["deed", "held", "shelf"] ["deed", "held", "shelf"] (defScope st_move) := ⟨rfl, rfl, rfl, by decide +kernel, rfl, by decide +kernel, by decide +kernel⟩
set_option maxHeartbeats 40000000 in
theorem ok_move (F : Fun K "move" "move" st_move f fd)  : FnOk P w K mg base CX0 (n + 1) f fd ["deed", "held", "shelf"] (spW K 3 (F_move (n + 1))) := by
  rw [e_move]
  refine okK F sc_move fun cdv A outer s H E hr => ?_
  have hu := hr.units
  have nd := sc_move.nd
  exact (ks_one (ks_if (ft_cmp (op_eqD hu) (fe_ix (fe_var 0) fe_int (fun _ _ => rfl)) fe_str (nomark _))
    (ks_one (ks_put (i := 2) (hk := (fe_ix (fe_var 0) fe_int (fun _ _ => rfl))) (he := (fe_ix (fe_var 1) (fe_ix (fe_var 0) fe_int (fun _ _ => rfl)) (fun _ _ => rfl)))))
    (ks_one (ks_put (i := 1) (hk := (fe_ix (fe_var 0) fe_int (fun _ _ => rfl))) (he := (fe_ix (fe_var 2) (fe_ix (fe_var 0) fe_int (fun _ _ => rfl)) (fun _ _ => rfl)))))))
theorem sc_run : FnScope ["tree", "code", "pans", "held", "shelf", "deed"] ["tree", "code", "pans"] (defScope st_run) := ⟨rfl, rfl, rfl, by decide +kernel, rfl, by decide +kernel, by decide +kernel⟩
set_option maxHeartbeats 40000000 in
theorem ok_run (F : Fun K "run" "run" st_run f fd) (k_can_be_done : Kn P w K mg base n "can_be_done" ["tree", "deed", "held", "shelf"] (F_can_be_done n)) (k_makes : Kn P w K mg base n "makes" ["deed"] (F_makes n)) (k_move : KnK P w K mg base n "move" ["deed", "held", "shelf"] (F_move n)) (z_tuple : mg "tuple" = none) (g_PLACES : Gc K mg "PLACES" c_PLACES) : FnOk P w K mg base CX0 (n + 1) f fd ["tree", "code", "pans"] (spF K (F_run (n + 1))) := by
  have e : F_run (n + 1) = bodyM 6 3 (f_run (F_can_be_done n) (F_makes n) (F_move n)) := funext (e_run n)
  rw [e]
  refine okM F sc_run fun cdv A outer s H E hr => ?_
  have hu := hr.units
  have nd := sc_run.nd
  exact (ms_cons (ms_own (i := 3) nd rfl (by first | exact Or.inl rfl | exact Or.inr rfl) (fl_rep (fl_lst (fa_cons fe_non fa_nil)) (fe_var 2))) (ms_cons (ms_own (i := 4) nd rfl (by first | exact Or.inl rfl | exact Or.inr rfl) (fl_rep (fl_lst (fa_cons fe_non fa_nil)) (fe_glob rfl g_PLACES))) (ms_cons (ms_for (i := 5) nd rfl (by first | exact Or.inl rfl | exact Or.inr rfl) (fe_var 1)
    (ms_cons (ms_if (ft_not (ft_val (fe_call k_can_be_done hr rfl (fa_cons (fe_var 0) (fa_cons (fe_var 5) (fa_cons (fe_var 3) (fa_cons (fe_var 4) fa_nil)))))))
    (ms_one (ms_ret fe_non))
    ms_nil) (ms_one (ms_if (ft_val (fe_call k_makes hr rfl (fa_cons (fe_var 5) fa_nil)))
    (ms_one (ms_put (i := 3) (hk := (fe_ix (fe_var 5) fe_int (fun _ _ => rfl))) (he := (fe_ix (fe_var 5) fe_int (fun _ _ => rfl)))))
    (ms_one (ms_move k_move hr rfl rfl (pv 5) (pv 3) (pv 4))))))) (ms_one (ms_ret (fe_typ cb_tuple rfl z_tuple bt_tuple (fa_cons (fe_var 3) fa_nil)))))))
theorem sc_number_made : FnScope ["tree", "deed", "held", "part"] ["tree", "deed", "held"] (defScope st_number_made) := ⟨rfl, rfl, rfl, by decide +kernel, rfl, by decide +kernel, by decide +kernel⟩
set_option maxHeartbeats 40000000 in
theorem ok_number_made (F : Fun K "number_made" "number_made" st_number_made f fd) (k_part_at : Kn P w K mg base n "part_at" ["tree", "address"] (F_part_at n)) (k_joined_worth : Kn P w K mg base n "joined_worth" ["kind", "one", "other"] (F_joined_worth n)) : FnOk P w K mg base CX0 (n + 1) f fd ["tree", "deed", "held"] (spF K (F_number_made (n + 1))) := by
  have e : F_number_made (n + 1) = bodyF 4 3 (f_number_made (F_part_at n) (F_joined_worth n)) := funext (e_number_made n)
  rw [e]
  refine okF F sc_number_made fun cdv A outer s H E hr => ?_
  have hu := hr.units
  have nd := sc_number_made.nd
  exact (fs_cons (fs_set (i := 3) nd rfl (by first | exact Or.inl rfl | exact Or.inr rfl) (fe_call k_part_at hr rfl (fa_cons (fe_var 0) (fa_cons (fe_ix (fe_var 1) fe_int (fun _ _ => rfl)) fa_nil)))) (fs_cons (fs_if (ft_cmp (op_eqD hu) (fe_ix (fe_var 1) fe_int (fun _ _ => rfl)) fe_str (nomark _))
    (fs_one (fs_ret (fe_ix (fe_var 3) fe_int (fun _ _ => rfl))))
    fs_nil) (fs_one (fs_ret (fe_call k_joined_worth hr rfl (fa_cons (fe_ix (fe_var 3) fe_int (fun _ _ => rfl)) (fa_cons (fe_ix (fe_var 2) (fe_ix (fe_var 1) fe_int (fun _ _ => rfl)) (fun _ _ => rfl)) (fa_cons (fe_ix (fe_var 2) (fe_ix (fe_var 1) fe_int (fun _ _ => rfl)) (fun _ _ => rfl)) fa_nil))))))))
theorem sc_numbers : FnScope ["tree", "code", "pans", "held", "shelf", "deed"] ["tree", "code", "pans"] (defScope st_numbers) := ⟨rfl, rfl, rfl, by decide +kernel, rfl, by decide +kernel, by decide +kernel⟩
set_option maxHeartbeats 40000000 in
theorem ok_numbers (F : Fun K "numbers" "numbers" st_numbers f fd) (k_run : Kn P w K mg base n "run" ["tree", "code", "pans"] (F_run n)) (k_makes : Kn P w K mg base n "makes" ["deed"] (F_makes n)) (k_number_made : Kn P w K mg base n "number_made" ["tree", "deed", "held"] (F_number_made n)) (k_move : KnK P w K mg base n "move" ["deed", "held", "shelf"] (F_move n)) (z_tuple : mg "tuple" = none) (g_PLACES : Gc K mg "PLACES" c_PLACES) : FnOk P w K mg base CX0 (n + 1) f fd ["tree", "code", "pans"] (spF K (F_numbers (n + 1))) := by
  have e : F_numbers (n + 1) = bodyM 6 3 (f_numbers (F_run n) (F_makes n) (F_number_made n) (F_move n)) := funext (e_numbers n)
  rw [e]
  refine okM F sc_numbers fun cdv A outer s H E hr => ?_
  have hu := hr.units
  have nd := sc_numbers.nd
  exact (ms_cons (ms_if (ft_isN (fe_call k_run hr rfl (fa_cons (fe_var 0) (fa_cons (fe_var 1) (fa_cons (fe_var 2) fa_nil)))))
    (ms_one (ms_ret fe_non))
    ms_nil) (ms_cons (ms_own (i := 3) nd rfl (by first | exact Or.inl rfl | exact Or.inr rfl) (fl_rep (fl_lst (fa_cons fe_non fa_nil)) (fe_var 2))) (ms_cons (ms_own (i := 4) nd rfl (by first | exact Or.inl rfl | exact Or.inr rfl) (fl_rep (fl_lst (fa_cons fe_non fa_nil)) (fe_glob rfl g_PLACES))) (ms_cons (ms_for (i := 5) nd rfl (by first | exact Or.inl rfl | exact Or.inr rfl) (fe_var 1)
    (ms_one (ms_if (ft_val (fe_call k_makes hr rfl (fa_cons (fe_var 5) fa_nil)))
    (ms_one (ms_put (i := 3) (hk := (fe_ix (fe_var 5) fe_int (fun _ _ => rfl))) (he := (fe_call k_number_made hr rfl (fa_cons (fe_var 0) (fa_cons (fe_var 5) (fa_cons (fe_var 3) fa_nil)))))))
    (ms_one (ms_move k_move hr rfl rfl (pv 5) (pv 3) (pv 4)))))) (ms_one (ms_ret (fe_typ cb_tuple rfl z_tuple bt_tuple (fa_cons (fe_var 3) fa_nil))))))))
theorem sc__law_cell_at : FnScope ["_law_script", "_law_k"] ["_law_script", "_law_k"] (defScope st__law_cell_at) := ⟨rfl, rfl, rfl, by decide +kernel, rfl, by decide +kernel, by decide +kernel⟩
set_option maxHeartbeats 40000000 in
theorem ok__law_cell_at (F : Fun K "_law_cell_at" "_law_cell_at" st__law_cell_at f fd) (z_len : mg "len" = none) : FnOk P w K mg base CX0 (n + 1) f fd ["_law_script", "_law_k"] (spF K (F__law_cell_at (n + 1))) := by
  have e : F__law_cell_at (n + 1) = bodyF 2 2 (f__law_cell_at ) := funext (e__law_cell_at n)
  rw [e]
  refine okF F sc__law_cell_at fun cdv A outer s H E hr => ?_
  have hu := hr.units
  have nd := sc__law_cell_at.nd
  exact (fs_cons (fs_if (ft_cmp (op_ltD) (fe_var 1) (fe_blt cb_len rfl z_len bt_len (fa_cons (fe_var 0) fa_nil)) (nomark _))
    (fs_one (fs_ret (fe_ix (fe_var 0) (fe_var 1) (fun _ _ => rfl))))
    fs_nil) (fs_one (fs_ret fe_int)))
theorem sc__law_mixed : FnScope ["_law_script", "_law_k", "_law_drawn_here"] ["_law_script", "_law_k"] (defScope st__law_mixed) := ⟨rfl, rfl, rfl, by decide +kernel, rfl, by decide +kernel, by decide +kernel⟩
set_option maxHeartbeats 40000000 in
theorem ok__law_mixed (F : Fun K "_law_mixed" "_law_mixed" st__law_mixed f fd) (k__law_cell_at : Kn P w K mg base n "_law_cell_at" ["_law_script", "_law_k"] (F__law_cell_at n)) : FnOk P w K mg base CX0 (n + 1) f fd ["_law_script", "_law_k"] (spF K (F__law_mixed (n + 1))) := by
  have e : F__law_mixed (n + 1) = bodyF 3 2 (f__law_mixed (F__law_cell_at n)) := funext (e__law_mixed n)
  rw [e]
  refine okF F sc__law_mixed fun cdv A outer s H E hr => ?_
  have hu := hr.units
  have nd := sc__law_mixed.nd
  exact (fs_cons (fs_set (i := 2) nd rfl (by first | exact Or.inl rfl | exact Or.inr rfl) (fe_op op_modD (fe_op op_mulD (fe_op op_addD (fe_op op_addD (fe_call k__law_cell_at hr rfl (fa_cons (fe_var 0) (fa_cons (fe_var 1) fa_nil))) (fe_op op_mulD fe_int (fe_var 1))) fe_int) fe_int) fe_int)) (fs_one (fs_ret (fe_op op_modD (fe_op op_addD (fe_op op_addD (fe_op op_mulD (fe_var 2) (fe_var 2)) (fe_op op_mulD fe_int (fe_var 2))) (fe_var 1)) fe_int))))
theorem sc__law_drawn : FnScope ["_law_number", "_law_k", "_law_drawn_here"] ["_law_number", "_law_k"] (defScope st__law_drawn) := ⟨rfl, rfl, rfl, by decide +kernel, rfl, by decide +kernel, by decide +kernel⟩
set_option maxHeartbeats 40000000 in
theorem ok__law_drawn (F : Fun K "_law_drawn" "_law_drawn" st__law_drawn f fd)  : FnOk P w K mg base CX0 (n + 1) f fd ["_law_number", "_law_k"] (spF K (F__law_drawn (n + 1))) := by
  have e : F__law_drawn (n + 1) = bodyF 3 2 (f__law_drawn ) := funext (e__law_drawn n)
  rw [e]
  refine okF F sc__law_drawn fun cdv A outer s H E hr => ?_
  have hu := hr.units
  have nd := sc__law_drawn.nd
  exact (fs_cons (fs_set (i := 2) nd rfl (by first | exact Or.inl rfl | exact Or.inr rfl) (fe_op op_modD (fe_op op_mulD (fe_op op_addD (fe_op op_addD (fe_var 0) (fe_op op_mulD fe_int (fe_var 1))) fe_int) fe_int) fe_int)) (fs_one (fs_ret (fe_op op_modD (fe_op op_addD (fe_op op_addD (fe_op op_mulD (fe_var 2) (fe_var 2)) (fe_op op_mulD fe_int (fe_var 2))) (fe_var 1)) fe_int))))
theorem sc__law_tree : FnScope ["_law_number", "_law_many", "_law_kind", "_law_first", "_law_one", "_law_other"] ["_law_number", "_law_many", "_law_kind"] (defScope st__law_tree) := ⟨rfl, rfl, rfl, by decide +kernel, rfl, by decide +kernel, by decide +kernel⟩
set_option maxHeartbeats 40000000 in
theorem ok__law_tree (F : Fun K "_law_tree" "_law_tree" st__law_tree f fd) (k__law_drawn : Kn P w K mg base n "_law_drawn" ["_law_number", "_law_k"] (F__law_drawn n)) (k__law_tree : Kn P w K mg base n "_law_tree" ["_law_number", "_law_many", "_law_kind"] (F__law_tree n)) : FnOk P w K mg base CX0 (n + 1) f fd ["_law_number", "_law_many", "_law_kind"] (spF K (F__law_tree (n + 1))) := by
  have e : F__law_tree (n + 1) = bodyF 6 3 (f__law_tree (F__law_drawn n) (F__law_tree n)) := funext (e__law_tree n)
  rw [e]
  refine okF F sc__law_tree fun cdv A outer s H E hr => ?_
  have hu := hr.units
  have nd := sc__law_tree.nd
  exact (fs_cons (fs_if (ft_cmp (op_eqD hu) (fe_var 1) fe_int (nomark _))
    (fs_one (fs_ret (fe_tup (fa_cons fe_str (fa_cons (fe_op op_subD (fe_op op_modD (fe_op op_fdivD (fe_call k__law_drawn hr rfl (fa_cons (fe_var 0) (fa_cons fe_int fa_nil))) fe_int) (fe_ix (fe_tup (fa_cons fe_int (fa_cons fe_int fa_nil))) (fe_op op_modD (fe_op op_fdivD (fe_var 0) fe_int) fe_int) (fun _ _ => rfl))) (fe_ix (fe_tup (fa_cons fe_int (fa_cons fe_int fa_nil))) (fe_op op_modD (fe_op op_fdivD (fe_var 0) fe_int) fe_int) (fun _ _ => rfl))) fa_nil)))))
    fs_nil) (fs_cons (fs_set (i := 3) nd rfl (by first | exact Or.inl rfl | exact Or.inr rfl) (fe_op op_addD fe_int (fe_op op_modD (fe_op op_fdivD (fe_var 0) fe_int) (fe_op op_subD (fe_var 1) fe_int)))) (fs_cons (fs_if (FWx.pt (fw_or (ft_cmp (op_eqD hu) (fe_var 2) fe_int (nomark _)) (fw_or1 (FWx.pt (fw_and (ft_cmp (op_eqD hu) (fe_var 2) fe_int (nomark _)) (fw_and1 (ft_cmp (op_eqD hu) (fe_op op_modD (fe_var 0) fe_int) fe_int (nomark _))))))))
    (fs_one (fs_set (i := 3) nd rfl (by first | exact Or.inl rfl | exact Or.inr rfl) (fe_op op_fdivD (fe_var 1) fe_int)))
    fs_nil) (fs_cons (fs_if (ft_cmp (op_eqD hu) (fe_var 2) fe_int (nomark _))
    (fs_one (fs_set (i := 3) nd rfl (by first | exact Or.inl rfl | exact Or.inr rfl) (fe_ix (fe_lst (fa_cons fe_int (fa_cons (fe_op op_subD (fe_var 1) fe_int) fa_nil))) (fe_op op_modD (fe_op op_fdivD (fe_var 0) fe_int) fe_int) (fun _ _ => rfl))))
    fs_nil) (fs_cons (fs_set (i := 4) nd rfl (by first | exact Or.inl rfl | exact Or.inr rfl) (fe_call k__law_tree hr rfl (fa_cons (fe_call k__law_drawn hr rfl (fa_cons (fe_var 0) (fa_cons fe_int fa_nil))) (fa_cons (fe_var 3) (fa_cons (fe_var 2) fa_nil))))) (fs_cons (fs_set (i := 5) nd rfl (by first | exact Or.inl rfl | exact Or.inr rfl) (fe_call k__law_tree hr rfl (fa_cons (fe_call k__law_drawn hr rfl (fa_cons (fe_var 0) (fa_cons fe_int fa_nil))) (fa_cons (fe_op op_subD (fe_var 1) (fe_var 3)) (fa_cons (fe_var 2) fa_nil))))) (fs_one (fs_ret (fe_tup (fa_cons (fe_ix (fe_tup (fa_cons fe_str (fa_cons fe_str (fa_cons fe_str fa_nil)))) (fe_op op_modD (fe_op op_fdivD (fe_var 0) fe_int) fe_int) (fun _ _ => rfl)) (fa_cons (fe_var 4) (fa_cons (fe_var 5) fa_nil))))))))))))
theorem sc__law_drawn_tree : FnScope ["_law_number"] ["_law_number"] (defScope st__law_drawn_tree) := ⟨rfl, rfl, rfl, by decide +kernel, rfl, by decide +kernel, by decide +kernel⟩
set_option maxHeartbeats 40000000 in
theorem ok__law_drawn_tree (F : Fun K "_law_drawn_tree" "_law_drawn_tree" st__law_drawn_tree f fd) (k__law_tree : Kn P w K mg base n "_law_tree" ["_law_number", "_law_many", "_law_kind"] (F__law_tree n)) : FnOk P w K mg base CX0 (n + 1) f fd ["_law_number"] (spF K (F__law_drawn_tree (n + 1))) := by
  have e : F__law_drawn_tree (n + 1) = bodyF 1 1 (f__law_drawn_tree (F__law_tree n)) := funext (e__law_drawn_tree n)
  rw [e]
  refine okF F sc__law_drawn_tree fun cdv A outer s H E hr => ?_
  have hu := hr.units
  have nd := sc__law_drawn_tree.nd
  exact (fs_one (fs_ret (fe_call k__law_tree hr rfl (fa_cons (fe_op op_fdivD (fe_var 0) fe_int) (fa_cons (fe_ix (fe_tup (fa_cons fe_int (fa_cons fe_int (fa_cons fe_int (fa_cons (fe_op op_addD fe_int (fe_op op_modD (fe_op op_fdivD (fe_var 0) fe_int) fe_int)) fa_nil))))) (fe_op op_modD (fe_op op_fdivD (fe_var 0) fe_int) fe_int) (fun _ _ => rfl)) (fa_cons (fe_op op_modD (fe_var 0) fe_int) fa_nil))))))
theorem sc__law_part : FnScope ["_law_tree_here", "_law_address", "_law_here", "_law_sign"] ["_law_tree_here", "_law_address"] (defScope st__law_part) := ⟨rfl, rfl, rfl, by decide +kernel, rfl, by decide +kernel, by decide +kernel⟩
set_option maxHeartbeats 40000000 in
theorem ok__law_part (F : Fun K "_law_part" "_law_part" st__law_part f fd)  : FnOk P w K mg base CX0 (n + 1) f fd ["_law_tree_here", "_law_address"] (spF K (F__law_part (n + 1))) := by
  have e : F__law_part (n + 1) = bodyF 4 2 (f__law_part ) := funext (e__law_part n)
  rw [e]
  refine okF F sc__law_part fun cdv A outer s H E hr => ?_
  have hu := hr.units
  have nd := sc__law_part.nd
  exact (fs_cons (fs_set (i := 2) nd rfl (by first | exact Or.inl rfl | exact Or.inr rfl) (fe_var 0)) (fs_cons (fs_forStr (i := 3) nd rfl (by first | exact Or.inl rfl | exact Or.inr rfl) (fe_var 1)
    (fs_cons (fs_if (FWx.pt (fw_or (ft_cmp (op_eqD hu) (fe_ix (fe_var 2) fe_int (fun _ _ => rfl)) fe_str (nomark _)) (fw_or1 (ft_cmp (op_ltD) (fe_find fe_str (fe_var 3)) fe_int (nomark _)))))
    (fs_one (fs_ret fe_non))
    fs_nil) (fs_one (fs_set (i := 2) nd rfl (by first | exact Or.inl rfl | exact Or.inr rfl) (fe_ix (fe_var 2) (fe_op op_addD (fe_find fe_str (fe_var 3)) fe_int) (fun _ _ => rfl)))))) (fs_one (fs_ret (fe_var 2)))))
theorem sc__law_addresses : FnScope ["_law_tree_here", "_law_address"] ["_law_tree_here", "_law_address"] (defScope st__law_addresses) := ⟨rfl, rfl, rfl, by decide +kernel, rfl, by decide +kernel, by decide +kernel⟩
set_option maxHeartbeats 40000000 in
theorem ok__law_addresses (F : Fun K "_law_addresses" "_law_addresses" st__law_addresses f fd) (k__law_addresses : Kn P w K mg base n "_law_addresses" ["_law_tree_here", "_law_address"] (F__law_addresses n)) : FnOk P w K mg base CX0 (n + 1) f fd ["_law_tree_here", "_law_address"] (spF K (F__law_addresses (n + 1))) := by
  have e : F__law_addresses (n + 1) = bodyF 2 2 (f__law_addresses (F__law_addresses n)) := funext (e__law_addresses n)
  rw [e]
  refine okF F sc__law_addresses fun cdv A outer s H E hr => ?_
  have hu := hr.units
  have nd := sc__law_addresses.nd
  exact (fs_cons (fs_if (ft_cmp (op_eqD hu) (fe_ix (fe_var 0) fe_int (fun _ _ => rfl)) fe_str (nomark _))
    (fs_one (fs_ret (fe_lst (fa_cons (fe_var 1) fa_nil))))
    fs_nil) (fs_one (fs_ret (fe_op op_addD (fe_op op_addD (fe_lst (fa_cons (fe_var 1) fa_nil)) (fe_call k__law_addresses hr rfl (fa_cons (fe_ix (fe_var 0) fe_int (fun _ _ => rfl)) (fa_cons (fe_op op_addD (fe_var 1) fe_str) fa_nil)))) (fe_call k__law_addresses hr rfl (fa_cons (fe_ix (fe_var 0) fe_int (fun _ _ => rfl)) (fa_cons (fe_op op_addD (fe_var 1) fe_str) fa_nil)))))))
theorem sc__law_worth : FnScope ["_law_tree_here", "_law_one", "_law_other"] ["_law_tree_here"] (defScope st__law_worth) := ⟨rfl, rfl, rfl, by decide +kernel, rfl, by decide +kernel, by decide +kernel⟩
set_option maxHeartbeats 40000000 in
theorem ok__law_worth (F : Fun K "_law_worth" "_law_worth" st__law_worth f fd) (k__law_worth : Kn P w K mg base n "_law_worth" ["_law_tree_here"] (F__law_worth n)) (z_int : mg "int" = none) : FnOk P w K mg base CX0 (n + 1) f fd ["_law_tree_here"] (spF K (F__law_worth (n + 1))) := by
  have e : F__law_worth (n + 1) = bodyF 3 1 (f__law_worth (F__law_worth n)) := funext (e__law_worth n)
  rw [e]
  refine okF F sc__law_worth fun cdv A outer s H E hr => ?_
  have hu := hr.units
  have nd := sc__law_worth.nd
  exact (fs_cons (fs_if (ft_cmp (op_eqD hu) (fe_ix (fe_var 0) fe_int (fun _ _ => rfl)) fe_str (nomark _))
    (fs_one (fs_ret (fe_ix (fe_var 0) fe_int (fun _ _ => rfl))))
    fs_nil) (fs_cons (fs_set (i := 1) nd rfl (by first | exact Or.inl rfl | exact Or.inr rfl) (fe_call k__law_worth hr rfl (fa_cons (fe_ix (fe_var 0) fe_int (fun _ _ => rfl)) fa_nil))) (fs_cons (fs_set (i := 2) nd rfl (by first | exact Or.inl rfl | exact Or.inr rfl) (fe_call k__law_worth hr rfl (fa_cons (fe_ix (fe_var 0) fe_int (fun _ _ => rfl)) fa_nil))) (fs_cons (fs_if (ft_cmp (op_eqD hu) (fe_ix (fe_var 0) fe_int (fun _ _ => rfl)) fe_str (nomark _))
    (fs_one (fs_ret (fe_op op_mulD (fe_var 1) (fe_var 2))))
    fs_nil) (fs_one (fs_ret (fe_op op_addD (fe_var 1) (fe_ix (fe_lst (fa_cons (fe_var 2) (fa_cons (fe_un un_negD (fe_var 2)) fa_nil))) (fe_typ cb_int rfl z_int bt_int (fa_cons (fe_cmp (op_eqD hu) (fe_ix (fe_var 0) fe_int (fun _ _ => rfl)) fe_str (nomark _)) fa_nil)) (fun _ _ => rfl)))))))))
theorem sc__law_held : FnScope ["_law_row", "_law_at"] ["_law_row", "_law_at"] (defScope st__law_held) := ⟨rfl, rfl, rfl, by decide +kernel, rfl, by decide +kernel, by decide +kernel⟩
set_option maxHeartbeats 40000000 in
theorem ok__law_held (F : Fun K "_law_held" "_law_held" st__law_held f fd) (z_len : mg "len" = none) : FnOk P w K mg base CX0 (n + 1) f fd ["_law_row", "_law_at"] (spF K (F__law_held (n + 1))) := by
  have e : F__law_held (n + 1) = bodyF 2 2 (f__law_held ) := funext (e__law_held n)
  rw [e]
  refine okF F sc__law_held fun cdv A outer s H E hr => ?_
  have hu := hr.units
  have nd := sc__law_held.nd
  exact (fs_cons (fs_if (ft_chain (op_leD) (op_ltD) fe_int (fe_var 1) (fe_blt cb_len rfl z_len bt_len (fa_cons (fe_var 0) fa_nil)))
    (fs_one (fs_ret (fe_ix (fe_var 0) (fe_var 1) (fun _ _ => rfl))))
    fs_nil) (fs_one (fs_ret fe_non)))
theorem sc__law_brings : FnScope ["_law_tree_here", "_law_row", "_law_shelf", "_law_deed", "_law_part_here"] ["_law_tree_here", "_law_row", "_law_shelf", "_law_deed"] (defScope st__law_brings) := ⟨rfl, rfl, rfl, by decide +kernel, rfl, by decide +kernel, by decide +kernel⟩
set_option maxHeartbeats 40000000 in
theorem ok__law_brings (F : Fun K "_law_brings" "_law_brings" st__law_brings f fd) (k__law_held : Kn P w K mg base n "_law_held" ["_law_row", "_law_at"] (F__law_held n)) (k__law_part : Kn P w K mg base n "_law_part" ["_law_tree_here", "_law_address"] (F__law_part n)) : FnOk P w K mg base CX0 (n + 1) f fd ["_law_tree_here", "_law_row", "_law_shelf", "_law_deed"] (spF K (F__law_brings (n + 1))) := by
  have e : F__law_brings (n + 1) = bodyF 5 4 (f__law_brings (F__law_held n) (F__law_part n)) := funext (e__law_brings n)
  rw [e]
  refine okF F sc__law_brings fun cdv A outer s H E hr => ?_
  have hu := hr.units
  have nd := sc__law_brings.nd
  exact (fs_cons (fs_if (ft_cmp (op_eqD hu) (fe_ix (fe_var 3) fe_int (fun _ _ => rfl)) fe_str (nomark _))
    (fs_one (fs_ret (fe_call k__law_held hr rfl (fa_cons (fe_var 2) (fa_cons (fe_ix (fe_var 3) fe_int (fun _ _ => rfl)) fa_nil)))))
    fs_nil) (fs_cons (fs_if (ft_cmp (op_eqD hu) (fe_ix (fe_var 3) fe_int (fun _ _ => rfl)) fe_str (nomark _))
    (fs_one (fs_ret (fe_call k__law_held hr rfl (fa_cons (fe_var 1) (fa_cons (fe_ix (fe_var 3) fe_int (fun _ _ => rfl)) fa_nil)))))
    fs_nil) (fs_cons (fs_set (i := 4) nd rfl (by first | exact Or.inl rfl | exact Or.inr rfl) (fe_call k__law_part hr rfl (fa_cons (fe_var 0) (fa_cons (fe_ix (fe_var 3) fe_int (fun _ _ => rfl)) fa_nil)))) (fs_cons (fs_if (FWx.pt (fw_or (ft_isN (fe_var 4)) (fw_or1 (ft_cmp (op_neD hu) (fe_cmp (op_eqD hu) (fe_ix (fe_var 4) fe_int (fun _ _ => rfl)) fe_str (nomark _)) (fe_cmp (op_eqD hu) (fe_ix (fe_var 3) fe_int (fun _ _ => rfl)) fe_str (nomark _)) (nomark _)))))
    (fs_one (fs_ret fe_non))
    fs_nil) (fs_cons (fs_if (FWx.pt (fw_and (ft_cmp (op_eqD hu) (fe_ix (fe_var 3) fe_int (fun _ _ => rfl)) fe_str (nomark _)) (fw_and1 (ft_cmp (op_neD hu) (fe_call k__law_held hr rfl (fa_cons (fe_var 1) (fa_cons (fe_ix (fe_var 3) fe_int (fun _ _ => rfl)) fa_nil))) (fe_op op_addD (fe_ix (fe_var 3) fe_int (fun _ _ => rfl)) fe_str) (nomark _)))))
    (fs_one (fs_ret fe_non))
    fs_nil) (fs_cons (fs_if (FWx.pt (fw_and (ft_cmp (op_eqD hu) (fe_ix (fe_var 3) fe_int (fun _ _ => rfl)) fe_str (nomark _)) (fw_and1 (ft_cmp (op_neD hu) (fe_call k__law_held hr rfl (fa_cons (fe_var 1) (fa_cons (fe_ix (fe_var 3) fe_int (fun _ _ => rfl)) fa_nil))) (fe_op op_addD (fe_ix (fe_var 3) fe_int (fun _ _ => rfl)) fe_str) (nomark _)))))
    (fs_one (fs_ret fe_non))
    fs_nil) (fs_one (fs_ret (fe_ix (fe_var 3) fe_int (fun _ _ => rfl))))))))))
theorem sc__law_run : FnScope ["_law_tree_here", "_law_code_here", "_law_pans", "_law_row", "_law_shelf", "_law_deed", "_law_held_here", "_law_goal"] ["_law_tree_here", "_law_code_here", "_law_pans"] (defScope st__law_run) := ⟨rfl, rfl, rfl, by decide +kernel, rfl, by decide +kernel, by decide +kernel⟩
set_option maxHeartbeats 40000000 in
theorem ok__law_run (F : Fun K "_law_run" "_law_run" st__law_run f fd) (k__law_brings : Kn P w K mg base n "_law_brings" ["_law_tree_here", "_law_row", "_law_shelf", "_law_deed"] (F__law_brings n)) (z_int : mg "int" = none) (z_len : mg "len" = none) (z_tuple : mg "tuple" = none) : FnOk P w K mg base CX0 (n + 1) f fd ["_law_tree_here", "_law_code_here", "_law_pans"] (spF K (F__law_run (n + 1))) := by
  have e : F__law_run (n + 1) = bodyM 8 3 (f__law_run (F__law_brings n)) := funext (e__law_run n)
  rw [e]
  refine okM F sc__law_run fun cdv A outer s H E hr => ?_
  have hu := hr.units
  have nd := sc__law_run.nd
  exact (ms_cons (ms_own (i := 3) nd rfl (by first | exact Or.inl rfl | exact Or.inr rfl) (fl_rep (fl_lst (fa_cons fe_non fa_nil)) (fe_var 2))) (ms_cons (ms_own (i := 4) nd rfl (by first | exact Or.inl rfl | exact Or.inr rfl) (fl_rep (fl_lst (fa_cons fe_non fa_nil)) fe_int)) (ms_cons (ms_for (i := 5) nd rfl (by first | exact Or.inl rfl | exact Or.inr rfl) (fe_var 1)
    (ms_cons (ms_set (i := 6) nd rfl (by first | exact Or.inl rfl | exact Or.inr rfl) (fe_call k__law_brings hr rfl (fa_cons (fe_var 0) (fa_cons (fe_var 3) (fa_cons (fe_var 4) (fa_cons (fe_var 5) fa_nil)))))) (ms_cons (ms_pick (i := 7) nd rfl (by first | exact Or.inl rfl | exact Or.inr rfl) (pv 3) (pv 4) (fe_typ cb_int rfl z_int bt_int (fa_cons (fe_cmp (op_eqD hu) (fe_ix (fe_var 5) fe_int (fun _ _ => rfl)) fe_str (nomark _)) fa_nil)) (fun _ _ => rfl)) (ms_cons (ms_if (FWx.pt (fw_or (ft_isN (fe_var 6)) (fw_or1 (ft_not (ft_chain (op_leD) (op_ltD) fe_int (fe_ix (fe_var 5) fe_int (fun _ _ => rfl)) (fe_blt cb_len rfl z_len bt_len (fa_cons (fe_var 7) fa_nil)))))))
    (ms_one (ms_ret fe_non))
    ms_nil) (ms_one (ms_put (i := 7) (hk := (fe_ix (fe_var 5) fe_int (fun _ _ => rfl))) (he := (fe_var 6)))))))) (ms_one (ms_ret (fe_typ cb_tuple rfl z_tuple bt_tuple (fa_cons (fe_var 3) fa_nil)))))))
theorem sc__law_work : FnScope ["_law_tree_here", "_law_address", "_law_free", "_law_number", "_law_every", "_law_part_here", "_law_drawn_here", "_law_first", "_law_second", "_law_simple", "_law_code_here", "_law_pair", "_law_place"] ["_law_tree_here", "_law_address", "_law_free", "_law_number", "_law_every"] (defScope st__law_work) := ⟨rfl, rfl, rfl, by decide +kernel, rfl, by decide +kernel, by decide +kernel⟩
set_option maxHeartbeats 40000000 in
theorem ok__law_work (F : Fun K "_law_work" "_law_work" st__law_work f fd) (k__law_part : Kn P w K mg base n "_law_part" ["_law_tree_here", "_law_address"] (F__law_part n)) (k__law_drawn : Kn P w K mg base n "_law_drawn" ["_law_number", "_law_k"] (F__law_drawn n)) (k__law_work : Kn P w K mg base n "_law_work" ["_law_tree_here", "_law_address", "_law_free", "_law_number", "_law_every"] (F__law_work n)) (z_len : mg "len" = none) (z_int : mg "int" = none) : FnOk P w K mg base CX0 (n + 1) f fd ["_law_tree_here", "_law_address", "_law_free", "_law_number", "_law_every"] (spF K (F__law_work (n + 1))) := by
  have e : F__law_work (n + 1) = bodyF 13 5 (f__law_work (F__law_part n) (F__law_drawn n) (F__law_work n)) := funext (e__law_work n)
  rw [e]
  refine okF F sc__law_work fun cdv A outer s H E hr => ?_
  have hu := hr.units
  have nd := sc__law_work.nd
  exact (fs_cons (fs_set (i := 5) nd rfl (by first | exact Or.inl rfl | exact Or.inr rfl) (fe_call k__law_part hr rfl (fa_cons (fe_var 0) (fa_cons (fe_var 1) fa_nil)))) (fs_cons (fs_if (ft_cmp (op_eqD hu) (fe_ix (fe_var 5) fe_int (fun _ _ => rfl)) fe_str (nomark _))
    (fs_one (fs_ret (fe_lst (fa_cons (fe_tup (fa_cons fe_str (fa_cons (fe_ix (fe_var 2) fe_int (fun _ _ => rfl)) (fa_cons (fe_var 1) fa_nil)))) fa_nil))))
    fs_nil) (fs_cons (fs_set (i := 6) nd rfl (by first | exact Or.inl rfl | exact Or.inr rfl) (fe_call k__law_drawn hr rfl (fa_cons (fe_var 3) (fa_cons (fe_index (fe_var 4) (fe_var 1)) fa_nil)))) (fs_cons (fs_unp rfl (fe_ix (fe_lst (fa_cons (fe_tup (fa_cons fe_str (fa_cons fe_str fa_nil))) (fa_cons (fe_tup (fa_cons fe_str (fa_cons fe_str fa_nil))) fa_nil))) (fe_op op_modD (fe_var 6) fe_int) (fun _ _ => rfl)) (fg_cons (i := 7) nd rfl (by first | exact Or.inl rfl | exact Or.inr rfl) (fg_cons (i := 8) nd rfl (by first | exact Or.inl rfl | exact Or.inr rfl) fg_nil))) (fs_cons (fs_set (i := 9) nd rfl (by first | exact Or.inl rfl | exact Or.inr rfl) (fe_cmp (op_eqD hu) (fe_ix (fe_call k__law_part hr rfl (fa_cons (fe_var 0) (fa_cons (fe_op op_addD (fe_var 1) (fe_var 8)) fa_nil))) fe_int (fun _ _ => rfl)) fe_str (nomark _))) (fs_cons (fs_set (i := 10) nd rfl (by first | exact Or.inl rfl | exact Or.inr rfl) (fe_call k__law_work hr rfl (fa_cons (fe_var 0) (fa_cons (fe_op op_addD (fe_var 1) (fe_var 7)) (fa_cons (fe_var 2) (fa_cons (fe_var 3) (fa_cons (fe_var 4) fa_nil))))))) (fs_cons (fs_if (FWx.pt (fw_and (ft_cmp (op_gtD) (fe_blt cb_len rfl z_len bt_len (fa_cons (fe_var 2) fa_nil)) (fe_op op_subD fe_int (fe_typ cb_int rfl z_int bt_int (fa_cons (fe_var 9) fa_nil))) (nomark _)) (fw_and1 (ft_cmp (op_gtD) (fe_op op_modD (fe_op op_fdivD (fe_var 6) fe_int) fe_int) fe_int (nomark _)))))
    (fs_cons (fs_set (i := 10) nd rfl (by first | exact Or.inl rfl | exact Or.inr rfl) (fe_op op_addD (fe_var 10) (fe_call k__law_work hr rfl (fa_cons (fe_var 0) (fa_cons (fe_op op_addD (fe_var 1) (fe_var 8)) (fa_cons (fe_slice (fe_var 2) (fo_some fe_int) fo_none) (fa_cons (fe_var 3) (fa_cons (fe_var 4) fa_nil)))))))) (fs_one (fs_set (i := 11) nd rfl (by first | exact Or.inl rfl | exact Or.inr rfl) (fe_tup (fa_cons (fe_ix (fe_var 2) fe_int (fun _ _ => rfl)) (fa_cons (fe_ix (fe_var 2) fe_int (fun _ _ => rfl)) fa_nil))))))
    (fs_cons (fs_set (i := 12) nd rfl (by first | exact Or.inl rfl | exact Or.inr rfl) (fe_op op_modD (fe_op op_addD (fe_index (fe_var 4) (fe_var 1)) (fe_op op_fdivD (fe_var 3) fe_int)) fe_int)) (fs_cons (fs_set (i := 10) nd rfl (by first | exact Or.inl rfl | exact Or.inr rfl) (fe_op op_addD (fe_op op_addD (fe_var 10) (fe_lst (fa_cons (fe_tup (fa_cons fe_str (fa_cons (fe_var 12) (fa_cons (fe_ix (fe_var 2) fe_int (fun _ _ => rfl)) fa_nil)))) fa_nil))) (fe_call k__law_work hr rfl (fa_cons (fe_var 0) (fa_cons (fe_op op_addD (fe_var 1) (fe_var 8)) (fa_cons (fe_var 2) (fa_cons (fe_var 3) (fa_cons (fe_var 4) fa_nil)))))))) (fs_cons (fs_set (i := 10) nd rfl (by first | exact Or.inl rfl | exact Or.inr rfl) (fe_op op_addD (fe_var 10) (fe_lst (fa_cons (fe_tup (fa_cons fe_str (fa_cons (fe_ix (fe_var 2) fe_int (fun _ _ => rfl)) (fa_cons (fe_var 12) fa_nil)))) fa_nil)))) (fs_one (fs_set (i := 11) nd rfl (by first | exact Or.inl rfl | exact Or.inr rfl) (fe_tup (fa_cons (fe_ix (fe_var 2) fe_int (fun _ _ => rfl)) (fa_cons (fe_ix (fe_var 2) fe_int (fun _ _ => rfl)) fa_nil))))))))) (fs_cons (fs_if (ft_cmp (op_eqD hu) (fe_var 7) fe_str (nomark _))
    (fs_one (fs_set (i := 11) nd rfl (by first | exact Or.inl rfl | exact Or.inr rfl) (fe_rev (fe_var 11))))
    fs_nil) (fs_one (fs_ret (fe_op op_addD (fe_var 10) (fe_lst (fa_cons (fe_tup (fa_cons fe_str (fa_cons (fe_ix (fe_var 2) fe_int (fun _ _ => rfl)) (fa_cons (fe_var 1) (fa_cons (fe_ix (fe_var 11) fe_int (fun _ _ => rfl)) (fa_cons (fe_ix (fe_var 11) fe_int (fun _ _ => rfl)) fa_nil)))))) fa_nil)))))))))))))
theorem sc__law_code : FnScope ["_law_tree_here", "_law_number", "_law_pans", "_law_every", "_law_code_here", "_law_some"] ["_law_tree_here", "_law_number", "_law_pans"] (defScope st__law_code) := ⟨rfl, rfl, rfl, by decide +kernel, rfl, by decide +kernel, by decide +kernel⟩
set_option maxHeartbeats 40000000 in
theorem ok__law_code (F : Fun K "_law_code" "_law_code" st__law_code f fd) (k__law_addresses : Kn P w K mg base n "_law_addresses" ["_law_tree_here", "_law_address"] (F__law_addresses n)) (k__law_work : Kn P w K mg base n "_law_work" ["_law_tree_here", "_law_address", "_law_free", "_law_number", "_law_every"] (F__law_work n)) (z_len : mg "len" = none) (z_range : mg "range" = none) (z_list : mg "list" = none) : FnOk P w K mg base CX0 (n + 1) f fd ["_law_tree_here", "_law_number", "_law_pans"] (spF K (F__law_code (n + 1))) := by
  have e : F__law_code (n + 1) = bodyF 6 3 (f__law_code (F__law_addresses n) (F__law_work n)) := funext (e__law_code n)
  rw [e]
  refine okF F sc__law_code fun cdv A outer s H E hr => ?_
  have hu := hr.units
  have nd := sc__law_code.nd
  exact (fs_cons (fs_set (i := 3) nd rfl (by first | exact Or.inl rfl | exact Or.inr rfl) (fe_call k__law_addresses hr rfl (fa_cons (fe_var 0) (fa_cons fe_str fa_nil)))) (fs_cons (fs_set (i := 4) nd rfl (by first | exact Or.inl rfl | exact Or.inr rfl) (fe_lst fa_nil)) (fs_cons (fs_if (ft_cmp (op_eqD hu) (fe_op op_modD (fe_var 1) fe_int) fe_int (nomark _))
    (fs_cons (fs_set (i := 5) nd rfl (by first | exact Or.inl rfl | exact Or.inr rfl) (fe_ix (fe_var 3) (fe_op op_modD (fe_op op_fdivD (fe_var 1) fe_int) (fe_blt cb_len rfl z_len bt_len (fa_cons (fe_var 3) fa_nil))) (fun _ _ => rfl))) (fs_one (fs_set (i := 4) nd rfl (by first | exact Or.inl rfl | exact Or.inr rfl) (fe_call k__law_work hr rfl (fa_cons (fe_var 0) (fa_cons (fe_var 5) (fa_cons (fe_listRng rfl z_range rfl z_list (fe_var 2)) (fa_cons (fe_op op_fdivD (fe_var 1) fe_int) (fa_cons (fe_var 3) fa_nil)))))))))
    fs_nil) (fs_one (fs_ret (fe_op op_addD (fe_var 4) (fe_call k__law_work hr rfl (fa_cons (fe_var 0) (fa_cons fe_str (fa_cons (fe_listRng rfl z_range rfl z_list (fe_var 2)) (fa_cons (fe_var 1) (fa_cons (fe_var 3) fa_nil))))))))))))
theorem sc__law_changed : FnScope ["_law_code_here", "_law_number", "_law_at", "_law_deed", "_law_kind", "_law_turned_two", "_law_part_here", "_law_other", "_law_here", "_law_new"] ["_law_code_here", "_law_number"] (defScope st__law_changed) := ⟨rfl, rfl, rfl, by decide +kernel, rfl, by decide +kernel, by decide +kernel⟩
set_option maxHeartbeats 40000000 in
theorem ok__law_changed (F : Fun K "_law_changed" "_law_changed" st__law_changed f fd) (z_len : mg "len" = none) (z_isinstance : mg "isinstance" = none) (z_str : mg "str" = none) : FnOk P w K mg base CX0 (n + 1) f fd ["_law_code_here", "_law_number"] (spF K (F__law_changed (n + 1))) := by
  have e : F__law_changed (n + 1) = bodyF 10 2 (f__law_changed ) := funext (e__law_changed n)
  rw [e]
  refine okF F sc__law_changed fun cdv A outer s H E hr => ?_
  have hu := hr.units
  have nd := sc__law_changed.nd
  exact (fs_cons (fs_set (i := 2) nd rfl (by first | exact Or.inl rfl | exact Or.inr rfl) (fe_op op_modD (fe_op op_fdivD (fe_var 1) fe_int) (fe_blt cb_len rfl z_len bt_len (fa_cons (fe_var 0) fa_nil)))) (fs_cons (fs_set (i := 3) nd rfl (by first | exact Or.inl rfl | exact Or.inr rfl) (fe_ix (fe_var 0) (fe_var 2) (fun _ _ => rfl))) (fs_cons (fs_set (i := 4) nd rfl (by first | exact Or.inl rfl | exact Or.inr rfl) (fe_op op_modD (fe_var 1) fe_int)) (fs_cons (fs_if (ft_cmp (op_eqD hu) (fe_var 4) fe_int (nomark _))
    (fs_one (fs_ret (fe_op op_addD (fe_slice (fe_var 0) fo_none (fo_some (fe_var 2))) (fe_slice (fe_var 0) (fo_some (fe_op op_addD (fe_var 2) fe_int)) fo_none))))
    fs_nil) (fs_cons (fs_if (ft_cmp (op_eqD hu) (fe_var 4) fe_int (nomark _))
    (fs_one (fs_ret (fe_op op_addD (fe_slice (fe_var 0) fo_none (fo_some (fe_op op_addD (fe_var 2) fe_int))) (fe_slice (fe_var 0) (fo_some (fe_var 2)) fo_none))))
    fs_nil) (fs_cons (fs_if (ft_cmp (op_eqD hu) (fe_var 4) fe_int (nomark _))
    (fs_cons (fs_set (i := 5) nd rfl (by first | exact Or.inl rfl | exact Or.inr rfl) (fe_op op_addD (fe_slice (fe_var 0) (fo_some (fe_op op_addD (fe_var 2) fe_int)) (fo_some (fe_op op_addD (fe_var 2) fe_int))) (fe_lst (fa_cons (fe_var 3) fa_nil)))) (fs_one (fs_ret (fe_op op_addD (fe_op op_addD (fe_slice (fe_var 0) fo_none (fo_some (fe_var 2))) (fe_var 5)) (fe_slice (fe_var 0) (fo_some (fe_op op_addD (fe_var 2) fe_int)) fo_none)))))
    fs_nil) (fs_cons (fs_set (i := 6) nd rfl (by first | exact Or.inl rfl | exact Or.inr rfl) (fe_op op_addD fe_int (fe_op op_modD (fe_op op_fdivD (fe_var 1) fe_int) (fe_op op_subD (fe_blt cb_len rfl z_len bt_len (fa_cons (fe_var 3) fa_nil)) fe_int)))) (fs_cons (fs_set (i := 7) nd rfl (by first | exact Or.inl rfl | exact Or.inr rfl) (fe_ix (fe_lst (fa_cons fe_int (fa_cons fe_int (fa_cons fe_int (fa_cons fe_int (fa_cons fe_int (fa_cons fe_int (fa_cons (fe_un un_negD fe_int) (fa_cons fe_int fa_nil))))))))) (fe_op op_modD (fe_op op_fdivD (fe_var 1) fe_int) fe_int) (fun _ _ => rfl))) (fs_cons (fs_set (i := 8) nd rfl (by first | exact Or.inl rfl | exact Or.inr rfl) (fe_ix (fe_var 3) (fe_var 6) (fun _ _ => rfl))) (fs_cons (fs_if (ft_val (fe_isi kit_str bt_isinstance bt_str rfl z_isinstance rfl z_str (fe_var 8) (by decide) (by decide) (by decide) (by decide) rfl rfl rfl))
    (fs_one (fs_set (i := 7) nd rfl (by first | exact Or.inl rfl | exact Or.inr rfl) (fe_ix (fe_lst (fa_cons fe_str (fa_cons fe_str (fa_cons fe_str (fa_cons (fe_op op_addD (fe_var 8) fe_str) (fa_cons (fe_slice (fe_var 8) fo_none (fo_some (fe_un un_negD fe_int))) (fa_cons fe_str fa_nil))))))) (fe_op op_modD (fe_op op_fdivD (fe_var 1) fe_int) fe_int) (fun _ _ => rfl))))
    fs_nil) (fs_cons (fs_set (i := 9) nd rfl (by first | exact Or.inl rfl | exact Or.inr rfl) (fe_op op_addD (fe_op op_addD (fe_slice (fe_var 3) fo_none (fo_some (fe_var 6))) (fe_tup (fa_cons (fe_var 7) fa_nil))) (fe_slice (fe_var 3) (fo_some (fe_op op_addD (fe_var 6) fe_int)) fo_none))) (fs_one (fs_ret (fe_op op_addD (fe_op op_addD (fe_slice (fe_var 0) fo_none (fo_some (fe_var 2))) (fe_lst (fa_cons (fe_var 9) fa_nil))) (fe_slice (fe_var 0) (fo_some (fe_op op_addD (fe_var 2) fe_int)) fo_none)))))))))))))))
theorem sc_law : FnScope ["_law_script", "_law_tree_here", "_law_pans", "_law_code_here", "_law_due", "_law_found", "_law_held_here", "_law_number"] ["_law_script"] (defScope st_law) := ⟨rfl, rfl, rfl, by decide +kernel, rfl, by decide +kernel, by decide +kernel⟩
set_option maxHeartbeats 40000000 in
theorem ok_law (F : Fun K "law" "law" st_law f fd) (k__law_mixed : Kn P w K mg base n "_law_mixed" ["_law_script", "_law_k"] (F__law_mixed n)) (k__law_drawn_tree : Kn P w K mg base n "_law_drawn_tree" ["_law_number"] (F__law_drawn_tree n)) (k__law_code : Kn P w K mg base n "_law_code" ["_law_tree_here", "_law_number", "_law_pans"] (F__law_code n)) (k__law_changed : Kn P w K mg base n "_law_changed" ["_law_code_here", "_law_number"] (F__law_changed n)) (k__law_run : Kn P w K mg base n "_law_run" ["_law_tree_here", "_law_code_here", "_law_pans"] (F__law_run n)) (k_numbers : Kn P w K mg base n "numbers" ["tree", "code", "pans"] (F_numbers n)) (k__law_part : Kn P w K mg base n "_law_part" ["_law_tree_here", "_law_address"] (F__law_part n)) (k__law_worth : Kn P w K mg base n "_law_worth" ["_law_tree_here"] (F__law_worth n)) (z_tuple : mg "tuple" = none) (z_isinstance : mg "isinstance" = none) (z_len : mg "len" = none) (z_zip : mg "zip" = none) (z_bool : mg "bool" = none) : FnOk P w K mg base CX0 (n + 1) f fd ["_law_script"] (spF K (F_law (n + 1))) := by
  have e : F_law (n + 1) = bodyF 8 1 (f_law (F__law_mixed n) (F__law_drawn_tree n) (F__law_code n) (F__law_changed n) (F__law_run n) (F_numbers n) (F__law_part n) (F__law_worth n)) := funext (e_law n)
  rw [e]
  refine okF F sc_law fun cdv A outer s H E hr => ?_
  have hu := hr.units
  have nd := sc_law.nd
  exact (fs_cons (fs_set (i := 1) nd rfl (by first | exact Or.inl rfl | exact Or.inr rfl) (fe_call k__law_drawn_tree hr rfl (fa_cons (fe_call k__law_mixed hr rfl (fa_cons (fe_var 0) (fa_cons fe_int fa_nil))) fa_nil))) (fs_cons (fs_set (i := 2) nd rfl (by first | exact Or.inl rfl | exact Or.inr rfl) (fe_op op_addD fe_int (fe_op op_modD (fe_call k__law_mixed hr rfl (fa_cons (fe_var 0) (fa_cons fe_int fa_nil))) fe_int))) (fs_cons (fs_set (i := 3) nd rfl (by first | exact Or.inl rfl | exact Or.inr rfl) (fe_call k__law_code hr rfl (fa_cons (fe_var 1) (fa_cons (fe_call k__law_mixed hr rfl (fa_cons (fe_var 0) (fa_cons fe_int fa_nil))) (fa_cons (fe_var 2) fa_nil))))) (fs_cons (fs_if (ft_cmp (op_eqD hu) (fe_op op_modD (fe_call k__law_mixed hr rfl (fa_cons (fe_var 0) (fa_cons fe_int fa_nil))) fe_int) fe_int (nomark _))
    (fs_one (fs_set (i := 3) nd rfl (by first | exact Or.inl rfl | exact Or.inr rfl) (fe_call k__law_changed hr rfl (fa_cons (fe_var 3) (fa_cons (fe_op op_fdivD (fe_call k__law_mixed hr rfl (fa_cons (fe_var 0) (fa_cons fe_int fa_nil))) fe_int) fa_nil)))))
    fs_nil) (fs_cons (fs_set (i := 4) nd rfl (by first | exact Or.inl rfl | exact Or.inr rfl) (fe_call k__law_run hr rfl (fa_cons (fe_var 1) (fa_cons (fe_var 3) (fa_cons (fe_var 2) fa_nil))))) (fs_cons (fs_if (ft_isN (fe_var 4))
    (fs_one (fs_ret fe_bl))
    fs_nil) (fs_cons (fs_set (i := 5) nd rfl (by first | exact Or.inl rfl | exact Or.inr rfl) (fe_call k_numbers hr rfl (fa_cons (fe_var 1) (fa_cons (fe_typ cb_tuple rfl z_tuple bt_tuple (fa_cons (fe_var 3) fa_nil)) (fa_cons (fe_var 2) fa_nil))))) (fs_cons (fs_if (FWx.pt (fw_or (ft_not (ft_val (fe_isi kit_tup bt_isinstance bt_tuple rfl z_isinstance rfl z_tuple (fe_var 5) (by decide) (by decide) (by decide) (by decide) rfl rfl rfl))) (fw_or1 (ft_cmp (op_neD hu) (fe_blt cb_len rfl z_len bt_len (fa_cons (fe_var 5) fa_nil)) (fe_var 2) (nomark _)))))
    (fs_one (fs_ret fe_bl))
    fs_nil) (fs_cons (fs_forZip rfl z_zip (fe_var 4) (fe_var 5) (fg_cons (i := 6) nd rfl (by first | exact Or.inl rfl | exact Or.inr rfl) (fg_cons (i := 7) nd rfl (by first | exact Or.inl rfl | exact Or.inr rfl) fg_nil))
    (fs_cons (fs_if (FWx.pt (fw_or (FWx.pt (fw_and (ft_isN (fe_var 6)) (fw_and1 (ft_notN (fe_var 7))))) (fw_or1 (ft_val (fe_isi kit_bool bt_isinstance bt_bool rfl z_isinstance rfl z_bool (fe_var 7) (by decide) (by decide) (by decide) (by decide) rfl rfl rfl)))))
    (fs_one (fs_ret fe_bl))
    fs_nil) (fs_one (fs_if (FWx.pt (fw_and (ft_notN (fe_var 6)) (fw_and1 (ft_cmp (op_neD hu) (fe_var 7) (fe_call k__law_worth hr rfl (fa_cons (fe_call k__law_part hr rfl (fa_cons (fe_var 1) (fa_cons (fe_var 6) fa_nil))) fa_nil)) (nomark _)))))
    (fs_one (fs_ret fe_bl))
    fs_nil)))) (fs_one (fs_ret fe_bl)))))))))))
/-- a def of the text as it stands behind the top -/
structure Df (K : PySem.W.Frag) (mg : Str → Option Value) (x : Str) (st : Stmt) (ps : List Str) : Prop where
  ex : ∃ (f : Addr) (fd : FuncData), Fun K x x st f fd ∧ mg x = some (.ref f) ∧ Binds K fd ps []
structure Lv (P : Program) (w : World) (K : PySem.W.Frag) (mg : Str → Option Value) (base : Heap) (n : Nat) : Prop where
  k_joined_worth : Kn P w K mg base n "joined_worth" ["kind", "one", "other"] (F_joined_worth n)
  k_part_at : Kn P w K mg base n "part_at" ["tree", "address"] (F_part_at n)
  k_is_there : Kn P w K mg base n "is_there" ["holders", "index"] (F_is_there n)
  k_leads_to_number : Kn P w K mg base n "leads_to_number" ["tree", "address"] (F_leads_to_number n)
  k_held_at : Kn P w K mg base n "held_at" ["holders", "index"] (F_held_at n)
  k_holds_parts : Kn P w K mg base n "holds_parts" ["tree", "deed", "held"] (F_holds_parts n)
  k_can_be_done : Kn P w K mg base n "can_be_done" ["tree", "deed", "held", "shelf"] (F_can_be_done n)
  k_makes : Kn P w K mg base n "makes" ["deed"] (F_makes n)
  k_move : KnK P w K mg base n "move" ["deed", "held", "shelf"] (F_move n)
  k_run : Kn P w K mg base n "run" ["tree", "code", "pans"] (F_run n)
  k_number_made : Kn P w K mg base n "number_made" ["tree", "deed", "held"] (F_number_made n)
  k_numbers : Kn P w K mg base n "numbers" ["tree", "code", "pans"] (F_numbers n)
  k__law_cell_at : Kn P w K mg base n "_law_cell_at" ["_law_script", "_law_k"] (F__law_cell_at n)
  k__law_mixed : Kn P w K mg base n "_law_mixed" ["_law_script", "_law_k"] (F__law_mixed n)
  k__law_drawn : Kn P w K mg base n "_law_drawn" ["_law_number", "_law_k"] (F__law_drawn n)
  k__law_tree : Kn P w K mg base n "_law_tree" ["_law_number", "_law_many", "_law_kind"] (F__law_tree n)
  k__law_drawn_tree : Kn P w K mg base n "_law_drawn_tree" ["_law_number"] (F__law_drawn_tree n)
  k__law_part : Kn P w K mg base n "_law_part" ["_law_tree_here", "_law_address"] (F__law_part n)
  k__law_addresses : Kn P w K mg base n "_law_addresses" ["_law_tree_here", "_law_address"] (F__law_addresses n)
  k__law_worth : Kn P w K mg base n "_law_worth" ["_law_tree_here"] (F__law_worth n)
  k__law_held : Kn P w K mg base n "_law_held" ["_law_row", "_law_at"] (F__law_held n)
  k__law_brings : Kn P w K mg base n "_law_brings" ["_law_tree_here", "_law_row", "_law_shelf", "_law_deed"] (F__law_brings n)
  k__law_run : Kn P w K mg base n "_law_run" ["_law_tree_here", "_law_code_here", "_law_pans"] (F__law_run n)
  k__law_work : Kn P w K mg base n "_law_work" ["_law_tree_here", "_law_address", "_law_free", "_law_number", "_law_every"] (F__law_work n)
  k__law_code : Kn P w K mg base n "_law_code" ["_law_tree_here", "_law_number", "_law_pans"] (F__law_code n)
  k__law_changed : Kn P w K mg base n "_law_changed" ["_law_code_here", "_law_number"] (F__law_changed n)
  k_law : Kn P w K mg base n "law" ["_law_script"] (F_law n)
theorem kn0 {x : Str} {ps : List Str} {st : Stmt} {F : List D → Option D} (d : Df K mg x st ps) (h : ∀ ds, F ds = none) : Kn P w K mg base 0 x ps F := by
  obtain ⟨f, fd, G, hm, hb⟩ := d.ex
  have no : ∀ vs H Q E, ¬ spF K F vs H Q E := fun vs H Q E h' => by
    obtain ⟨ds, d, _, e, _⟩ := h'
    rw [h ds] at e; cases e
  exact ⟨f, fd, ⟨fun vs H Q E h => absurd h (no vs H Q E), fun A outer s H args us vs Q E _ _ _ _ h => absurd h (no vs H Q E)⟩, hm, G.kp, hb⟩
theorem kn0K {x : Str} {ps : List Str} {st : Stmt} {g : FK} (d : Df K mg x st ps) (h : ∀ m, g m = none) : KnK P w K mg base 0 x ps g := by
  obtain ⟨f, fd, G, hm, hb⟩ := d.ex
  have no : ∀ vs H Q E, ¬ spW K ps.length g vs H Q E := fun vs H Q E h' => by
    obtain ⟨_, as, m, m', _, e, _⟩ := h'
    rw [h m] at e; cases e
  exact ⟨f, fd, ⟨fun vs H Q E h => absurd h (no vs H Q E), fun A outer s H args us vs Q E _ _ _ _ h => absurd h (no vs H Q E)⟩, hm, G.kp, hb⟩
theorem lv (d_joined_worth : Df K mg "joined_worth" st_joined_worth ["kind", "one", "other"]) (d_part_at : Df K mg "part_at" st_part_at ["tree", "address"]) (d_is_there : Df K mg "is_there" st_is_there ["holders", "index"]) (d_leads_to_number : Df K mg "leads_to_number" st_leads_to_number ["tree", "address"]) (d_held_at : Df K mg "held_at" st_held_at ["holders", "index"]) (d_holds_parts : Df K mg "holds_parts" st_holds_parts ["tree", "deed", "held"]) (d_can_be_done : Df K mg "can_be_done" st_can_be_done ["tree", "deed", "held", "shelf"]) (d_makes : Df K mg "makes" st_makes ["deed"]) (d_move : Df K mg "move" st_move ["deed", "held", "shelf"]) (d_run : Df K mg "run" st_run ["tree", "code", "pans"]) (d_number_made : Df K mg "number_made" st_number_made ["tree", "deed", "held"]) (d_numbers : Df K mg "numbers" st_numbers ["tree", "code", "pans"]) (d__law_cell_at : Df K mg "_law_cell_at" st__law_cell_at ["_law_script", "_law_k"]) (d__law_mixed : Df K mg "_law_mixed" st__law_mixed ["_law_script", "_law_k"]) (d__law_drawn : Df K mg "_law_drawn" st__law_drawn ["_law_number", "_law_k"]) (d__law_tree : Df K mg "_law_tree" st__law_tree ["_law_number", "_law_many", "_law_kind"]) (d__law_drawn_tree : Df K mg "_law_drawn_tree" st__law_drawn_tree ["_law_number"]) (d__law_part : Df K mg "_law_part" st__law_part ["_law_tree_here", "_law_address"]) (d__law_addresses : Df K mg "_law_addresses" st__law_addresses ["_law_tree_here", "_law_address"]) (d__law_worth : Df K mg "_law_worth" st__law_worth ["_law_tree_here"]) (d__law_held : Df K mg "_law_held" st__law_held ["_law_row", "_law_at"]) (d__law_brings : Df K mg "_law_brings" st__law_brings ["_law_tree_here", "_law_row", "_law_shelf", "_law_deed"]) (d__law_run : Df K mg "_law_run" st__law_run ["_law_tree_here", "_law_code_here", "_law_pans"]) (d__law_work : Df K mg "_law_work" st__law_work ["_law_tree_here", "_law_address", "_law_free", "_law_number", "_law_every"]) (d__law_code : Df K mg "_law_code" st__law_code ["_law_tree_here", "_law_number", "_law_pans"]) (d__law_changed : Df K mg "_law_changed" st__law_changed ["_law_code_here", "_law_number"]) (d_law : Df K mg "law" st_law ["_law_script"]) (z_len : mg "len" = none) (z_tuple : mg "tuple" = none) (z_int : mg "int" = none) (z_range : mg "range" = none) (z_list : mg "list" = none) (z_isinstance : mg "isinstance" = none) (z_str : mg "str" = none) (z_zip : mg "zip" = none) (z_bool : mg "bool" = none) (g_PLACES : Gc K mg "PLACES" c_PLACES) : ∀ n, Lv P w K mg base n
  | 0 => ⟨kn0 d_joined_worth fun _ => rfl, kn0 d_part_at fun _ => rfl, kn0 d_is_there fun _ => rfl, kn0 d_leads_to_number fun _ => rfl, kn0 d_held_at fun _ => rfl, kn0 d_holds_parts fun _ => rfl, kn0 d_can_be_done fun _ => rfl, kn0 d_makes fun _ => rfl, kn0K d_move fun _ => rfl, kn0 d_run fun _ => rfl, kn0 d_number_made fun _ => rfl, kn0 d_numbers fun _ => rfl, kn0 d__law_cell_at fun _ => rfl, kn0 d__law_mixed fun _ => rfl, kn0 d__law_drawn fun _ => rfl, kn0 d__law_tree fun _ => rfl, kn0 d__law_drawn_tree fun _ => rfl, kn0 d__law_part fun _ => rfl, kn0 d__law_addresses fun _ => rfl, kn0 d__law_worth fun _ => rfl, kn0 d__law_held fun _ => rfl, kn0 d__law_brings fun _ => rfl, kn0 d__law_run fun _ => rfl, kn0 d__law_work fun _ => rfl, kn0 d__law_code fun _ => rfl, kn0 d__law_changed fun _ => rfl, kn0 d_law fun _ => rfl⟩
  | n + 1 => by
    have ih := lv d_joined_worth d_part_at d_is_there d_leads_to_number d_held_at d_holds_parts d_can_be_done d_makes d_move d_run d_number_made d_numbers d__law_cell_at d__law_mixed d__law_drawn d__law_tree d__law_drawn_tree d__law_part d__law_addresses d__law_worth d__law_held d__law_brings d__law_run d__law_work d__law_code d__law_changed d_law z_len z_tuple z_int z_range z_list z_isinstance z_str z_zip z_bool g_PLACES n
    obtain ⟨a_joined_worth, b_joined_worth, u_joined_worth, m_joined_worth, w_joined_worth⟩ := d_joined_worth.ex
    obtain ⟨a_part_at, b_part_at, u_part_at, m_part_at, w_part_at⟩ := d_part_at.ex
    obtain ⟨a_is_there, b_is_there, u_is_there, m_is_there, w_is_there⟩ := d_is_there.ex
    obtain ⟨a_leads_to_number, b_leads_to_number, u_leads_to_number, m_leads_to_number, w_leads_to_number⟩ := d_leads_to_number.ex
    obtain ⟨a_held_at, b_held_at, u_held_at, m_held_at, w_held_at⟩ := d_held_at.ex
    obtain ⟨a_holds_parts, b_holds_parts, u_holds_parts, m_holds_parts, w_holds_parts⟩ := d_holds_parts.ex
    obtain ⟨a_can_be_done, b_can_be_done, u_can_be_done, m_can_be_done, w_can_be_done⟩ := d_can_be_done.ex
    obtain ⟨a_makes, b_makes, u_makes, m_makes, w_makes⟩ := d_makes.ex
    obtain ⟨a_move, b_move, u_move, m_move, w_move⟩ := d_move.ex
    obtain ⟨a_run, b_run, u_run, m_run, w_run⟩ := d_run.ex
    obtain ⟨a_number_made, b_number_made, u_number_made, m_number_made, w_number_made⟩ := d_number_made.ex
    obtain ⟨a_numbers, b_numbers, u_numbers, m_numbers, w_numbers⟩ := d_numbers.ex
    obtain ⟨a__law_cell_at, b__law_cell_at, u__law_cell_at, m__law_cell_at, w__law_cell_at⟩ := d__law_cell_at.ex
    obtain ⟨a__law_mixed, b__law_mixed, u__law_mixed, m__law_mixed, w__law_mixed⟩ := d__law_mixed.ex
    obtain ⟨a__law_drawn, b__law_drawn, u__law_drawn, m__law_drawn, w__law_drawn⟩ := d__law_drawn.ex
    obtain ⟨a__law_tree, b__law_tree, u__law_tree, m__law_tree, w__law_tree⟩ := d__law_tree.ex
    obtain ⟨a__law_drawn_tree, b__law_drawn_tree, u__law_drawn_tree, m__law_drawn_tree, w__law_drawn_tree⟩ := d__law_drawn_tree.ex
    obtain ⟨a__law_part, b__law_part, u__law_part, m__law_part, w__law_part⟩ := d__law_part.ex
    obtain ⟨a__law_addresses, b__law_addresses, u__law_addresses, m__law_addresses, w__law_addresses⟩ := d__law_addresses.ex
    obtain ⟨a__law_worth, b__law_worth, u__law_worth, m__law_worth, w__law_worth⟩ := d__law_worth.ex
    obtain ⟨a__law_held, b__law_held, u__law_held, m__law_held, w__law_held⟩ := d__law_held.ex
    obtain ⟨a__law_brings, b__law_brings, u__law_brings, m__law_brings, w__law_brings⟩ := d__law_brings.ex
    obtain ⟨a__law_run, b__law_run, u__law_run, m__law_run, w__law_run⟩ := d__law_run.ex
    obtain ⟨a__law_work, b__law_work, u__law_work, m__law_work, w__law_work⟩ := d__law_work.ex
    obtain ⟨a__law_code, b__law_code, u__law_code, m__law_code, w__law_code⟩ := d__law_code.ex
    obtain ⟨a__law_changed, b__law_changed, u__law_changed, m__law_changed, w__law_changed⟩ := d__law_changed.ex
    obtain ⟨a_law, b_law, u_law, m_law, w_law⟩ := d_law.ex
    exact ⟨⟨a_joined_worth, b_joined_worth, ok_joined_worth u_joined_worth , m_joined_worth, u_joined_worth.kp, w_joined_worth⟩, ⟨a_part_at, b_part_at, ok_part_at u_part_at , m_part_at, u_part_at.kp, w_part_at⟩, ⟨a_is_there, b_is_there, ok_is_there u_is_there z_len, m_is_there, u_is_there.kp, w_is_there⟩, ⟨a_leads_to_number, b_leads_to_number, ok_leads_to_number u_leads_to_number ih.k_part_at, m_leads_to_number, u_leads_to_number.kp, w_leads_to_number⟩, ⟨a_held_at, b_held_at, ok_held_at u_held_at ih.k_is_there, m_held_at, u_held_at.kp, w_held_at⟩, ⟨a_holds_parts, b_holds_parts, ok_holds_parts u_holds_parts ih.k_part_at ih.k_held_at, m_holds_parts, u_holds_parts.kp, w_holds_parts⟩, ⟨a_can_be_done, b_can_be_done, ok_can_be_done u_can_be_done ih.k_is_there ih.k_leads_to_number ih.k_holds_parts ih.k_held_at, m_can_be_done, u_can_be_done.kp, w_can_be_done⟩, ⟨a_makes, b_makes, ok_makes u_makes , m_makes, u_makes.kp, w_makes⟩, ⟨a_move, b_move, ok_move u_move , m_move, u_move.kp, w_move⟩, ⟨a_run, b_run, ok_run u_run ih.k_can_be_done ih.k_makes ih.k_move z_tuple g_PLACES, m_run, u_run.kp, w_run⟩, ⟨a_number_made, b_number_made, ok_number_made u_number_made ih.k_part_at ih.k_joined_worth, m_number_made, u_number_made.kp, w_number_made⟩, ⟨a_numbers, b_numbers, ok_numbers u_numbers ih.k_run ih.k_makes ih.k_number_made ih.k_move z_tuple g_PLACES, m_numbers, u_numbers.kp, w_numbers⟩, ⟨a__law_cell_at, b__law_cell_at, ok__law_cell_at u__law_cell_at z_len, m__law_cell_at, u__law_cell_at.kp, w__law_cell_at⟩, ⟨a__law_mixed, b__law_mixed, ok__law_mixed u__law_mixed ih.k__law_cell_at, m__law_mixed, u__law_mixed.kp, w__law_mixed⟩, ⟨a__law_drawn, b__law_drawn, ok__law_drawn u__law_drawn , m__law_drawn, u__law_drawn.kp, w__law_drawn⟩, ⟨a__law_tree, b__law_tree, ok__law_tree u__law_tree ih.k__law_drawn ih.k__law_tree, m__law_tree, u__law_tree.kp, w__law_tree⟩, ⟨a__law_drawn_tree, b__law_drawn_tree, ok__law_drawn_tree u__law_drawn_tree ih.k__law_tree, m__law_drawn_tree, u__law_drawn_tree.kp, w__law_drawn_tree⟩, ⟨a__law_part, b__law_part, ok__law_part u__law_part , m__law_part, u__law_part.kp, w__law_part⟩, ⟨a__law_addresses, b__law_addresses, ok__law_addresses u__law_addresses ih.k__law_addresses, m__law_addresses, u__law_addresses.kp, w__law_addresses⟩, ⟨a__law_worth, b__law_worth, ok__law_worth u__law_worth ih.k__law_worth z_int, m__law_worth, u__law_worth.kp, w__law_worth⟩, ⟨a__law_held, b__law_held, ok__law_held u__law_held z_len, m__law_held, u__law_held.kp, w__law_held⟩, ⟨a__law_brings, b__law_brings, ok__law_brings u__law_brings ih.k__law_held ih.k__law_part, m__law_brings, u__law_brings.kp, w__law_brings⟩, ⟨a__law_run, b__law_run, ok__law_run u__law_run ih.k__law_brings z_int z_len z_tuple, m__law_run, u__law_run.kp, w__law_run⟩, ⟨a__law_work, b__law_work, ok__law_work u__law_work ih.k__law_part ih.k__law_drawn ih.k__law_work z_len z_int, m__law_work, u__law_work.kp, w__law_work⟩, ⟨a__law_code, b__law_code, ok__law_code u__law_code ih.k__law_addresses ih.k__law_work z_len z_range z_list, m__law_code, u__law_code.kp, w__law_code⟩, ⟨a__law_changed, b__law_changed, ok__law_changed u__law_changed z_len z_isinstance z_str, m__law_changed, u__law_changed.kp, w__law_changed⟩, ⟨a_law, b_law, ok_law u_law ih.k__law_mixed ih.k__law_drawn_tree ih.k__law_code ih.k__law_changed ih.k__law_run ih.k_numbers ih.k__law_part ih.k__law_worth z_tuple z_isinstance z_len z_zip z_bool, m_law, u_law.kp, w_law⟩⟩
end
theorem all_mk {l : PySem.W.OpenLaw} {w : World} {K : PySem.W.Frag} {h : Heap} {mg : Str → Option Value} {fa : Addr} (X : K.In h) (G : h.Ns mainGlobals mg) (hfa : mg "law" = some (.ref fa))
    {f0 : Addr} {od0 an0 : Option Addr} {sl0 : Array (Option Value)} {oc0 kV0 dc0 pm0 cd0 ct0 : Value} {f1 : Addr} {od1 an1 : Option Addr} {sl1 : Array (Option Value)} {oc1 kV1 dc1 pm1 cd1 ct1 : Value} {f2 : Addr} {od2 an2 : Option Addr} {sl2 : Array (Option Value)} {oc2 kV2 dc2 pm2 cd2 ct2 : Value} {f3 : Addr} {od3 an3 : Option Addr} {sl3 : Array (Option Value)} {oc3 kV3 dc3 pm3 cd3 ct3 : Value} {f4 : Addr} {od4 an4 : Option Addr} {sl4 : Array (Option Value)} {oc4 kV4 dc4 pm4 cd4 ct4 : Value} {f5 : Addr} {od5 an5 : Option Addr} {sl5 : Array (Option Value)} {oc5 kV5 dc5 pm5 cd5 ct5 : Value} {f6 : Addr} {od6 an6 : Option Addr} {sl6 : Array (Option Value)} {oc6 kV6 dc6 pm6 cd6 ct6 : Value} {f7 : Addr} {od7 an7 : Option Addr} {sl7 : Array (Option Value)} {oc7 kV7 dc7 pm7 cd7 ct7 : Value} {f8 : Addr} {od8 an8 : Option Addr} {sl8 : Array (Option Value)} {oc8 kV8 dc8 pm8 cd8 ct8 : Value} {f9 : Addr} {od9 an9 : Option Addr} {sl9 : Array (Option Value)} {oc9 kV9 dc9 pm9 cd9 ct9 : Value} {f10 : Addr} {od10 an10 : Option Addr} {sl10 : Array (Option Value)} {oc10 kV10 dc10 pm10 cd10 ct10 : Value} {f11 : Addr} {od11 an11 : Option Addr} {sl11 : Array (Option Value)} {oc11 kV11 dc11 pm11 cd11 ct11 : Value} {f12 : Addr} {od12 an12 : Option Addr} {sl12 : Array (Option Value)} {oc12 kV12 dc12 pm12 cd12 ct12 : Value} {f13 : Addr} {od13 an13 : Option Addr} {sl13 : Array (Option Value)} {oc13 kV13 dc13 pm13 cd13 ct13 : Value} {f14 : Addr} {od14 an14 : Option Addr} {sl14 : Array (Option Value)} {oc14 kV14 dc14 pm14 cd14 ct14 : Value} {f15 : Addr} {od15 an15 : Option Addr} {sl15 : Array (Option Value)} {oc15 kV15 dc15 pm15 cd15 ct15 : Value} {f16 : Addr} {od16 an16 : Option Addr} {sl16 : Array (Option Value)} {oc16 kV16 dc16 pm16 cd16 ct16 : Value} {f17 : Addr} {od17 an17 : Option Addr} {sl17 : Array (Option Value)} {oc17 kV17 dc17 pm17 cd17 ct17 : Value} {f18 : Addr} {od18 an18 : Option Addr} {sl18 : Array (Option Value)} {oc18 kV18 dc18 pm18 cd18 ct18 : Value} {f19 : Addr} {od19 an19 : Option Addr} {sl19 : Array (Option Value)} {oc19 kV19 dc19 pm19 cd19 ct19 : Value} {f20 : Addr} {od20 an20 : Option Addr} {sl20 : Array (Option Value)} {oc20 kV20 dc20 pm20 cd20 ct20 : Value} {f21 : Addr} {od21 an21 : Option Addr} {sl21 : Array (Option Value)} {oc21 kV21 dc21 pm21 cd21 ct21 : Value} {f22 : Addr} {od22 an22 : Option Addr} {sl22 : Array (Option Value)} {oc22 kV22 dc22 pm22 cd22 ct22 : Value} {f23 : Addr} {od23 an23 : Option Addr} {sl23 : Array (Option Value)} {oc23 kV23 dc23 pm23 cd23 ct23 : Value} {f24 : Addr} {od24 an24 : Option Addr} {sl24 : Array (Option Value)} {oc24 kV24 dc24 pm24 cd24 ct24 : Value} {f25 : Addr} {od25 an25 : Option Addr} {sl25 : Array (Option Value)} {oc25 kV25 dc25 pm25 cd25 ct25 : Value} {f26 : Addr} {od26 an26 : Option Addr} {sl26 : Array (Option Value)} {oc26 kV26 dc26 pm26 cd26 ct26 : Value} {gt0 : Tok}
    (a0 : PySem.W.nsIn K mainGlobals "joined_worth" = some (some (.ref f0))) (l0 : K.lookup f0 = some ⟨oc0, od0, .func (PySem.W.fnOf "joined_worth" "joined_worth" (defArgs st_joined_worth) (defBody st_joined_worth) (defScope st_joined_worth) .none kV0 dc0 pm0 an0 cd0 ct0), sl0⟩) (c0 : PySem.W.codeIn K cd0 "joined_worth" = true) (k0 : PySem.W.keepIn K (.ref f0) = true)
    (a1 : PySem.W.nsIn K mainGlobals "part_at" = some (some (.ref f1))) (l1 : K.lookup f1 = some ⟨oc1, od1, .func (PySem.W.fnOf "part_at" "part_at" (defArgs st_part_at) (defBody st_part_at) (defScope st_part_at) .none kV1 dc1 pm1 an1 cd1 ct1), sl1⟩) (c1 : PySem.W.codeIn K cd1 "part_at" = true) (k1 : PySem.W.keepIn K (.ref f1) = true)
    (a2 : PySem.W.nsIn K mainGlobals "is_there" = some (some (.ref f2))) (l2 : K.lookup f2 = some ⟨oc2, od2, .func (PySem.W.fnOf "is_there" "is_there" (defArgs st_is_there) (defBody st_is_there) (defScope st_is_there) .none kV2 dc2 pm2 an2 cd2 ct2), sl2⟩) (c2 : PySem.W.codeIn K cd2 "is_there" = true) (k2 : PySem.W.keepIn K (.ref f2) = true)
    (a3 : PySem.W.nsIn K mainGlobals "leads_to_number" = some (some (.ref f3))) (l3 : K.lookup f3 = some ⟨oc3, od3, .func (PySem.W.fnOf "leads_to_number" "leads_to_number" (defArgs st_leads_to_number) (defBody st_leads_to_number) (defScope st_leads_to_number) .none kV3 dc3 pm3 an3 cd3 ct3), sl3⟩) (c3 : PySem.W.codeIn K cd3 "leads_to_number" = true) (k3 : PySem.W.keepIn K (.ref f3) = true)
    (a4 : PySem.W.nsIn K mainGlobals "held_at" = some (some (.ref f4))) (l4 : K.lookup f4 = some ⟨oc4, od4, .func (PySem.W.fnOf "held_at" "held_at" (defArgs st_held_at) (defBody st_held_at) (defScope st_held_at) .none kV4 dc4 pm4 an4 cd4 ct4), sl4⟩) (c4 : PySem.W.codeIn K cd4 "held_at" = true) (k4 : PySem.W.keepIn K (.ref f4) = true)
    (a5 : PySem.W.nsIn K mainGlobals "holds_parts" = some (some (.ref f5))) (l5 : K.lookup f5 = some ⟨oc5, od5, .func (PySem.W.fnOf "holds_parts" "holds_parts" (defArgs st_holds_parts) (defBody st_holds_parts) (defScope st_holds_parts) .none kV5 dc5 pm5 an5 cd5 ct5), sl5⟩) (c5 : PySem.W.codeIn K cd5 "holds_parts" = true) (k5 : PySem.W.keepIn K (.ref f5) = true)
    (a6 : PySem.W.nsIn K mainGlobals "can_be_done" = some (some (.ref f6))) (l6 : K.lookup f6 = some ⟨oc6, od6, .func (PySem.W.fnOf "can_be_done" "can_be_done" (defArgs st_can_be_done) (defBody st_can_be_done) (defScope st_can_be_done) .none kV6 dc6 pm6 an6 cd6 ct6), sl6⟩) (c6 : PySem.W.codeIn K cd6 "can_be_done" = true) (k6 : PySem.W.keepIn K (.ref f6) = true)
    (a7 : PySem.W.nsIn K mainGlobals "makes" = some (some (.ref f7))) (l7 : K.lookup f7 = some ⟨oc7, od7, .func (PySem.W.fnOf "makes" "makes" (defArgs st_makes) (defBody st_makes) (defScope st_makes) .none kV7 dc7 pm7 an7 cd7 ct7), sl7⟩) (c7 : PySem.W.codeIn K cd7 "makes" = true) (k7 : PySem.W.keepIn K (.ref f7) = true)
    (a8 : PySem.W.nsIn K mainGlobals "move" = some (some (.ref f8))) (l8 : K.lookup f8 = some ⟨oc8, od8, .func (PySem.W.fnOf "move" "move" (defArgs st_move) (defBody st_move) (defScope st_move) .none kV8 dc8 pm8 an8 cd8 ct8), sl8⟩) (c8 : PySem.W.codeIn K cd8 "move" = true) (k8 : PySem.W.keepIn K (.ref f8) = true)
    (a9 : PySem.W.nsIn K mainGlobals "run" = some (some (.ref f9))) (l9 : K.lookup f9 = some ⟨oc9, od9, .func (PySem.W.fnOf "run" "run" (defArgs st_run) (defBody st_run) (defScope st_run) .none kV9 dc9 pm9 an9 cd9 ct9), sl9⟩) (c9 : PySem.W.codeIn K cd9 "run" = true) (k9 : PySem.W.keepIn K (.ref f9) = true)
    (a10 : PySem.W.nsIn K mainGlobals "number_made" = some (some (.ref f10))) (l10 : K.lookup f10 = some ⟨oc10, od10, .func (PySem.W.fnOf "number_made" "number_made" (defArgs st_number_made) (defBody st_number_made) (defScope st_number_made) .none kV10 dc10 pm10 an10 cd10 ct10), sl10⟩) (c10 : PySem.W.codeIn K cd10 "number_made" = true) (k10 : PySem.W.keepIn K (.ref f10) = true)
    (a11 : PySem.W.nsIn K mainGlobals "numbers" = some (some (.ref f11))) (l11 : K.lookup f11 = some ⟨oc11, od11, .func (PySem.W.fnOf "numbers" "numbers" (defArgs st_numbers) (defBody st_numbers) (defScope st_numbers) .none kV11 dc11 pm11 an11 cd11 ct11), sl11⟩) (c11 : PySem.W.codeIn K cd11 "numbers" = true) (k11 : PySem.W.keepIn K (.ref f11) = true)
    (a12 : PySem.W.nsIn K mainGlobals "_law_cell_at" = some (some (.ref f12))) (l12 : K.lookup f12 = some ⟨oc12, od12, .func (PySem.W.fnOf "_law_cell_at" "_law_cell_at" (defArgs st__law_cell_at) (defBody st__law_cell_at) (defScope st__law_cell_at) .none kV12 dc12 pm12 an12 cd12 ct12), sl12⟩) (c12 : PySem.W.codeIn K cd12 "_law_cell_at" = true) (k12 : PySem.W.keepIn K (.ref f12) = true)
    (a13 : PySem.W.nsIn K mainGlobals "_law_mixed" = some (some (.ref f13))) (l13 : K.lookup f13 = some ⟨oc13, od13, .func (PySem.W.fnOf "_law_mixed" "_law_mixed" (defArgs st__law_mixed) (defBody st__law_mixed) (defScope st__law_mixed) .none kV13 dc13 pm13 an13 cd13 ct13), sl13⟩) (c13 : PySem.W.codeIn K cd13 "_law_mixed" = true) (k13 : PySem.W.keepIn K (.ref f13) = true)
    (a14 : PySem.W.nsIn K mainGlobals "_law_drawn" = some (some (.ref f14))) (l14 : K.lookup f14 = some ⟨oc14, od14, .func (PySem.W.fnOf "_law_drawn" "_law_drawn" (defArgs st__law_drawn) (defBody st__law_drawn) (defScope st__law_drawn) .none kV14 dc14 pm14 an14 cd14 ct14), sl14⟩) (c14 : PySem.W.codeIn K cd14 "_law_drawn" = true) (k14 : PySem.W.keepIn K (.ref f14) = true)
    (a15 : PySem.W.nsIn K mainGlobals "_law_tree" = some (some (.ref f15))) (l15 : K.lookup f15 = some ⟨oc15, od15, .func (PySem.W.fnOf "_law_tree" "_law_tree" (defArgs st__law_tree) (defBody st__law_tree) (defScope st__law_tree) .none kV15 dc15 pm15 an15 cd15 ct15), sl15⟩) (c15 : PySem.W.codeIn K cd15 "_law_tree" = true) (k15 : PySem.W.keepIn K (.ref f15) = true)
    (a16 : PySem.W.nsIn K mainGlobals "_law_drawn_tree" = some (some (.ref f16))) (l16 : K.lookup f16 = some ⟨oc16, od16, .func (PySem.W.fnOf "_law_drawn_tree" "_law_drawn_tree" (defArgs st__law_drawn_tree) (defBody st__law_drawn_tree) (defScope st__law_drawn_tree) .none kV16 dc16 pm16 an16 cd16 ct16), sl16⟩) (c16 : PySem.W.codeIn K cd16 "_law_drawn_tree" = true) (k16 : PySem.W.keepIn K (.ref f16) = true)
    (a17 : PySem.W.nsIn K mainGlobals "_law_part" = some (some (.ref f17))) (l17 : K.lookup f17 = some ⟨oc17, od17, .func (PySem.W.fnOf "_law_part" "_law_part" (defArgs st__law_part) (defBody st__law_part) (defScope st__law_part) .none kV17 dc17 pm17 an17 cd17 ct17), sl17⟩) (c17 : PySem.W.codeIn K cd17 "_law_part" = true) (k17 : PySem.W.keepIn K (.ref f17) = true)
    (a18 : PySem.W.nsIn K mainGlobals "_law_addresses" = some (some (.ref f18))) (l18 : K.lookup f18 = some ⟨oc18, od18, .func (PySem.W.fnOf "_law_addresses" "_law_addresses" (defArgs st__law_addresses) (defBody st__law_addresses) (defScope st__law_addresses) .none kV18 dc18 pm18 an18 cd18 ct18), sl18⟩) (c18 : PySem.W.codeIn K cd18 "_law_addresses" = true) (k18 : PySem.W.keepIn K (.ref f18) = true)
    (a19 : PySem.W.nsIn K mainGlobals "_law_worth" = some (some (.ref f19))) (l19 : K.lookup f19 = some ⟨oc19, od19, .func (PySem.W.fnOf "_law_worth" "_law_worth" (defArgs st__law_worth) (defBody st__law_worth) (defScope st__law_worth) .none kV19 dc19 pm19 an19 cd19 ct19), sl19⟩) (c19 : PySem.W.codeIn K cd19 "_law_worth" = true) (k19 : PySem.W.keepIn K (.ref f19) = true)
    (a20 : PySem.W.nsIn K mainGlobals "_law_held" = some (some (.ref f20))) (l20 : K.lookup f20 = some ⟨oc20, od20, .func (PySem.W.fnOf "_law_held" "_law_held" (defArgs st__law_held) (defBody st__law_held) (defScope st__law_held) .none kV20 dc20 pm20 an20 cd20 ct20), sl20⟩) (c20 : PySem.W.codeIn K cd20 "_law_held" = true) (k20 : PySem.W.keepIn K (.ref f20) = true)
    (a21 : PySem.W.nsIn K mainGlobals "_law_brings" = some (some (.ref f21))) (l21 : K.lookup f21 = some ⟨oc21, od21, .func (PySem.W.fnOf "_law_brings" "_law_brings" (defArgs st__law_brings) (defBody st__law_brings) (defScope st__law_brings) .none kV21 dc21 pm21 an21 cd21 ct21), sl21⟩) (c21 : PySem.W.codeIn K cd21 "_law_brings" = true) (k21 : PySem.W.keepIn K (.ref f21) = true)
    (a22 : PySem.W.nsIn K mainGlobals "_law_run" = some (some (.ref f22))) (l22 : K.lookup f22 = some ⟨oc22, od22, .func (PySem.W.fnOf "_law_run" "_law_run" (defArgs st__law_run) (defBody st__law_run) (defScope st__law_run) .none kV22 dc22 pm22 an22 cd22 ct22), sl22⟩) (c22 : PySem.W.codeIn K cd22 "_law_run" = true) (k22 : PySem.W.keepIn K (.ref f22) = true)
    (a23 : PySem.W.nsIn K mainGlobals "_law_work" = some (some (.ref f23))) (l23 : K.lookup f23 = some ⟨oc23, od23, .func (PySem.W.fnOf "_law_work" "_law_work" (defArgs st__law_work) (defBody st__law_work) (defScope st__law_work) .none kV23 dc23 pm23 an23 cd23 ct23), sl23⟩) (c23 : PySem.W.codeIn K cd23 "_law_work" = true) (k23 : PySem.W.keepIn K (.ref f23) = true)
    (a24 : PySem.W.nsIn K mainGlobals "_law_code" = some (some (.ref f24))) (l24 : K.lookup f24 = some ⟨oc24, od24, .func (PySem.W.fnOf "_law_code" "_law_code" (defArgs st__law_code) (defBody st__law_code) (defScope st__law_code) .none kV24 dc24 pm24 an24 cd24 ct24), sl24⟩) (c24 : PySem.W.codeIn K cd24 "_law_code" = true) (k24 : PySem.W.keepIn K (.ref f24) = true)
    (a25 : PySem.W.nsIn K mainGlobals "_law_changed" = some (some (.ref f25))) (l25 : K.lookup f25 = some ⟨oc25, od25, .func (PySem.W.fnOf "_law_changed" "_law_changed" (defArgs st__law_changed) (defBody st__law_changed) (defScope st__law_changed) .none kV25 dc25 pm25 an25 cd25 ct25), sl25⟩) (c25 : PySem.W.codeIn K cd25 "_law_changed" = true) (k25 : PySem.W.keepIn K (.ref f25) = true)
    (a26 : PySem.W.nsIn K mainGlobals "law" = some (some (.ref f26))) (l26 : K.lookup f26 = some ⟨oc26, od26, .func (PySem.W.fnOf "law" "law" (defArgs st_law) (defBody st_law) (defScope st_law) .none kV26 dc26 pm26 an26 cd26 ct26), sl26⟩) (c26 : PySem.W.codeIn K cd26 "law" = true) (k26 : PySem.W.keepIn K (.ref f26) = true)
    (z0 : PySem.W.nsIn K mainGlobals "len" = some none)
    (z1 : PySem.W.nsIn K mainGlobals "tuple" = some none)
    (z2 : PySem.W.nsIn K mainGlobals "int" = some none)
    (z3 : PySem.W.nsIn K mainGlobals "range" = some none)
    (z4 : PySem.W.nsIn K mainGlobals "list" = some none)
    (z5 : PySem.W.nsIn K mainGlobals "isinstance" = some none)
    (z6 : PySem.W.nsIn K mainGlobals "str" = some none)
    (z7 : PySem.W.nsIn K mainGlobals "zip" = some none)
    (z8 : PySem.W.nsIn K mainGlobals "bool" = some none)
    (ga0 : PySem.W.nsIn K mainGlobals "PLACES" = some (some (.int 41 gt0))) :
    ∃ fd : FuncData, (∀ (s : Shared) (v : Value), BindsTo s fd ⟨[v], []⟩ [("_law_script", v)]) ∧ ∀ base : Heap, K.In base → base.Ns mainGlobals mg → FnOk l.prog w K mg base CX0 FUEL fa fd ["_law_script"] (spLaw K) := by
  have e := hfa.symm.trans (PySem.W.mg_of X G a26)
  cases e
  have D0 : Df K mg "joined_worth" st_joined_worth ["kind", "one", "other"] := ⟨_, _, fun_mk (st := st_joined_worth) l0 c0 k0, PySem.W.mg_of X G a0, (fun_mk (st := st_joined_worth) l0 c0 k0).binds (ps := ["kind", "one", "other"]) fun _ _ _ _ _ _ us hl => match us, hl with | [_, _, _], _ => rfl⟩
  have D1 : Df K mg "part_at" st_part_at ["tree", "address"] := ⟨_, _, fun_mk (st := st_part_at) l1 c1 k1, PySem.W.mg_of X G a1, (fun_mk (st := st_part_at) l1 c1 k1).binds (ps := ["tree", "address"]) fun _ _ _ _ _ _ us hl => match us, hl with | [_, _], _ => rfl⟩
  have D2 : Df K mg "is_there" st_is_there ["holders", "index"] := ⟨_, _, fun_mk (st := st_is_there) l2 c2 k2, PySem.W.mg_of X G a2, (fun_mk (st := st_is_there) l2 c2 k2).binds (ps := ["holders", "index"]) fun _ _ _ _ _ _ us hl => match us, hl with | [_, _], _ => rfl⟩
  have D3 : Df K mg "leads_to_number" st_leads_to_number ["tree", "address"] := ⟨_, _, fun_mk (st := st_leads_to_number) l3 c3 k3, PySem.W.mg_of X G a3, (fun_mk (st := st_leads_to_number) l3 c3 k3).binds (ps := ["tree", "address"]) fun _ _ _ _ _ _ us hl => match us, hl with | [_, _], _ => rfl⟩
  have D4 : Df K mg "held_at" st_held_at ["holders", "index"] := ⟨_, _, fun_mk (st := st_held_at) l4 c4 k4, PySem.W.mg_of X G a4, (fun_mk (st := st_held_at) l4 c4 k4).binds (ps := ["holders", "index"]) fun _ _ _ _ _ _ us hl => match us, hl with | [_, _], _ => rfl⟩
  have D5 : Df K mg "holds_parts" st_holds_parts ["tree", "deed", "held"] := ⟨_, _, fun_mk (st := st_holds_parts) l5 c5 k5, PySem.W.mg_of X G a5, (fun_mk (st := st_holds_parts) l5 c5 k5).binds (ps := ["tree", "deed", "held"]) fun _ _ _ _ _ _ us hl => match us, hl with | [_, _, _], _ => rfl⟩
  have D6 : Df K mg "can_be_done" st_can_be_done ["tree", "deed", "held", "shelf"] := ⟨_, _, fun_mk (st := st_can_be_done) l6 c6 k6, PySem.W.mg_of X G a6, (fun_mk (st := st_can_be_done) l6 c6 k6).binds (ps := ["tree", "deed", "held", "shelf"]) fun _ _ _ _ _ _ us hl => match us, hl with | [_, _, _, _], _ => rfl⟩
  have D7 : Df K mg "makes" st_makes ["deed"] := ⟨_, _, fun_mk (st := st_makes) l7 c7 k7, PySem.W.mg_of X G a7, (fun_mk (st := st_makes) l7 c7 k7).binds (ps := ["deed"]) fun _ _ _ _ _ _ us hl => match us, hl with | [_], _ => rfl⟩
  have D8 : Df K mg "move" st_move ["deed", "held", "shelf"] := ⟨_, _, fun_mk (st := st_move) l8 c8 k8, PySem.W.mg_of X G a8, (fun_mk (st := st_move) l8 c8 k8).binds (ps := ["deed", "held", "shelf"]) fun _ _ _ _ _ _ us hl => match us, hl with | [_, _, _], _ => rfl⟩
  have D9 : Df K mg "run" st_run ["tree", "code", "pans"] := ⟨_, _, fun_mk (st := st_run) l9 c9 k9, PySem.W.mg_of X G a9, (fun_mk (st := st_run) l9 c9 k9).binds (ps := ["tree", "code", "pans"]) fun _ _ _ _ _ _ us hl => match us, hl with | [_, _, _], _ => rfl⟩
  have D10 : Df K mg "number_made" st_number_made ["tree", "deed", "held"] := ⟨_, _, fun_mk (st := st_number_made) l10 c10 k10, PySem.W.mg_of X G a10, (fun_mk (st := st_number_made) l10 c10 k10).binds (ps := ["tree", "deed", "held"]) fun _ _ _ _ _ _ us hl => match us, hl with | [_, _, _], _ => rfl⟩
  have D11 : Df K mg "numbers" st_numbers ["tree", "code", "pans"] := ⟨_, _, fun_mk (st := st_numbers) l11 c11 k11, PySem.W.mg_of X G a11, (fun_mk (st := st_numbers) l11 c11 k11).binds (ps := ["tree", "code", "pans"]) fun _ _ _ _ _ _ us hl => match us, hl with | [_, _, _], _ => rfl⟩
  have D12 : Df K mg "_law_cell_at" st__law_cell_at ["_law_script", "_law_k"] := ⟨_, _, fun_mk (st := st__law_cell_at) l12 c12 k12, PySem.W.mg_of X G a12, (fun_mk (st := st__law_cell_at) l12 c12 k12).binds (ps := ["_law_script", "_law_k"]) fun _ _ _ _ _ _ us hl => match us, hl with | [_, _], _ => rfl⟩
  have D13 : Df K mg "_law_mixed" st__law_mixed ["_law_script", "_law_k"] := ⟨_, _, fun_mk (st := st__law_mixed) l13 c13 k13, PySem.W.mg_of X G a13, (fun_mk (st := st__law_mixed) l13 c13 k13).binds (ps := ["_law_script", "_law_k"]) fun _ _ _ _ _ _ us hl => match us, hl with | [_, _], _ => rfl⟩
  have D14 : Df K mg "_law_drawn" st__law_drawn ["_law_number", "_law_k"] := ⟨_, _, fun_mk (st := st__law_drawn) l14 c14 k14, PySem.W.mg_of X G a14, (fun_mk (st := st__law_drawn) l14 c14 k14).binds (ps := ["_law_number", "_law_k"]) fun _ _ _ _ _ _ us hl => match us, hl with | [_, _], _ => rfl⟩
  have D15 : Df K mg "_law_tree" st__law_tree ["_law_number", "_law_many", "_law_kind"] := ⟨_, _, fun_mk (st := st__law_tree) l15 c15 k15, PySem.W.mg_of X G a15, (fun_mk (st := st__law_tree) l15 c15 k15).binds (ps := ["_law_number", "_law_many", "_law_kind"]) fun _ _ _ _ _ _ us hl => match us, hl with | [_, _, _], _ => rfl⟩
  have D16 : Df K mg "_law_drawn_tree" st__law_drawn_tree ["_law_number"] := ⟨_, _, fun_mk (st := st__law_drawn_tree) l16 c16 k16, PySem.W.mg_of X G a16, (fun_mk (st := st__law_drawn_tree) l16 c16 k16).binds (ps := ["_law_number"]) fun _ _ _ _ _ _ us hl => match us, hl with | [_], _ => rfl⟩
  have D17 : Df K mg "_law_part" st__law_part ["_law_tree_here", "_law_address"] := ⟨_, _, fun_mk (st := st__law_part) l17 c17 k17, PySem.W.mg_of X G a17, (fun_mk (st := st__law_part) l17 c17 k17).binds (ps := ["_law_tree_here", "_law_address"]) fun _ _ _ _ _ _ us hl => match us, hl with | [_, _], _ => rfl⟩
  have D18 : Df K mg "_law_addresses" st__law_addresses ["_law_tree_here", "_law_address"] := ⟨_, _, fun_mk (st := st__law_addresses) l18 c18 k18, PySem.W.mg_of X G a18, (fun_mk (st := st__law_addresses) l18 c18 k18).binds (ps := ["_law_tree_here", "_law_address"]) fun _ _ _ _ _ _ us hl => match us, hl with | [_, _], _ => rfl⟩
  have D19 : Df K mg "_law_worth" st__law_worth ["_law_tree_here"] := ⟨_, _, fun_mk (st := st__law_worth) l19 c19 k19, PySem.W.mg_of X G a19, (fun_mk (st := st__law_worth) l19 c19 k19).binds (ps := ["_law_tree_here"]) fun _ _ _ _ _ _ us hl => match us, hl with | [_], _ => rfl⟩
  have D20 : Df K mg "_law_held" st__law_held ["_law_row", "_law_at"] := ⟨_, _, fun_mk (st := st__law_held) l20 c20 k20, PySem.W.mg_of X G a20, (fun_mk (st := st__law_held) l20 c20 k20).binds (ps := ["_law_row", "_law_at"]) fun _ _ _ _ _ _ us hl => match us, hl with | [_, _], _ => rfl⟩
  have D21 : Df K mg "_law_brings" st__law_brings ["_law_tree_here", "_law_row", "_law_shelf", "_law_deed"] := ⟨_, _, fun_mk (st := st__law_brings) l21 c21 k21, PySem.W.mg_of X G a21, (fun_mk (st := st__law_brings) l21 c21 k21).binds (ps := ["_law_tree_here", "_law_row", "_law_shelf", "_law_deed"]) fun _ _ _ _ _ _ us hl => match us, hl with | [_, _, _, _], _ => rfl⟩
  have D22 : Df K mg "_law_run" st__law_run ["_law_tree_here", "_law_code_here", "_law_pans"] := ⟨_, _, fun_mk (st := st__law_run) l22 c22 k22, PySem.W.mg_of X G a22, (fun_mk (st := st__law_run) l22 c22 k22).binds (ps := ["_law_tree_here", "_law_code_here", "_law_pans"]) fun _ _ _ _ _ _ us hl => match us, hl with | [_, _, _], _ => rfl⟩
  have D23 : Df K mg "_law_work" st__law_work ["_law_tree_here", "_law_address", "_law_free", "_law_number", "_law_every"] := ⟨_, _, fun_mk (st := st__law_work) l23 c23 k23, PySem.W.mg_of X G a23, (fun_mk (st := st__law_work) l23 c23 k23).binds (ps := ["_law_tree_here", "_law_address", "_law_free", "_law_number", "_law_every"]) fun _ _ _ _ _ _ us hl => match us, hl with | [_, _, _, _, _], _ => rfl⟩
  have D24 : Df K mg "_law_code" st__law_code ["_law_tree_here", "_law_number", "_law_pans"] := ⟨_, _, fun_mk (st := st__law_code) l24 c24 k24, PySem.W.mg_of X G a24, (fun_mk (st := st__law_code) l24 c24 k24).binds (ps := ["_law_tree_here", "_law_number", "_law_pans"]) fun _ _ _ _ _ _ us hl => match us, hl with | [_, _, _], _ => rfl⟩
  have D25 : Df K mg "_law_changed" st__law_changed ["_law_code_here", "_law_number"] := ⟨_, _, fun_mk (st := st__law_changed) l25 c25 k25, PySem.W.mg_of X G a25, (fun_mk (st := st__law_changed) l25 c25 k25).binds (ps := ["_law_code_here", "_law_number"]) fun _ _ _ _ _ _ us hl => match us, hl with | [_, _], _ => rfl⟩
  have D26 : Df K mg "law" st_law ["_law_script"] := ⟨_, _, fun_mk (st := st_law) l26 c26 k26, PySem.W.mg_of X G a26, (fun_mk (st := st_law) l26 c26 k26).binds (ps := ["_law_script"]) fun _ _ _ _ _ _ us hl => match us, hl with | [_], _ => rfl⟩
  have G0 : Gc K mg "PLACES" c_PLACES := ⟨_, .int 41, PySem.W.mg_of X G ga0, ⟨_, rfl⟩, fun _ => .int _⟩
  refine ⟨PySem.W.fnOf "law" "law" (defArgs st_law) (defBody st_law) (defScope st_law) .none kV26 dc26 pm26 an26 cd26 ct26, fun s v => .of_eq rfl, fun base _ _ => ?_⟩
  have L := lv (P := l.prog) (w := w) (base := base) D0 D1 D2 D3 D4 D5 D6 D7 D8 D9 D10 D11 D12 D13 D14 D15 D16 D17 D18 D19 D20 D21 D22 D23 D24 D25 D26 (PySem.W.mg_none_of X G z0) (PySem.W.mg_none_of X G z1) (PySem.W.mg_none_of X G z2) (PySem.W.mg_none_of X G z3) (PySem.W.mg_none_of X G z4) (PySem.W.mg_none_of X G z5) (PySem.W.mg_none_of X G z6) (PySem.W.mg_none_of X G z7) (PySem.W.mg_none_of X G z8) G0 FUEL1
  exact (ok_law (n := FUEL1) (fun_mk (st := st_law) l26 c26 k26) L.k__law_mixed L.k__law_drawn_tree L.k__law_code L.k__law_changed L.k__law_run L.k_numbers L.k__law_part L.k__law_worth (PySem.W.mg_none_of X G z1) (PySem.W.mg_none_of X G z5) (PySem.W.mg_none_of X G z0) (PySem.W.mg_none_of X G z7) (PySem.W.mg_none_of X G z8)).imp law_sp
theorem walk {l : PySem.W.OpenLaw} {q : Program} {loose : List Str} {XP : (Str → Option Value) → Heap → Prop} {YP : World → Heap → Prop} {d : DefRec} {K : Params → PySem.W.Frag} (hn : l.most = some 63) (hdf : d.params.defaults = [])
    (hY : ∀ (w : World) (h : Heap), YP w h → (K w.params).In h)
    (F : ∀ (w : World) (mg : Str → Option Value) (fa : Addr) (h : Heap), (K w.params).In h → h.Ns mainGlobals mg → mg d.name = some (.ref fa) →
      ∃ fd : FuncData, (∀ (s : Shared) (u : Value), BindsTo s fd ⟨[u], []⟩ [("_law_script", u)]) ∧ ∀ base : Heap, (K w.params).In base → base.Ns mainGlobals mg → FnOk l.prog w (K w.params) mg base CX0 FUEL fa fd ["_law_script"] (spLaw (K w.params))) :
    PySem.W.WalkO q loose XP YP l.row.toRowW d [] (fun f vs => PySem.call f vs) :=
  L2.walk_of (n := 63) (k := FUEL) (x := "_law_script") (CX := fun _ => CX0) (sp := fun w => spLaw (K w.params)) hn (by decide) hdf ⟨rfl, by decide, by decide⟩ hY F (fun _ _ a ns hl _ hS => ⟨a, ns, rfl, hS, hl, fun _ => rfl⟩) fun _ _ _ _ _ z => z
end FD
open PySem PySem.W PyProof.Rows
set_option maxRecDepth 100000 in
set_option maxHeartbeats 0 in
theorem PySem.Challenge.cw_fewpans_k11_whole_numbers_in_pans_holds : PySem.Challenge.rw_fewpans_k11_whole_numbers_in_pans.Holds := by
  w_on; o_law; k_head; (case hw => w_witness2)
  k_fill
  refine FD.walk (l := PySem.Challenge.rw_fewpans_k11_whole_numbers_in_pans) rfl rfl (fun w h Y => PySem.W.kIn_of Y) ?F
  case F =>
    intro w mg fa h KX G hmg
    refine' FD.all_mk KX G hmg ?a0 ?l0 ?c0 ?k0 ?a1 ?l1 ?c1 ?k1 ?a2 ?l2 ?c2 ?k2 ?a3 ?l3 ?c3 ?k3 ?a4 ?l4 ?c4 ?k4 ?a5 ?l5 ?c5 ?k5 ?a6 ?l6 ?c6 ?k6 ?a7 ?l7 ?c7 ?k7 ?a8 ?l8 ?c8 ?k8 ?a9 ?l9 ?c9 ?k9 ?a10 ?l10 ?c10 ?k10 ?a11 ?l11 ?c11 ?k11 ?a12 ?l12 ?c12 ?k12 ?a13 ?l13 ?c13 ?k13 ?a14 ?l14 ?c14 ?k14 ?a15 ?l15 ?c15 ?k15 ?a16 ?l16 ?c16 ?k16 ?a17 ?l17 ?c17 ?k17 ?a18 ?l18 ?c18 ?k18 ?a19 ?l19 ?c19 ?k19 ?a20 ?l20 ?c20 ?k20 ?a21 ?l21 ?c21 ?k21 ?a22 ?l22 ?c22 ?k22 ?a23 ?l23 ?c23 ?k23 ?a24 ?l24 ?c24 ?k24 ?a25 ?l25 ?c25 ?k25 ?a26 ?l26 ?c26 ?k26 ?z0 ?z1 ?z2 ?z3 ?z4 ?z5 ?z6 ?z7 ?z8 ?ga0
    (case a0 => k_is)
    (case l0 => k_is)
    (case c0 => k_is)
    (case k0 => k_is)
    (case a1 => k_is)
    (case l1 => k_is)
    (case c1 => k_is)
    (case k1 => k_is)
    (case a2 => k_is)
    (case l2 => k_is)
    (case c2 => k_is)
    (case k2 => k_is)
    (case a3 => k_is)
    (case l3 => k_is)
    (case c3 => k_is)
    (case k3 => k_is)
    (case a4 => k_is)
    (case l4 => k_is)
    (case c4 => k_is)
    (case k4 => k_is)
    (case a5 => k_is)
    (case l5 => k_is)
    (case c5 => k_is)
    (case k5 => k_is)
    (case a6 => k_is)
    (case l6 => k_is)
    (case c6 => k_is)
    (case k6 => k_is)
    (case a7 => k_is)
    (case l7 => k_is)
    (case c7 => k_is)
    (case k7 => k_is)
    (case a8 => k_is)
    (case l8 => k_is)
    (case c8 => k_is)
    (case k8 => k_is)
    (case a9 => k_is)
    (case l9 => k_is)
    (case c9 => k_is)
    (case k9 => k_is)
    (case a10 => k_is)
    (case l10 => k_is)
    (case c10 => k_is)
    (case k10 => k_is)
    (case a11 => k_is)
    (case l11 => k_is)
    (case c11 => k_is)
    (case k11 => k_is)
    (case a12 => k_is)
    (case l12 => k_is)
    (case c12 => k_is)
    (case k12 => k_is)
    (case a13 => k_is)
    (case l13 => k_is)
    (case c13 => k_is)
    (case k13 => k_is)
    (case a14 => k_is)
    (case l14 => k_is)
    (case c14 => k_is)
    (case k14 => k_is)
    (case a15 => k_is)
    (case l15 => k_is)
    (case c15 => k_is)
    (case k15 => k_is)
    (case a16 => k_is)
    (case l16 => k_is)
    (case c16 => k_is)
    (case k16 => k_is)
    (case a17 => k_is)
    (case l17 => k_is)
    (case c17 => k_is)
    (case k17 => k_is)
    (case a18 => k_is)
    (case l18 => k_is)
    (case c18 => k_is)
    (case k18 => k_is)
    (case a19 => k_is)
    (case l19 => k_is)
    (case c19 => k_is)
    (case k19 => k_is)
    (case a20 => k_is)
    (case l20 => k_is)
    (case c20 => k_is)
    (case k20 => k_is)
    (case a21 => k_is)
    (case l21 => k_is)
    (case c21 => k_is)
    (case k21 => k_is)
    (case a22 => k_is)
    (case l22 => k_is)
    (case c22 => k_is)
    (case k22 => k_is)
    (case a23 => k_is)
    (case l23 => k_is)
    (case c23 => k_is)
    (case k23 => k_is)
    (case a24 => k_is)
    (case l24 => k_is)
    (case c24 => k_is)
    (case k24 => k_is)
    (case a25 => k_is)
    (case l25 => k_is)
    (case c25 => k_is)
    (case k25 => k_is)
    (case a26 => k_is)
    (case l26 => k_is)
    (case c26 => k_is)
    (case k26 => k_is)
    (case z0 => k_is)
    (case z1 => k_is)
    (case z2 => k_is)
    (case z3 => k_is)
    (case z4 => k_is)
    (case z5 => k_is)
    (case z6 => k_is)
    (case z7 => k_is)
    (case z8 => k_is)
    (case ga0 => k_is)
