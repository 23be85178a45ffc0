import PyProof.Rows.All
import Wide.All
import OpenK.AllK
import Wide.FinOn
import PyProof.EqAt
import PyProof.EqKinds
import PyProof.TupleCall
import KE.BitLaws
import PyProof.Draws
import PyProof.ZipIter
import PyProof.Rows.IntBool
import PyProof.Rows.EqBoolInt
import PyProof.Rows.RuleU_int
import PyProof.NeKinds
import PySem.Challenge.RW_gapgrades_k08_what_is_a_rule
set_option Elab.async false
set_option linter.all false
set_option maxRecDepth 100000
set_option maxHeartbeats 4000000
namespace L2
open PySem PySem.Spec PyProof.Rows

/-- a key: an int or a str -/
abbrev Key := Sum Int Str
def keyIs : Key → Value → Bool
  | .inl k, v => Value.isInt k v
  | .inr x, v => Value.isStrOf x v
def keyH (w : World) : Key → Int
  | .inl k => hashInt k
  | .inr x => hashStr w x
theorem keyIs_shape : ∀ {k : Key} {v : Value}, keyIs k v = true → (∃ i t, k = Sum.inl i ∧ v = Value.int i t) ∨ (∃ x t, k = Sum.inr x ∧ v = Value.str x t)
  | .inl i, v, h => by
    obtain ⟨t, e⟩ := Value.isInt_shape (k := i) (v := v) h
    exact .inl ⟨i, t, rfl, e⟩
  | .inr x, v, h => by
    obtain ⟨t, e⟩ := Value.isStrOf_shape (x := x) (v := v) h
    exact .inr ⟨x, t, rfl, e⟩
theorem keyIs_int (i : Int) (t : Tok) : keyIs (.inl i) (.int i t) = true := by simp [keyIs, Value.isInt]
theorem keyIs_str (x : Str) (t : Tok) : keyIs (.inr x) (.str x t) = true := by simp [keyIs, Value.isStrOf]
theorem key_ll (a b : Int) : decide ((Sum.inl a : Key) = Sum.inl b) = (a == b) := by
  by_cases e : a = b
  · subst e; simp
  · have h : ¬ (Sum.inl a : Key) = Sum.inl b := fun q => e (Sum.inl.inj q)
    rw [decide_eq_false h]
    exact (beq_eq_false_iff_ne.mpr e).symm
theorem key_rr (a b : Str) : decide ((Sum.inr a : Key) = Sum.inr b) = decide (a = b) := by
  by_cases e : a = b
  · subst e; simp
  · have h : ¬ (Sum.inr a : Key) = Sum.inr b := fun q => e (Sum.inr.inj q)
    rw [decide_eq_false h, decide_eq_false e]
theorem key_lr (a : Int) (b : Str) : decide ((Sum.inl a : Key) = Sum.inr b) = false := decide_eq_false (fun q => nomatch q)
theorem key_rl (a : Str) (b : Int) : decide ((Sum.inr a : Key) = Sum.inl b) = false := decide_eq_false (fun q => nomatch q)

def mixKind (prog : Program) (w : World) : PySem.KeyKind prog w Key where
  is := keyIs
  hash := keyH w
  inj := fun v a b ha hb => by
    rcases keyIs_shape ha with ⟨i, t, rfl, rfl⟩ | ⟨x, t, rfl, rfl⟩
    · rcases keyIs_shape hb with ⟨j, u, rfl, e⟩ | ⟨y, u, rfl, e⟩
      · injection e with e1 _; rw [e1]
      · exact nomatch e
    · rcases keyIs_shape hb with ⟨j, u, rfl, e⟩ | ⟨y, u, rfl, e⟩
      · exact nomatch e
      · injection e with e1 _; rw [e1]
  byValue := fun k v h => by
    rcases keyIs_shape h with ⟨i, t, rfl, rfl⟩ | ⟨x, t, rfl, rfl⟩ <;> rfl
  pyHash := fun hv h => by
    rcases keyIs_shape hv with ⟨i, t, rfl, rfl⟩ | ⟨x, t, rfl, rfl⟩
    · exact wpAny_pyHash_int h
    · exact wpAny_pyHash_str h
  eqBool := fun hu hv h => by
    rcases keyIs_shape hu with ⟨i, t, rfl, rfl⟩ | ⟨x, t, rfl, rfl⟩
    · rcases keyIs_shape hv with ⟨j, u, rfl, rfl⟩ | ⟨y, u, rfl, rfl⟩
      · rw [key_ll] at h; exact wpAny_eqBool_int h
      · rw [key_lr] at h; exact SeqAt.EqAt.int_str i t y u _ _ _ _ h
    · rcases keyIs_shape hv with ⟨j, u, rfl, rfl⟩ | ⟨y, u, rfl, rfl⟩
      · rw [key_rl] at h; exact SeqAt.EqAt.str_int x t j u _ _ _ _ h
      · rw [key_rr] at h; exact wpAny_eqBool_str h
  «strs» := fun k x t v h => by
    rcases keyIs_shape h with ⟨i, u, rfl, e⟩ | ⟨y, u, rfl, e⟩
    · exact nomatch e
    · injection e with e1 _
      subst e1
      cases v <;> rfl

theorem mixKind_int (prog : Program) (w : World) (i : Int) (t : Tok) : (mixKind prog w).is (.inl i) (.int i t) = true := keyIs_int i t
theorem mixKind_str (prog : Program) (w : World) (x : Str) (t : Tok) : (mixKind prog w).is (.inr x) (.str x t) = true := keyIs_str x t
end L2

namespace L2
open PySem PySem.Spec PyProof.Rows

/-- a value, without the heap -/
inductive V where
  | non | bl (b : Bool) | int (i : Int) | str (x : Str) | byt (b : Array UInt8) | flt (b : UInt64) | ref (a : Addr) | ty (n : String)
  deriving DecidableEq

def RelV : V → Value → Prop
  | .non, u => u = Value.none
  | .bl b, u => u = Value.bool b
  | .int i, u => ∃ t, u = Value.int i t
  | .str x, u => ∃ t, u = Value.str x t
  | .byt b, u => ∃ t, u = Value.bytes b t
  | .flt b, u => ∃ t, u = Value.float b t
  | .ref a, u => u = Value.ref a
  | .ty n, u => u = Value.type n

abbrev Vals : List V → List Value → Prop := Paired RelV
theorem Vals.length {xs : List V} {us : List Value} (r : Vals xs us) : xs.length = us.length := Paired.length r
theorem Vals.get : ∀ {xs : List V} {us : List Value} {i : Nat} {x : V}, Vals xs us → xs[i]? = some x → ∃ u, us[i]? = some u ∧ RelV x u
  | _, _, _, _, .nil, e => by simp at e
  | _, _, 0, _, .cons r _, e => by simp at e; subst e; exact ⟨_, rfl, r⟩
  | _, _, i + 1, x, .cons _ t, e => by
    obtain ⟨u, h1, h2⟩ := Vals.get (i := i) (x := x) t (by simpa using e)
    exact ⟨u, by simpa using h1, h2⟩
theorem Vals.set {x : V} {u : Value} (r : RelV x u) : ∀ {xs : List V} {us : List Value} (i : Nat), Vals xs us → Vals (xs.set i x) (us.set i u)
  | _, _, _, .nil => .nil
  | _, _, 0, .cons _ t => .cons r t
  | _, _, i + 1, .cons q t => .cons q (Vals.set r i t)
theorem Vals.append : ∀ {xs ys : List V} {us ws : List Value}, Vals xs us → Vals ys ws → Vals (xs ++ ys) (us ++ ws)
  | _, _, _, _, .nil, s => s
  | _, _, _, _, .cons r t, s => .cons r (Vals.append t s)
theorem Vals.take : ∀ {xs : List V} {us : List Value} (n : Nat), Vals xs us → Vals (xs.take n) (us.take n)
  | _, _, 0, _ => .nil
  | _, _, _ + 1, .nil => .nil
  | _, _, n + 1, .cons r t => .cons r (Vals.take n t)
theorem Vals.drop : ∀ {xs : List V} {us : List Value} (n : Nat), Vals xs us → Vals (xs.drop n) (us.drop n)
  | _, _, 0, r => r
  | _, _, _ + 1, .nil => .nil
  | _, _, n + 1, .cons _ t => Vals.drop n t
def RelO : Option V → Option Value → Prop
  | some v, some u => RelV v u
  | none, none => True
  | _, _ => False
def KV {κ : Type} : List (κ × V) → List (κ × Value) → Prop := Paired fun (p : κ × V) (q : κ × Value) => p.1 = q.1 ∧ RelV p.2 q.2

/-- a key of a dict (00_mix): an int or a text -/
def kV : Key → V
  | .inl i => .int i
  | .inr x => .str x

/-- what stands at a tracked address -/
inductive HO where
  /-- a list -/
  | lst (xs : List V)
  /-- a tuple (never changes) -/
  | tup (xs : List V)
  /-- a dict whose keys are ints and texts; one whose keys are tuples of ints and texts (the empty one is both) -/
  | dK (kvs : List (Key × V)) | dT (kvs : List (List Key × V))
  /-- a set of ints: its members, its size -/
  | set (S : Int → Bool) (n : Nat)
  /-- an instance of the class at C, its dict at dx, its attributes -/
  | ins (C dx : Addr) (fs : List (Str × V))
  /-- the dict of the instance at x -/
  | own (x : Addr)
  /-- the dict of an exception -/
  | xd (fs : List (Str × V))
  /-- a bound method, f of x -/
  | met (f x : Addr)
  /-- a range object lo, lo + 1, .. below hi -/
  | rng (lo hi : Int)
  /-- a thing that is known to the object (the script; a dict while a loop walks it): read, never written while it is so -/
  | frz (o : Obj) (u : HO)
  /-- a code object's table -/
  | tbl (ps : Array Value)
  /-- any other thing, by what is true of its one object (a def of one's own: SetO a S n := HO.ext fun h => ..) -/
  | ext (φ : Heap → Prop)

abbrev Hp := Addr → Option HO
def upd (H : Hp) (a : Addr) (o : HO) : Hp := fun b => if b = a then some o else H b
theorem upd_same {H : Hp} {a : Addr} {o : HO} : upd H a o a = some o := by unfold upd; rw [if_pos rfl]
theorem upd_ne {H : Hp} {a b : Addr} {o : HO} (h : b ≠ a) : upd H a o b = H b := by unfold upd; rw [if_neg h]
/-- two objects of different content stand apart -/
theorem ne_of {H : Hp} {a b : Addr} {o u : HO} (h : H a = some o) (h' : H b = some u) (d : o ≠ u) : a ≠ b := by
  intro e; subst e; rw [h] at h'; exact d (Option.some.inj h')
theorem ne_of_none {H : Hp} {a b : Addr} {o : HO} (h : H a = some o) (h' : H b = none) : a ≠ b := by
  intro e; subst e; rw [h] at h'; cases h'

section
variable (P : Program) (w : World)
def ObjOk (H : Hp) (h : Heap) (a : Addr) : HO → Prop
  | .lst xs => xs.length ≤ sizeLine ∧ ∃ (its : List Value) (n : Nat), Vals xs its ∧ h.get? a = some { cls := .type "list", data := .seq its.toArray n }
  | .tup xs => xs.length ≤ sizeLine ∧ ∃ its : List Value, Vals xs its ∧ IsTup h a its.toArray
  | .dK kvs => kvs.length ≤ sizeLine ∧ (a == sysModules) = false ∧ ∃ vs, KV kvs vs ∧ h.DictOf (mixKind P w) a vs
  | .dT kvs => kvs.length ≤ sizeLine ∧ (a == sysModules) = false ∧ ∃ xs : List (List Key × Addr × Value),
      Paired (fun (p : List Key × V) (q : List Key × Addr × Value) => p.1 = q.1 ∧ H q.2.1 = some (.tup (p.1.map kV)) ∧ RelV p.2 q.2.2) kvs xs ∧
      ∃ o es ep, h.get? a = some o ∧ o.ExactDict ∧ o.data = .dict es ep ∧ es.toList = xs.map (entryOfKey (tupleKind (mixKind P w))) ∧ (xs.map (·.1)).Nodup
  | .set S n => h.SetOf (intKind P w) a S n
  | .ins C dx fs => H dx = some (.own a) ∧ fs.length ≤ 1000 ∧ dx ≠ a ∧ h.get? a = some (PySem.W.instObj C dx) ∧
      ∃ mA, h.Ns1 dx mA ∧ (∀ f, RelO (fs.lookup f) (mA f)) ∧ PySem.Within mA (fs.map (·.1))
  | .own _ => ∃ o, h.get? a = some o
  | .xd fs => ∃ mA, h.Ns1 a mA ∧ ∀ f, RelO (fs.lookup f) (mA f)
  | .rng lo hi => ∃ t u v, h.get? a = some { cls := .type "range", data := .fields #[.int lo t, .int hi u, .int 1 v] }
  | .frz o u => h.get? a = some o ∧ ObjOk H h a u
  | .tbl ps => h.get? a = some { cls := .none, data := .fields ps }
  | .met f x => h.get? a = some (PySem.W.methodObj (.ref f) (.ref x))
  | .ext φ => φ h ∧ (∃ o, h.get? a = some o) ∧ ∀ h1 h2 : Heap, φ h1 → (∀ o, h1.get? a = some o → h2.get? a = some o) → φ h2
/-- the abstract heap is held -/
def HOk (H : Hp) (h : Heap) : Prop := ∀ a o, H a = some o → ObjOk P w H h a o
end

section
variable {P : Program} {w : World} {H H' : Hp} {h h' : Heap} {a : Addr} {o : HO}
theorem ObjOk.lt (x : ObjOk P w H h a o) : a < h.objs.size := by
  cases o with
  | lst xs => obtain ⟨_, _, _, _, e⟩ := x; exact Heap.lt_size e
  | tup xs => obtain ⟨_, _, _, p⟩ := x; exact p.lt
  | dK kvs => obtain ⟨_, _, _, _, o, _, _, e, _⟩ := x; exact Heap.lt_size e
  | dT kvs => obtain ⟨_, _, _, _, o, _, _, e, _⟩ := x; exact Heap.lt_size e
  | set S n => obtain ⟨o, _, _, _, e, _⟩ := x; exact Heap.lt_size e
  | ins C dx fs => obtain ⟨_, _, _, e, _⟩ := x; exact Heap.lt_size e
  | own y => obtain ⟨_, e⟩ := x; exact Heap.lt_size e
  | xd fs => obtain ⟨_, ⟨_, _, _, e, _⟩, _⟩ := x; exact Heap.lt_size e
  | rng lo hi => obtain ⟨_, _, _, e⟩ := x; exact Heap.lt_size e
  | frz ob u => obtain ⟨e, _⟩ := x; exact Heap.lt_size e
  | tbl ps => exact Heap.lt_size (show h.get? a = some _ from x)
  | met f y => exact Heap.lt_size (show h.get? a = some _ from x)
  | ext φ => obtain ⟨_, ⟨_, e⟩, _⟩ := x; exact Heap.lt_size e
theorem Paired.mapP {α β : Type} {F G : α → β → Prop} : ∀ {l₁ : List α} {l₂ : List β}, Paired F l₁ l₂ → (∀ a b, F a b → G a b) → Paired G l₁ l₂
  | _, _, .nil, _ => .nil
  | _, _, .cons r t, f => .cons (f _ _ r) (Paired.mapP t f)
/-- what an object's description leans on: its own object, its own dict, the tuples -/
theorem ObjOk.stay (x : ObjOk P w H h a o) (k : ∀ b u, (b = a ∨ H b = some (.own a)) → h.get? b = some u → h'.get? b = some u)
    (ho : ∀ b, H b = some (.own a) → H' b = some (.own a)) (ht : ∀ b xs, H b = some (.tup xs) → H' b = some (.tup xs)) : ObjOk P w H' h' a o := by
  induction o with
  | lst xs => obtain ⟨z, its, n, r, e⟩ := x; exact ⟨z, its, n, r, k _ _ (.inl rfl) e⟩
  | tup xs => obtain ⟨z, its, r, ob, e, c⟩ := x; exact ⟨z, its, r, ob, k _ _ (.inl rfl) e, c⟩
  | dK kvs => obtain ⟨z, y, vs, r, ob, es, ep, e, c⟩ := x; exact ⟨z, y, vs, r, ob, es, ep, k _ _ (.inl rfl) e, c⟩
  | dT kvs =>
    obtain ⟨z, y, xs, r, ob, es, ep, e, c⟩ := x
    exact ⟨z, y, xs, Paired.mapP r fun p q z => ⟨z.1, ht _ _ z.2.1, z.2.2⟩, ob, es, ep, k _ _ (.inl rfl) e, c⟩
  | set S n => obtain ⟨ob, es, ep, t, e, c⟩ := x; exact ⟨ob, es, ep, t, k _ _ (.inl rfl) e, c⟩
  | ins C dx fs =>
    obtain ⟨d, z, ne, e, mA, ⟨od, es, ep, e2, c⟩, r⟩ := x
    exact ⟨ho _ d, z, ne, k _ _ (.inl rfl) e, mA, ⟨od, es, ep, k _ _ (.inr d) e2, c⟩, r⟩
  | own y => obtain ⟨ob, e⟩ := x; exact ⟨ob, k _ _ (.inl rfl) e⟩
  | xd fs => obtain ⟨mA, ⟨od, es, ep, e, c⟩, r⟩ := x; exact ⟨mA, ⟨od, es, ep, k _ _ (.inl rfl) e, c⟩, r⟩
  | rng lo hi => obtain ⟨t, u, v, e⟩ := x; exact ⟨t, u, v, k _ _ (.inl rfl) e⟩
  | frz ob u ih => obtain ⟨e, q⟩ := x; exact ⟨k _ _ (.inl rfl) e, ih q⟩
  | tbl ps =>
    have e : h.get? a = some { cls := .none, data := .fields ps } := x
    show h'.get? a = some { cls := .none, data := .fields ps }
    exact k a _ (.inl rfl) e
  | met f y =>
    have e : h.get? a = some (PySem.W.methodObj (.ref f) (.ref y)) := x
    show h'.get? a = some (PySem.W.methodObj (.ref f) (.ref y))
    exact k a _ (.inl rfl) e
  | ext φ => obtain ⟨p, ⟨o, e⟩, st⟩ := x; exact ⟨st _ _ p fun o q => k _ _ (.inl rfl) q, ⟨o, k _ _ (.inl rfl) e⟩, st⟩
theorem HOk.lt (x : HOk P w H h) (e : H a = some o) : a < h.objs.size := (x a o e).lt
theorem HOk.fresh (x : HOk P w H h) (e : h.objs.size ≤ a) : H a = none := by
  cases q : H a with
  | none => rfl
  | some u => exact absurd (Nat.lt_of_lt_of_le (x.lt q) e) (Nat.lt_irrefl _)
/-- every object of the heap is kept -/
theorem HOk.kept (x : HOk P w H h) (k : ∀ b u, h.get? b = some u → h'.get? b = some u) : HOk P w H h' := fun a o e =>
  (x a o e).stay (fun b u _ q => k b u q) (fun _ q => q) fun _ _ q => q
/-- a new object is laid and tracked -/
theorem HOk.laid (x : HOk P w H h) (k : ∀ b u, h.get? b = some u → h'.get? b = some u) (hp : h.objs.size ≤ a) (new : ObjOk P w (upd H a o) h' a o) : HOk P w (upd H a o) h' := fun b u e => by
  have hn := x.fresh hp
  by_cases hb : b = a
  · subst hb; rw [upd_same] at e; cases e; exact new
  · rw [upd_ne hb] at e
    exact (x b u e).stay (fun c v _ q => k c v q) (fun c q => by rw [upd_ne (ne_of_none q hn)]; exact q) fun c xs q => by rw [upd_ne (ne_of_none q hn)]; exact q
end

/-- what may be read as u: it is u, or a known u -/
def Rd (H : Hp) (a : Addr) (u : HO) : Prop := H a = some u ∨ ∃ o, H a = some (.frz o u)
theorem Rd.of {H : Hp} {a : Addr} {u : HO} (h : H a = some u) : Rd H a u := .inl h
theorem Rd.ok {P : Program} {w : World} {H : Hp} {h : Heap} {a : Addr} {u : HO} (r : Rd H a u) (x : HOk P w H h) : ObjOk P w H h a u := by
  rcases r with r | ⟨o, r⟩
  · exact x a u r
  · obtain ⟨_, q⟩ := x a _ r
    exact q
/-- what may be written -/
def Mut : Option HO → Prop
  | some (.lst _) => True
  | some (.dK _) => True
  | some (.dT _) => True
  | some (.set _ _) => True
  | some (.ins _ _ _) => True
  | some (.ext _) => True
  | _ => False
section
variable {P : Program} {w : World} {H : Hp} {h h' : Heap} {x e : Addr} {o' : HO}
/-- the object at e is changed: x itself, or the dict of the instance x -/
theorem HOk.write (ok : HOk P w H h) (mu : Mut (H x)) (he : e = x ∨ H e = some (.own x)) (k : ∀ b u, b ≠ e → h.get? b = some u → h'.get? b = some u) (heo : ∃ u, h'.get? e = some u)
    (new : ObjOk P w (upd H x o') h' x o') : HOk P w (upd H x o') h' := fun b u q => by
  have nown : ∀ c y, H c = some (.own y) → c ≠ x := fun c y r z => by subst z; rw [r] at mu; exact mu
  have ntup : ∀ c xs, H c = some (.tup xs) → c ≠ x := fun c xs r z => by subst z; rw [r] at mu; exact mu
  by_cases hb : b = x
  · subst hb; rw [upd_same] at q; cases q; exact new
  · rw [upd_ne hb] at q
    by_cases hbe : b = e
    · have q' : H b = some (.own x) := by
        rcases he with z | z
        · exact absurd (hbe.trans z) hb
        · rw [hbe]; exact z
      rw [q] at q'; cases q'
      obtain ⟨v, hv⟩ := heo
      exact ⟨v, by rw [hbe]; exact hv⟩
    · refine (ok b u q).stay (fun c v hc r => k c v ?_ r) (fun c r => by rw [upd_ne (nown c b r)]; exact r) fun c xs r => by rw [upd_ne (ntup c xs r)]; exact r
      rcases hc with rfl | hc
      · exact hbe
      · rintro rfl
        rcases he with z | z
        · exact nown c b hc z
        · rw [hc] at z; cases z; exact hb rfl
end

structure Un (fs ex : List Addr) (H H' : Hp) (h h' : Heap) : Prop where
  keep : ∀ b o, h.get? b = some o → H b = none → b ∉ fs → b ∉ ex → h'.get? b = some o
  slot : ∀ b o, h.get? b = some o → H b = none → b ∈ fs → b ∉ ex → ∃ sl, h'.get? b = some { o with slots := sl }
  free : ∀ b o, h.get? b = some o → H b = none → b ∉ ex → H' b = none
  there : ∀ b o, h.get? b = some o → b ∉ ex → ∃ o', h'.get? b = some o'
  tups : ∀ b xs, H b = some (.tup xs) → H' b = some (.tup xs)
  frzs : ∀ b o u, H b = some (.frz o u) → H' b = some (.frz o u)
  tbls : ∀ b ps, H b = some (.tbl ps) → ∃ more, H' b = some (.tbl (ps ++ more))
section
variable {fs fs' ex ex' : List Addr} {H H1 H2 : Hp} {h h1 h2 h' : Heap} {a x e : Addr} {o : HO}
theorem Un.any (u : Un fs ex H H1 h h1) {b : Addr} {ob : Obj} (q : h.get? b = some ob) (n : H b = none) (hx : b ∉ ex) : ∃ sl, h1.get? b = some { ob with slots := sl } := by
  by_cases hb : b ∈ fs
  · exact u.slot b ob q n hb hx
  · exact ⟨ob.slots, u.keep b ob q n hb hx⟩
theorem Un.trans (a : Un fs ex H H1 h h1) (b : Un fs ex H1 H2 h1 h2) : Un fs ex H H2 h h2 where
  keep := fun c ob q n hc hx => b.keep c ob (a.keep c ob q n hc hx) (a.free c ob q n hx) hc hx
  slot := fun c ob q n hc hx => by
    obtain ⟨sl, e1⟩ := a.slot c ob q n hc hx
    obtain ⟨sl', e2⟩ := b.slot c _ e1 (a.free c ob q n hx) hc hx
    exact ⟨sl', e2⟩
  free := fun c ob q n hx => by
    obtain ⟨o', e1⟩ := a.there c ob q hx
    exact b.free c o' e1 (a.free c ob q n hx) hx
  there := fun c ob q hx => by
    obtain ⟨o', e1⟩ := a.there c ob q hx
    exact b.there c o' e1 hx
  tups := fun c xs q => b.tups c xs (a.tups c xs q)
  frzs := fun c ob xs q => b.frzs c ob xs (a.frzs c ob xs q)
  tbls := fun c ps q => by
    obtain ⟨m1, e1⟩ := a.tbls c ps q
    obtain ⟨m2, e2⟩ := b.tbls c _ e1
    exact ⟨m1 ++ m2, by rw [e2, Array.append_assoc]⟩
theorem Un.kept (k : ∀ b u, h.get? b = some u → h'.get? b = some u) : Un fs ex H H h h' :=
  ⟨fun b ob q _ _ _ => k b ob q, fun b ob q _ _ _ => ⟨ob.slots, k b ob q⟩, fun _ _ _ n _ => n, fun b ob q _ => ⟨ob, k b ob q⟩, fun _ _ q => q, fun _ _ _ q => q, fun _ ps q => ⟨#[], by rw [q]; simp⟩⟩
theorem Un.refl : Un fs ex H H h h := Un.kept fun _ _ q => q
theorem Un.laid (k : ∀ b u, h.get? b = some u → h'.get? b = some u) (hp : h.objs.size ≤ a) (hn : H a = none) : Un fs ex H (upd H a o) h h' where
  keep := fun b u q _ _ _ => k b u q
  slot := fun b u q _ _ _ => ⟨u.slots, k b u q⟩
  free := fun b u q n _ => by rw [upd_ne (Nat.ne_of_lt (Nat.lt_of_lt_of_le (Heap.lt_size q) hp))]; exact n
  there := fun b u q _ => ⟨u, k b u q⟩
  tups := fun b xs q => by rw [upd_ne (ne_of_none q hn)]; exact q
  frzs := fun b u xs q => by rw [upd_ne (ne_of_none q hn)]; exact q
  tbls := fun b ps q => ⟨#[], by rw [upd_ne (ne_of_none q hn), q]; simp⟩
theorem Un.write (mu : Mut (H x)) (he : e = x ∨ H e = some (.own x)) (k : ∀ b u, b ≠ e → h.get? b = some u → h'.get? b = some u) (heo : ∃ u, h'.get? e = some u) : Un fs ex H (upd H x o) h h' := by
  have hx : ∀ b, H b = none → b ≠ x := fun b n z => by subst z; rw [n] at mu; exact mu
  have hb : ∀ b, H b = none → b ≠ e := fun b n z => by
    subst z
    rcases he with r | r
    · exact hx b n r
    · rw [n] at r; cases r
  have hm : ∀ b u, H b = some u → ¬ Mut (some u) → b ≠ x := fun b u q nm z => by subst z; rw [q] at mu; exact nm mu
  refine ⟨fun b u q n _ _ => k b u (hb b n) q, fun b u q n _ _ => ⟨u.slots, k b u (hb b n) q⟩, fun b u q n _ => by rw [upd_ne (hx b n)]; exact n, fun b u q _ => ?_,
    fun b xs q => by rw [upd_ne (hm b _ q fun z => z)]; exact q, fun b u xs q => by rw [upd_ne (hm b _ q fun z => z)]; exact q, fun b ps q => ⟨#[], by rw [upd_ne (hm b _ q fun z => z), q]; simp⟩⟩
  by_cases hbe : b = e
  · subst hbe; exact heo
  · exact ⟨u, k b u hbe q⟩
theorem Un.mono (u : Un fs ex H H1 h h1) (hs : ∀ b ∈ fs, b ∈ fs') (hx : ∀ b ∈ ex, b ∈ ex') : Un fs' ex' H H1 h h1 :=
  ⟨fun b ob q n hb he => u.keep b ob q n (fun z => hb (hs b z)) fun z => he (hx b z), fun _ _ q n _ he => u.any q n fun z => he (hx _ z), fun b ob q n he => u.free b ob q n fun z => he (hx b z), fun b ob q he => u.there b ob q fun z => he (hx b z), u.tups, u.frzs, u.tbls⟩
end

def trk (h : Heap) (H : Hp) : List Addr := (List.range h.objs.size).filter fun a => (H a).isSome
def hidT (h : Heap) (H : Hp) : Heap := PySem.W.hideAll h (trk h H)
theorem hidT_size (h : Heap) (H : Hp) : (hidT h H).objs.size = h.objs.size := PySem.W.hideAll_size _ _
theorem hidT_get {h : Heap} {H : Hp} {b : Addr} {o : Obj} (e : h.get? b = some o) (n : H b = none) : (hidT h H).get? b = some o :=
  PySem.W.hideAll_get _ e fun hm => by
    have q : (H b).isSome = true := (List.mem_filter.mp hm).2
    rw [n] at q; simp at q
theorem of_hidT {h : Heap} {H : Hp} {b : Addr} {o : Obj} (e : (hidT h H).get? b = some o) : h.get? b = some o ∧ H b = none := by
  have e' : h.get? b = some o := PySem.W.of_hideAll (trk h H) e
  refine ⟨e', ?_⟩
  cases q : H b with
  | none => rfl
  | some x =>
    have hm : b ∈ trk h H := List.mem_filter.mpr ⟨List.mem_range.mpr (Heap.lt_size e'), by simp [q]⟩
    have z : (hidT h H).get? b = none := PySem.W.hideAll_none (trk h H) hm
    rw [z] at e; cases e

def allNews (g h : Heap) (L : Addr) : List (Addr × Obj) := (List.range h.objs.size).filterMap fun a => if a = L ∨ (g.get? a).isSome = true then none else (h.get? a).map fun o => (a, o)
def rest (g h : Heap) (L d : Addr) : List (Addr × Obj) := (allNews g h L).filter fun p => decide (p.1 ≠ d)
end L2

namespace L2
open PySem PySem.Spec PyProof.Rows

/-- the module's facts, over the base: the heap at the law's entry without what is tracked there -/
structure Mod (K : PySem.W.Frag) (mg : Str → Option Value) (base : Heap) : Prop where
  kin : K.In base
  glob : base.Ns mainGlobals mg
  blt : ∃ mb, base.Ns builtinsNs mb ∧ ∀ x : Str, x ≠ "__name__" → mb x = bootBuiltins x
  nolimit : base.NoLimit
  sysm : ∃ mm, base.Ns sysModules mm

/-- the context: a def's body (or a comprehension's block) running. base: fixed through the whole law; s₀, H₀: the entry; outer: the frames whose slots others may change (a def's callers); stack: all frames that run;
   ex: iterators that were made ahead of the entry and are walked here (a comprehension's); fn: the names whose cells were made at the entry (a def: all; a comprehension's block: its own); calm: not within an except suite; pn: pins that every state bears; xe: what is wanted of an exception that leaves the code -/
structure Cx where
  prog : Program
  w : World
  K : PySem.W.Frag
  mg : Str → Option Value
  base : Heap
  A : Around
  N : List Str
  s_0 : Shared
  H_0 : Hp
  env : Env
  outer : List Env
  stack : List Env
  ex : List Addr
  fn : Str → Bool
  calm : Bool
  pn : List (Addr × Obj)
  xe : Value → Shared → Prop
/-- the callers' frames -/
def frs (l : List Env) : List Addr := l.filterMap (·.frame)
abbrev Cx.fs (X : Cx) : List Addr := frs X.outer

def Vis (sc : Scope) (x : Str) : Prop := sc.names.lookup x = some .local ∨ sc.names.lookup x = some .cell ∨ sc.names.lookup x = some .free
def Loc (sc : Scope) (x : Str) : Prop := sc.names.lookup x = some .local ∨ sc.names.lookup x = some .cell
def Look (env : Env) (h : Heap) (m : Str → Option Value) (x : Str) (u : Value) : Prop :=
  (env.kindOf x = some .local ∧ m x = some u) ∨ ((env.kindOf x = some .cell ∨ env.kindOf x = some .free) ∧ ∃ c, env.cells.lookup x = some c ∧ h.IsCell c (some u))

structure Cx.Ok (X : Cx) : Prop where
  mod : Mod X.K X.mg X.base
  kind : X.env.scope.kind = .function
  glob : X.env.globals = mainGlobals
  blt : X.env.builtins = builtinsNs
  above : X.s_0.heap.objs.size ≤ X.env.locals
  inj : ∀ x y c, X.env.cells.lookup x = some c → X.env.cells.lookup y = some c → x = y
  has : ∀ x, (X.env.kindOf x = some .cell ∨ X.env.kindOf x = some .free) → ∃ c, X.env.cells.lookup x = some c
  cab : ∀ x c, X.fn x = true → X.env.cells.lookup x = some c → X.s_0.heap.objs.size ≤ c
  hd : X.calm = true → X.A.handled = none
  frames : X.A.frames = some X.stack
  stk : X.stack = X.outer ∨ (X.stack = X.env :: X.outer ∧ X.env.frame = some X.env.locals)
  exf : ∀ b ∈ X.ex, b ≠ X.env.locals ∧ ∀ x c, X.env.cells.lookup x = some c → c ≠ b
  bs : ∀ b o, X.base.get? b = some o → X.s_0.heap.get? b = some o ∧ X.H_0 b = none
  bsz : X.base.objs.size ≤ X.s_0.heap.objs.size
  noex : ∀ b o, X.base.get? b = some o → b ∉ X.ex
  exfs : ∀ b ∈ X.ex, b ∉ X.fs
  funs : X.s_0.heap.FunFrames X.base X.outer
  frf : ∀ b ∈ X.fs, X.H_0 b = none

structure Inv (X : Cx) (pins : List (Addr × Obj)) (σ : List (Option V)) (H : Hp) (s : Shared) : Prop where
  ok : X.Ok
  os : s.os = X.s_0.os
  bare : AllBare s.gens
  base : Un X.fs X.ex X.H_0 H X.s_0.heap s.heap
  loc : ∃ m, s.heap.Ns X.env.locals m ∧ ∀ (i : Nat) (x : Str) (v : V), X.N[i]? = some x → σ[i]? = some (some v) → Vis X.env.scope x → ∃ u, RelV v u ∧ Look X.env s.heap m x u
  cell : ∀ x c, X.env.cells.lookup x = some c → ∃ v, s.heap.IsCell c v
  free : H X.env.locals = none
  freeC : ∀ x c, X.env.cells.lookup x = some c → H c = none
  pin : ∀ p ∈ X.pn ++ pins, s.heap.get? p.1 = some p.2 ∧ H p.1 = none ∧ p.1 ≠ X.env.locals ∧ p.1 ∉ X.fs ∧ ∀ v, p.2.data ≠ .cell v
  hok : HOk X.prog X.w H s.heap
  len : σ.length = X.N.length

section
variable {X : Cx} {pins : List (Addr × Obj)} {σ : List (Option V)} {H H' : Hp} {s : Shared} {h' : Heap}

theorem Cx.Ok.nofr (ok : X.Ok) {b : Addr} {o : Obj} (e : X.base.get? b = some o) : b ∉ X.fs := fun hb => by
  have := (ok.funs.mem hb).1
  rw [e] at this; cases this
theorem Inv.bs (I : Inv X pins σ H s) : ∀ b o, X.base.get? b = some o → s.heap.get? b = some o ∧ H b = none := fun b o e =>
  ⟨I.base.keep b o (I.ok.bs b o e).1 (I.ok.bs b o e).2 (I.ok.nofr e) (I.ok.noex b o e), I.base.free b o (I.ok.bs b o e).1 (I.ok.bs b o e).2 (I.ok.noex b o e)⟩
theorem Inv.bk (I : Inv X pins σ H s) : ∀ b o, X.base.get? b = some o → s.heap.get? b = some o := fun b o e => (I.bs b o e).1
theorem Inv.mod (I : Inv X pins σ H s) : Mod X.K X.mg X.base := I.ok.mod
theorem Inv.kIn (I : Inv X pins σ H s) : X.K.In s.heap := I.ok.mod.kin.keeps I.bk
theorem Inv.nolimit (I : Inv X pins σ H s) : s.heap.NoLimit := I.ok.mod.nolimit.keeps I.bk
theorem Inv.lt (I : Inv X pins σ H s) : X.env.locals < s.heap.objs.size := let ⟨_, hn, _⟩ := I.loc; hn.lt
theorem Inv.sz (I : Inv X pins σ H s) : X.s_0.heap.objs.size ≤ s.heap.objs.size := Nat.le_trans I.ok.above (Nat.le_of_lt I.lt)
theorem Inv.nofs (I : Inv X pins σ H s) {a : Addr} (h : s.heap.objs.size ≤ a) : a ∉ X.fs := fun hb => by
  obtain ⟨_, o, ho, _⟩ := I.ok.funs.mem hb
  exact absurd (Nat.lt_of_lt_of_le (Heap.lt_size ho) (Nat.le_trans I.sz h)) (Nat.lt_irrefl _)
theorem Inv.cne (I : Inv X pins σ H s) : ∀ x c, X.env.cells.lookup x = some c → c ≠ X.env.locals := fun x c e z => by
  obtain ⟨v, o, ho, hd⟩ := I.cell x c e
  obtain ⟨m, ⟨o', es, ep, ho', hd', _⟩, _⟩ := I.loc
  rw [z, ho'] at ho; cases ho; rw [hd'] at hd; cases hd
theorem Inv.funs (I : Inv X pins σ H s) : s.heap.FunFrames X.base X.outer := by
  have all : ∀ (l : List Env), (∀ b ∈ frs l, b ∈ X.fs) → X.s_0.heap.FunFrames X.base l → s.heap.FunFrames X.base l := by
    intro l
    induction l with
    | nil => intro _ _; trivial
    | cons env r ih =>
      intro hs hl
      obtain ⟨hk, ⟨L, o, hf, hn, ho, hd⟩, hr⟩ := hl
      have hL : L ∈ X.fs := hs L (by unfold frs; rw [List.filterMap_cons, hf]; exact List.mem_cons_self)
      obtain ⟨sl, e⟩ := I.base.slot L o ho (I.ok.frf L hL) hL fun z => I.ok.exfs L z hL
      exact ⟨hk, ⟨L, _, hf, hn, e, hd⟩, ih (fun b hb => hs b (by unfold frs; rw [List.filterMap_cons, hf]; exact List.mem_cons_of_mem _ hb)) hr⟩
  exact all X.outer (fun _ hb => hb) I.ok.funs

/-- the frames that run, for a call -/
theorem Inv.stack (I : Inv X pins σ H s) : s.heap.FunFrames X.base X.stack := by
  rcases I.ok.stk with e | ⟨e, hf⟩
  · rw [e]; exact I.funs
  · rw [e]
    obtain ⟨m, hn, _⟩ := I.loc
    refine .cons (by rw [I.ok.kind]; decide) hf hn ?_ I.funs
    exact Heap.get?_none_of_le (Nat.le_trans I.ok.bsz I.ok.above)
theorem Inv.stkSub (I : Inv X pins σ H s) : ∀ b ∈ frs X.stack, b ∈ X.env.locals :: X.fs := fun b hb => by
  rcases I.ok.stk with e | ⟨e, hf⟩
  · rw [e] at hb; exact List.mem_cons_of_mem _ hb
  · rw [e] at hb
    unfold frs at hb
    rw [List.filterMap_cons, hf] at hb
    exact hb
theorem Inv.stkFree (I : Inv X pins σ H s) : ∀ b ∈ frs X.stack, H b = none := fun b hb => by
  rcases List.mem_cons.mp (I.stkSub b hb) with e | hb
  · rw [e]; exact I.free
  · obtain ⟨_, o, ho, _⟩ := I.ok.funs.mem hb
    exact I.base.free b o ho (I.ok.frf b hb) fun z => I.ok.exfs b z hb

/-- THE STEP: the untracked objects but the frame and the records at ch are kept (the callers' frames up to slots), the frame's map is kept, the new abstract heap is held -/
theorem Inv.step {g' : Array GenState} {t' : Nat} {d' : Drawn} {ch : List Addr} (I : Inv X pins σ H s)
    (hch : ∀ b ∈ ch, (b ∈ X.ex ∨ X.s_0.heap.objs.size ≤ b) ∧ b ≠ X.env.locals ∧ (∀ x c, X.env.cells.lookup x = some c → c ≠ b) ∧ ∀ p ∈ X.pn ++ pins, p.1 ≠ b)
    (keep : ∀ b o, b ≠ X.env.locals → b ∉ X.fs → b ∉ ch → s.heap.get? b = some o → H b = none → h'.get? b = some o)
    (slot : ∀ b o, b ≠ X.env.locals → b ∈ X.fs → b ∉ ch → s.heap.get? b = some o → H b = none → ∃ sl, h'.get? b = some { o with slots := sl }) (free : ∀ b o, b ∉ ch → s.heap.get? b = some o → H b = none → H' b = none)
    (there : ∀ b o, b ∉ ch → s.heap.get? b = some o → ∃ o', h'.get? b = some o')
    (tups : ∀ b xs, H b = some (.tup xs) → H' b = some (.tup xs)) (frzs : ∀ b o u, H b = some (.frz o u) → H' b = some (.frz o u)) (tbls : ∀ b ps, H b = some (.tbl ps) → ∃ more, H' b = some (.tbl (ps ++ more)))
    (ns : ∀ m, s.heap.Ns X.env.locals m → h'.Ns X.env.locals m) (hok : HOk X.prog X.w H' h') (hg : AllBare g') :
    Inv X pins σ H' { s with heap := h', gens := g', drawn := d', toks := t' } := by
  have neL : ∀ b o, X.s_0.heap.get? b = some o → b ≠ X.env.locals := fun b o e => Nat.ne_of_lt (Nat.lt_of_lt_of_le (Heap.lt_size e) I.ok.above)
  have neC : ∀ b o, X.s_0.heap.get? b = some o → b ∉ X.ex → b ∉ ch := fun b o e hx hb => by
    rcases (hch b hb).1 with z | z
    · exact hx z
    · exact absurd (Nat.lt_of_lt_of_le (Heap.lt_size e) z) (Nat.lt_irrefl _)
  have cellK : ∀ x c, X.env.cells.lookup x = some c → ∀ v, s.heap.IsCell c v → h'.IsCell c v := fun x c e v ⟨o, ho, hd⟩ => by
    have nch : c ∉ ch := fun z => (hch c z).2.2.1 x c e rfl
    by_cases hc : c ∈ X.fs
    · obtain ⟨sl, q⟩ := slot c o (I.cne x c e) hc nch ho (I.freeC x c e)
      exact ⟨_, q, hd⟩
    · exact ⟨o, keep c o (I.cne x c e) hc nch ho (I.freeC x c e), hd⟩
  refine ⟨I.ok, I.os, hg, ⟨fun b o e n hb hx => ?_, fun b o e n hb hx => ?_, fun b o e n hx => ?_, fun b o e hx => ?_, fun b xs e => tups b xs (I.base.tups b xs e), fun b o xs e => frzs b o xs (I.base.frzs b o xs e), fun b ps e => ?_⟩, ?_, fun x c e => ?_, ?_, fun x c e => ?_, fun p hp => ?_, hok, I.len⟩
  · exact keep b o (neL b o e) hb (neC b o e hx) (I.base.keep b o e n hb hx) (I.base.free b o e n hx)
  · obtain ⟨sl, e1⟩ := I.base.slot b o e n hb hx
    obtain ⟨sl', e2⟩ := slot b _ (neL b o e) hb (neC b o e hx) e1 (I.base.free b o e n hx)
    exact ⟨sl', e2⟩
  · obtain ⟨o', e1⟩ := I.base.there b o e hx
    exact free b o' (neC b o e hx) e1 (I.base.free b o e n hx)
  · obtain ⟨o', e1⟩ := I.base.there b o e hx
    exact there b o' (neC b o e hx) e1
  · obtain ⟨m1, e1⟩ := I.base.tbls b ps e
    obtain ⟨m2, e2⟩ := tbls b _ e1
    exact ⟨m1 ++ m2, by rw [e2, Array.append_assoc]⟩
  · obtain ⟨m, hn, hl⟩ := I.loc
    refine ⟨m, ns m hn, fun i x v e1 e2 e3 => ?_⟩
    obtain ⟨u, r, l⟩ := hl i x v e1 e2 e3
    refine ⟨u, r, ?_⟩
    rcases l with l | ⟨k, c, e, z⟩
    · exact .inl l
    · exact .inr ⟨k, c, e, cellK x c e _ z⟩
  · obtain ⟨v, z⟩ := I.cell x c e
    exact ⟨v, cellK x c e v z⟩
  · obtain ⟨m, ⟨o, _, _, ho, _⟩, _⟩ := I.loc
    exact free _ o (fun z => (hch _ z).2.1 rfl) ho I.free
  · obtain ⟨v, o, ho, hd⟩ := I.cell x c e
    exact free c o (fun z => (hch c z).2.2.1 x c e rfl) ho (I.freeC x c e)
  · obtain ⟨e, n, ne, nf, d⟩ := I.pin p hp
    have nch : p.1 ∉ ch := fun z => (hch p.1 z).2.2.2 p hp rfl
    exact ⟨keep p.1 p.2 ne nf nch e n, free p.1 p.2 nch e n, ne, nf, d⟩
/-- .. where the frame's own object is kept too -/
theorem Inv.un {t' : Nat} (I : Inv X pins σ H s) (u : Un X.fs [] H H' s.heap h') (hok : HOk X.prog X.w H' h') : Inv X pins σ H' { s with heap := h', toks := t' } := by
  obtain ⟨m, ⟨o, es, ep, ho, r⟩, _⟩ := id I.loc
  obtain ⟨sl, hL⟩ := u.any ho I.free (by simp)
  exact I.step (g' := s.gens) (d' := s.drawn) (ch := []) (fun _ z => nomatch z) (fun b o _ hb _ e n => u.keep b o e n hb (by simp)) (fun b o _ hb _ e n => u.slot b o e n hb (by simp)) (fun b o _ e n => u.free b o e n (by simp)) (fun b o _ e => u.there b o e (by simp)) u.tups u.frzs u.tbls (fun m' hm => by
    obtain ⟨o', es', ep', ho', r'⟩ := hm
    rw [ho] at ho'; cases ho'
    exact ⟨_, es', ep', hL, r'⟩) hok I.bare
/-- behind a call (or a comprehension's block): the slots of this frame may have changed too, the records at ch may have turned -/
theorem Inv.call {g' : Array GenState} {t' : Nat} {d' : Drawn} {ch : List Addr} (I : Inv X pins σ H s) (u : Un (frs X.stack) ch H H' s.heap h') (hok : HOk X.prog X.w H' h') (hg : AllBare g')
    (hch : ∀ b ∈ ch, (b ∈ X.ex ∨ X.s_0.heap.objs.size ≤ b) ∧ b ≠ X.env.locals ∧ (∀ x c, X.env.cells.lookup x = some c → c ≠ b) ∧ ∀ p ∈ X.pn ++ pins, p.1 ≠ b) :
    Inv X pins σ H' { s with heap := h', gens := g', drawn := d', toks := t' } := by
  obtain ⟨m, ⟨o, es, ep, ho, r⟩, _⟩ := id I.loc
  obtain ⟨sl, hL⟩ := u.any ho I.free fun z => (hch _ z).2.1 rfl
  exact I.step (ch := ch) hch (fun b o hL hb hc e n => u.keep b o e n (fun z => (List.mem_cons.mp (I.stkSub b z)).elim hL hb) hc) (fun b o _ _ hc e n => u.any e n hc) (fun b o hc e n => u.free b o e n hc) (fun b o hc e => u.there b o e hc) u.tups u.frzs u.tbls (fun m' hm => by
    obtain ⟨o', es', ep', ho', r'⟩ := hm
    rw [ho] at ho'; cases ho'
    exact ⟨_, es', ep', hL, r'⟩) hok hg
/-- an untracked record of ours (an iterator) has turned -/
theorem Inv.turned {t' : Nat} {it : Addr} (I : Inv X pins σ H s) (k : ∀ b o, b ≠ it → s.heap.get? b = some o → h'.get? b = some o) (hn : H it = none) (hL : it ≠ X.env.locals)
    (h1 : it ∈ X.ex ∨ X.s_0.heap.objs.size ≤ it) (h2 : ∀ x c, X.env.cells.lookup x = some c → c ≠ it) (h3 : ∀ p ∈ X.pn ++ pins, p.1 ≠ it) : Inv X pins σ H { s with heap := h', toks := t' } := by
  have nit : ∀ b u, H b = some u → b ≠ it := fun b u e z => by rw [z, hn] at e; cases e
  refine I.step (g' := s.gens) (d' := s.drawn) (ch := [it]) (fun b hb => ?_) (fun b o _ _ hc e _ => k b o (fun z => hc (by simp [z])) e) (fun b o _ _ hc e _ => ⟨o.slots, k b o (fun z => hc (by simp [z])) e⟩) (fun _ _ _ _ n => n)
    (fun b o hc e => ⟨o, k b o (fun z => hc (by simp [z])) e⟩) (fun _ _ e => e) (fun _ _ _ e => e) (fun b ps e => ⟨#[], by rw [e]; simp⟩) (fun m hm => ?_) (fun b u e => ?_) I.bare
  · have e : b = it := by simpa using hb
    subst e
    exact ⟨h1, hL, h2, h3⟩
  · obtain ⟨o, es, ep, ho, r⟩ := hm
    exact ⟨o, es, ep, k _ o (Ne.symm hL) ho, r⟩
  · refine (I.hok b u e).stay (fun c v hc q => k c v ?_ q) (fun _ q => q) fun _ _ q => q
    rcases hc with z | z
    · rw [z]; exact nit b u e
    · exact nit c _ z
theorem Inv.tok (I : Inv X pins σ H s) (t : Nat) : Inv X pins σ H { s with toks := t } := I.un (h' := s.heap) (t' := t) Un.refl I.hok
/-- all objects kept -/
theorem Inv.kept {t' : Nat} (I : Inv X pins σ H s) (k : ∀ b u, s.heap.get? b = some u → h'.get? b = some u) : Inv X pins σ H { s with heap := h', toks := t' } := I.un (Un.kept k) (I.hok.kept k)
/-- a new object laid and tracked -/
theorem Inv.laid {a : Addr} {o : HO} {t' : Nat} (I : Inv X pins σ H s) (k : ∀ b u, s.heap.get? b = some u → h'.get? b = some u) (hp : s.heap.objs.size ≤ a) (new : ObjOk X.prog X.w (upd H a o) h' a o) :
    Inv X pins σ (upd H a o) { s with heap := h', toks := t' } := I.un (Un.laid k hp (I.hok.fresh hp)) (I.hok.laid k hp new)
/-- an object written -/
theorem Inv.write {x e : Addr} {o : HO} {t' : Nat} (I : Inv X pins σ H s) (mu : Mut (H x)) (he : e = x ∨ H e = some (.own x)) (k : ∀ b u, b ≠ e → s.heap.get? b = some u → h'.get? b = some u) (heo : ∃ u, h'.get? e = some u)
    (new : ObjOk X.prog X.w (upd H x o) h' x o) : Inv X pins σ (upd H x o) { s with heap := h', toks := t' } := I.un (Un.write mu he k heo) (I.hok.write mu he k heo new)
/-- forgetting slots, pins -/
theorem Inv.weak {σ' : List (Option V)} (I : Inv X pins σ H s) (hl : σ'.length = σ.length) (w : ∀ (i : Nat) v, σ'[i]? = some (some v) → σ[i]? = some (some v)) : Inv X pins σ' H s :=
  ⟨I.ok, I.os, I.bare, I.base, let ⟨m, hn, hl'⟩ := I.loc; ⟨m, hn, fun i x v e1 e2 e3 => hl' i x v e1 (w i v e2) e3⟩, I.cell, I.free, I.freeC, I.pin, I.hok, hl.trans I.len⟩
theorem Inv.pins_of {pins' : List (Addr × Obj)} (I : Inv X pins σ H s) (h : ∀ p ∈ pins', s.heap.get? p.1 = some p.2 ∧ H p.1 = none ∧ p.1 ≠ X.env.locals ∧ p.1 ∉ X.fs ∧ ∀ v, p.2.data ≠ .cell v) : Inv X pins' σ H s :=
  ⟨I.ok, I.os, I.bare, I.base, I.loc, I.cell, I.free, I.freeC, fun p hp => (List.mem_append.mp hp).elim (fun z => I.pin p (List.mem_append_left _ z)) (h p), I.hok, I.len⟩

theorem nodup_ix {N : List Str} (hN : N.Nodup) {i j : Nat} {x : Str} (a : N[i]? = some x) (b : N[j]? = some x) : i = j := by
  obtain ⟨h1, e1⟩ := List.getElem?_eq_some_iff.mp a
  obtain ⟨h2, e2⟩ := List.getElem?_eq_some_iff.mp b
  exact (List.getElem_inj hN).mp (e1.trans e2.symm)

/-- a name is stored; what changed -/
theorem store_ok2 {M : Model} {A : Around} {E : Value → Shared → Prop} {i : Nat} {x : Str} {v : V} {u : Value} {Q : Unit → Shared → Prop} (I : Inv X pins σ H s) (hN : X.N.Nodup) (hi : X.N[i]? = some x) (hx : Loc X.env.scope x) (r : RelV v u)
    (h : ∀ s', Inv X pins (σ.set i (some v)) H s' → (∃ a, Heap.SameBut a s.heap s'.heap ∧ (a = X.env.locals ∨ X.env.cells.lookup x = some a)) → Q () s') (hf : X.fn x = true ∨ X.env.scope.names.lookup x = some .local := by first | exact .inl rfl | exact .inr rfl | assumption) : wpAny M A (storeName X.env x u) Q E s := by
  obtain ⟨m, hn, hl⟩ := id I.loc
  have hcls : (X.env.scope.kind == .class || (X.env.scope.kind == .module && X.env.locals != X.env.globals)) = false := by rw [I.ok.kind]; rfl
  have hiσ : i < σ.length := by rw [I.len]; exact (List.getElem?_eq_some_iff.mp hi).1
  have cne := I.cne
  have tracked : ∀ {a : Addr} {h' : Heap}, (∃ o, s.heap.get? a = some o ∧ H a = none) → Heap.SameBut a s.heap h' → HOk X.prog X.w H h' := fun {a h'} ha hs b ob e => by
    obtain ⟨_, _, hfree⟩ := ha
    refine (I.hok b ob e).stay (fun c w' hc q => (hs.2 c ?_).trans q) (fun _ q => q) fun _ _ q => q
    rintro rfl
    rcases hc with rfl | hc
    · rw [hfree] at e; cases e
    · rw [hfree] at hc; cases hc
  rcases hx with hk | hk
  · refine wpAny_storeName_local hk hn (fun h' hn' hs => ?_) hcls
    obtain ⟨oL, _, _, hoL, _⟩ := id hn
    refine h _ ⟨I.ok, I.os, I.bare, ⟨fun b o e n hb hx => ?_, fun b o e n hb hx => ?_, I.base.free, fun b o e hx => ?_, I.base.tups, I.base.frzs, I.base.tbls⟩, ⟨_, hn', fun j y v' e1 e2 e3 => ?_⟩, fun y c e => ?_, I.free, I.freeC, fun p hp => ?_, tracked ⟨oL, hoL, I.free⟩ hs, by simpa using I.len⟩ ⟨_, hs, .inl rfl⟩
    · exact (hs.2 b (Nat.ne_of_lt (Nat.lt_of_lt_of_le (Heap.lt_size e) I.ok.above))).trans (I.base.keep b o e n hb hx)
    · obtain ⟨sl, e1⟩ := I.base.slot b o e n hb hx
      exact ⟨sl, (hs.2 b (Nat.ne_of_lt (Nat.lt_of_lt_of_le (Heap.lt_size e) I.ok.above))).trans e1⟩
    · obtain ⟨o', e1⟩ := I.base.there b o e hx
      exact ⟨o', (hs.2 b (Nat.ne_of_lt (Nat.lt_of_lt_of_le (Heap.lt_size e) I.ok.above))).trans e1⟩
    · by_cases hj : j = i
      · subst hj
        rw [hi] at e1; cases e1
        rw [List.getElem?_set_self hiσ] at e2
        cases e2
        exact ⟨u, r, .inl ⟨hk, by simp⟩⟩
      · rw [List.getElem?_set_ne (Ne.symm hj)] at e2
        obtain ⟨u', r', q⟩ := hl j y v' e1 e2 e3
        refine ⟨u', r', ?_⟩
        rcases q with ⟨k, e⟩ | ⟨k, c, e, z⟩
        · refine .inl ⟨k, ?_⟩
          have : y ≠ x := fun e => hj (nodup_ix hN e1 (e ▸ hi))
          simp [this, e]
        · exact .inr ⟨k, c, e, z.sameBut hs (cne y c e)⟩
    · obtain ⟨w', z⟩ := I.cell y c e
      exact ⟨w', z.sameBut hs (cne y c e)⟩
    · obtain ⟨e, n, ne, nf, d⟩ := I.pin p hp
      exact ⟨(hs.2 p.1 ne).trans e, n, ne, nf, d⟩
  · have hfn : X.fn x = true := by
      rcases hf with z | z
      · exact z
      · rw [z] at hk; cases hk
    obtain ⟨c, hc⟩ := I.ok.has x (.inl hk)
    obtain ⟨w', z⟩ := I.cell x c hc
    refine wpAny_storeName_cell I.ok.kind hk hc z (fun h' hc' hs => ?_)
    obtain ⟨oc, hoc, hocd⟩ := id z
    refine h { s with heap := h' } ⟨I.ok, I.os, I.bare, ⟨fun b o e n hb hx => ?_, fun b o e n hb hx => ?_, I.base.free, fun b o e hx => ?_, I.base.tups, I.base.frzs, I.base.tbls⟩, ⟨m, hn.sameBut hs (Ne.symm (cne x c hc)), fun j y v' e1 e2 e3 => ?_⟩, fun y c' e => ?_, I.free, I.freeC, fun p hp => ?_, tracked ⟨oc, hoc, I.freeC x c hc⟩ hs, by simpa using I.len⟩ ⟨c, hs, .inr hc⟩
    · exact (hs.2 b (Nat.ne_of_lt (Nat.lt_of_lt_of_le (Heap.lt_size e) (I.ok.cab x c hfn hc)))).trans (I.base.keep b o e n hb hx)
    · obtain ⟨sl, e1⟩ := I.base.slot b o e n hb hx
      exact ⟨sl, (hs.2 b (Nat.ne_of_lt (Nat.lt_of_lt_of_le (Heap.lt_size e) (I.ok.cab x c hfn hc)))).trans e1⟩
    · obtain ⟨o', e1⟩ := I.base.there b o e hx
      exact ⟨o', (hs.2 b (Nat.ne_of_lt (Nat.lt_of_lt_of_le (Heap.lt_size e) (I.ok.cab x c hfn hc)))).trans e1⟩
    · by_cases hj : j = i
      · subst hj
        rw [hi] at e1; cases e1
        rw [List.getElem?_set_self hiσ] at e2
        cases e2
        exact ⟨u, r, .inr ⟨.inl hk, c, hc, hc'⟩⟩
      · rw [List.getElem?_set_ne (Ne.symm hj)] at e2
        obtain ⟨u', r', q⟩ := hl j y v' e1 e2 e3
        refine ⟨u', r', ?_⟩
        rcases q with q | ⟨k, c', e, z'⟩
        · exact .inl q
        · refine .inr ⟨k, c', e, z'.sameBut hs ?_⟩
          rintro rfl
          exact hj (nodup_ix hN e1 (I.ok.inj _ _ _ e hc ▸ hi))
    · by_cases hcc : c' = c
      · subst hcc; exact ⟨_, hc'⟩
      · obtain ⟨w2, z2⟩ := I.cell y c' e
        exact ⟨w2, z2.sameBut hs hcc⟩
    · obtain ⟨e, n, ne, nf, d⟩ := I.pin p hp
      refine ⟨(hs.2 p.1 ?_).trans e, n, ne, nf, d⟩
      intro q
      rw [q, hoc] at e
      have q' : oc = p.2 := Option.some.inj e
      exact d w' (by rw [← q']; exact hocd)
theorem store_ok {M : Model} {A : Around} {E : Value → Shared → Prop} {i : Nat} {x : Str} {v : V} {u : Value} {Q : Unit → Shared → Prop} (I : Inv X pins σ H s) (hN : X.N.Nodup) (hi : X.N[i]? = some x) (hx : Loc X.env.scope x) (r : RelV v u)
    (h : ∀ s', Inv X pins (σ.set i (some v)) H s' → Q () s') (hf : X.fn x = true ∨ X.env.scope.names.lookup x = some .local := by first | exact .inl rfl | exact .inr rfl | assumption) : wpAny M A (storeName X.env x u) Q E s :=
  store_ok2 I hN hi hx r (fun s' I' _ => h s' I') hf
/-- behind a call or a block, the state as it is -/
theorem Inv.call' {s' : Shared} {ch : List Addr} (I : Inv X pins σ H s) (ho : s'.os = s.os) (u : Un (frs X.stack) ch H H' s.heap s'.heap) (hok : HOk X.prog X.w H' s'.heap) (hg : AllBare s'.gens)
    (hch : ∀ b ∈ ch, (b ∈ X.ex ∨ X.s_0.heap.objs.size ≤ b) ∧ b ≠ X.env.locals ∧ (∀ x c, X.env.cells.lookup x = some c → c ≠ b) ∧ ∀ p ∈ X.pn ++ pins, p.1 ≠ b) : Inv X pins σ H' s' := by
  obtain ⟨h', g', d', t', o'⟩ := s'
  have e : o' = s.os := ho
  subst e
  exact I.call (g' := g') (t' := t') (d' := d') u hok hg hch
end

/-- an exception: its class, its own dict's address (where it has one), the abstract heap behind it -/
abbrev XK := Value → Option Addr → Hp → Prop
abbrev St := List (Option V)
abbrev VK := V → Hp → Prop
/-- an expression's reading; a test's; an argument list's -/
abbrev TE := St → Hp → VK → Prop
abbrev TT := St → Hp → (Bool → Hp → Prop) → Prop
abbrev TA := St → Hp → (List V → Hp → Prop) → Prop
/-- what is wanted behind a statement -/
structure Ends where
  nx : St → Hp → Prop
  rt : VK
  bk : St → Hp → Prop := fun _ _ => False
  ct : St → Hp → Prop := fun _ _ => False
abbrev TS := Ends → St → Hp → Prop

def EP (X : Cx) (pins : List (Addr × Obj)) (σ : St) (Q : VK) (u : Value) (s' : Shared) : Prop := ∃ v H', Inv X pins σ H' s' ∧ RelV v u ∧ Q v H'
def TP (X : Cx) (pins : List (Addr × Obj)) (σ : St) (Q : Bool → Hp → Prop) (b : Bool) (s' : Shared) : Prop := ∃ H', Inv X pins σ H' s' ∧ Q b H'
def AP (X : Cx) (pins : List (Addr × Obj)) (σ : St) (Q : List V → Hp → Prop) (us : List Value) (s' : Shared) : Prop := ∃ vs H', Inv X pins σ H' s' ∧ Vals vs us ∧ Q vs H'
def SP (X : Cx) (pins : List (Addr × Obj)) (D : Ends) (f : Flow) (s' : Shared) : Prop :=
  match f with
  | .next => ∃ σ' H', Inv X pins σ' H' s' ∧ D.nx σ' H'
  | .brk => ∃ σ' H', Inv X pins σ' H' s' ∧ D.bk σ' H'
  | .cont => ∃ σ' H', Inv X pins σ' H' s' ∧ D.ct σ' H'
  | .ret u => ∃ v σ' H', Inv X pins σ' H' s' ∧ RelV v u ∧ D.rt v H'

def PE (X : Cx) (e : Expr) (t : TE) : Prop :=
  ∀ (pins : List (Addr × Obj)) (s : Shared) (σ : St) (H : Hp) (Q : VK), Inv X pins σ H s → t σ H Q → wpAny (model X.prog X.w) X.A (eval e X.env) (EP X pins σ Q) X.xe s
def PT (X : Cx) (e : Expr) (t : TT) : Prop :=
  ∀ (pins : List (Addr × Obj)) (s : Shared) (σ : St) (H : Hp) (Q : Bool → Hp → Prop), Inv X pins σ H s → t σ H Q → wpAny (model X.prog X.w) X.A (isTrue e X.env (eval e X.env)) (TP X pins σ Q) X.xe s
/-- a test whatever its 'whole' is (and, or) -/
def PW (X : Cx) (e : Expr) (t : TT) : Prop :=
  ∀ (whole : Sem Value) (pins : List (Addr × Obj)) (s : Shared) (σ : St) (H : Hp) (Q : Bool → Hp → Prop), Inv X pins σ H s → t σ H Q → wpAny (model X.prog X.w) X.A (isTrue e X.env whole) (TP X pins σ Q) X.xe s
theorem PW.pt {X : Cx} {e : Expr} {t : TT} (h : PW X e t) : PT X e t := h _
/-- an argument list (no star), from the left -/
def PA (X : Cx) (es : List Expr) (t : TA) : Prop :=
  ∀ (pos : Pos) (pins : List (Addr × Obj)) (s : Shared) (σ : St) (H : Hp) (Q : List V → Hp → Prop), Inv X pins σ H s → t σ H Q → wpAny (model X.prog X.w) X.A (spliced (backTo pos (starEach es X.env))) (AP X pins σ Q) X.xe s
def PS (X : Cx) (st : Stmt) (t : TS) : Prop :=
  ∀ (pins : List (Addr × Obj)) (s : Shared) (σ : St) (H : Hp) (D : Ends), Inv X pins σ H s → t D σ H → wpAny (model X.prog X.w) X.A (exec st X.env) (SP X pins D) X.xe s
def PSs (X : Cx) (st : List Stmt) (t : TS) : Prop :=
  ∀ (pins : List (Addr × Obj)) (s : Shared) (σ : St) (H : Hp) (D : Ends), Inv X pins σ H s → t D σ H → wpAny (model X.prog X.w) X.A (execs st X.env) (SP X pins D) X.xe s
/-- weaken the end -/
theorem thn {α : Type} {t : Sem α} {Q Q' : α → Shared → Prop} {M : Model} {A : Around} {E : Value → Shared → Prop} {s : Shared} (h : wpAny M A t Q E s) (hQ : ∀ a s, Q a s → Q' a s) : wpAny M A t Q' E s := wpAny_mono h hQ fun _ _ x => x
end L2

namespace L2
open PySem PySem.Spec PyProof.Rows
section
variable {X : Cx}

def tVar (i : Nat) : TE := fun σ H Q => ∃ v, σ[i]? = some (some v) ∧ Q v H
def tC (v : V) : TE := fun _ H Q => Q v H
theorem pe_var {i : Nat} {x : Str} {pos : Pos} (hN : X.N[i]? = some x) (hv : Vis X.env.scope x) (hd : (x == ("__debug__" : Str)) = false := by decide) (hcd : (x == ("__classdict__" : Str)) = false := by decide) : PE X (.Name x pos) (tVar i) := by
  intro pins s σ H Q I h
  obtain ⟨v, e, h⟩ := h
  obtain ⟨m, hn, hl⟩ := I.loc
  obtain ⟨u, r, l⟩ := hl i x v hN e hv
  have fin : EP X pins σ Q u s := ⟨v, H, I, r, h⟩
  rcases l with ⟨hk, hm⟩ | ⟨hk, c, hc, hcell⟩
  · exact wpAny_Name (wpAny_loadName_local I.ok.kind hk hn hm fin) hd
  · rcases hk with hk | hk
    · exact wpAny_Name (wpAny_loadName_cell I.ok.kind hk hc hcell fin) hd
    · exact wpAny_Name (wpAny_loadName_free I.ok.kind hk hc hcell fin hcd) hd
theorem pe_int {i j pos} : PE X (.Constant (.int i) j pos) (tC (.int i)) := fun _ _ _ H _ I h => wpAny_Constant_int ⟨.int i, H, I.tok _, ⟨_, rfl⟩, h⟩
theorem pe_bl {b j pos} : PE X (.Constant (.bool b) j pos) (tC (.bl b)) := fun _ _ _ H _ I h => Constant_bool ⟨.bl b, H, I, rfl, h⟩
theorem pe_non {j pos} : PE X (.Constant .none j pos) (tC .non) := fun _ _ _ H _ I h => Constant_none ⟨.non, H, I, rfl, h⟩
theorem pe_str {x j pos} : PE X (.Constant (.str x) j pos) (tC (.str x)) := fun _ _ _ H _ I h => Calls.Constant_str ⟨.str x, H, I.tok _, ⟨_, rfl⟩, h⟩

/-- a global name of the def -/
def Gl (X : Cx) (x : Str) : Prop := X.env.kindOf x = some .globalImplicit
theorem ld_glob {E : Value → Shared → Prop} {pins : List (Addr × Obj)} {s : Shared} {σ : St} {H : Hp} {x : Str} {u : Value} {pos : Pos} {Q : Value → Shared → Prop} (I : Inv X pins σ H s) (hg : Gl X x) (hm : X.mg x = some u) (h : Q u s)
    (hd : (x == ("__debug__" : Str)) = false := by decide) : wpAny (model X.prog X.w) X.A (eval (.Name x pos) X.env) Q E s :=
  Calls.Name_function_global I.ok.kind hg (Calls.loadGlobal_global (by rw [I.ok.glob]; exact I.mod.glob.keeps I.bk) hm h) hd
theorem ld_blt {E : Value → Shared → Prop} {pins : List (Addr × Obj)} {s : Shared} {σ : St} {H : Hp} {x : Str} {u : Value} {pos : Pos} {Q : Value → Shared → Prop} (I : Inv X pins σ H s) (hg : Gl X x) (hm : X.mg x = none) (hv : bootBuiltins x = some u) (h : Q u s)
    (hn : x ≠ "__name__" := by decide) (hd : (x == ("__debug__" : Str)) = false := by decide) : wpAny (model X.prog X.w) X.A (eval (.Name x pos) X.env) Q E s := by
  obtain ⟨mb, h1, h2⟩ := I.mod.blt
  exact Calls.Name_function_global I.ok.kind hg (Calls.loadGlobal_builtin (by rw [I.ok.glob]; exact I.mod.glob.keeps I.bk) hm (by rw [I.ok.blt]; exact h1.keeps I.bk) ((h2 x hn).trans hv) h) hd
/-- a module's constant, a class, a function, as a value -/
theorem pe_glob {x : Str} {v : V} {u : Value} {pos : Pos} (hg : Gl X x) (hm : X.mg x = some u) (r : RelV v u) (hd : (x == ("__debug__" : Str)) = false := by decide) : PE X (.Name x pos) (tC v) :=
  fun _ _ _ H _ I h => ld_glob I hg hm ⟨v, H, I, r, h⟩ hd
theorem pe_bltn {x : Str} {v : V} {u : Value} {pos : Pos} (hg : Gl X x) (hm : X.mg x = none) (hv : bootBuiltins x = some u) (r : RelV v u) (hn : x ≠ "__name__" := by decide) (hd : (x == ("__debug__" : Str)) = false := by decide) : PE X (.Name x pos) (tC v) :=
  fun _ _ _ H _ I h => ld_blt I hg hm hv ⟨v, H, I, r, h⟩ hn hd

variable {a b : Expr} {ta tb : TE} {pos : Pos}
/-- a comparison as a value, as a test -/
def tB (t : TE) : TT := fun σ H Q => t σ H fun x H1 => ∃ c, x = .bl c ∧ Q c H1
variable {tA tB' : TT} {rest : List Expr}
def tAnd (t u : TT) : TT := fun σ H Q => t σ H fun c H1 => if c = true then u σ H1 Q else Q false H1
def tOr (t u : TT) : TT := fun σ H Q => t σ H fun c H1 => if c = true then Q true H1 else u σ H1 Q
def tNot (t : TT) : TT := fun σ H Q => t σ H fun c H1 => Q (!c) H1
theorem pw_and1 (ha : PT X a tA) : PW X (.BoolOp .And [a] pos) tA := by
  intro wh pins s σ H Q I h
  refine isTrue_and (thn (ha pins s σ H Q I h) fun c s1 e => ?_)
  cases c with
  | true => exact isTrue_and_nil e
  | false => exact e
theorem pw_or1 (ha : PT X a tA) : PW X (.BoolOp .Or [a] pos) tA := by
  intro wh pins s σ H Q I h
  refine isTrue_or (thn (ha pins s σ H Q I h) fun c s1 e => ?_)
  cases c with
  | false => exact isTrue_or_nil e
  | true => exact e
theorem pw_and (ha : PT X a tA) (hb : PW X (.BoolOp .And (b :: rest) pos) tB') : PW X (.BoolOp .And (a :: b :: rest) pos) (tAnd tA tB') := by
  intro wh pins s σ H Q I h
  refine isTrue_and (thn (ha pins s σ H _ I h) fun c s1 ⟨H1, I1, q1⟩ => ?_)
  cases c with
  | true => exact hb wh pins s1 σ H1 Q I1 q1
  | false => exact ⟨H1, I1, q1⟩
theorem pw_or (ha : PT X a tA) (hb : PW X (.BoolOp .Or (b :: rest) pos) tB') : PW X (.BoolOp .Or (a :: b :: rest) pos) (tOr tA tB') := by
  intro wh pins s σ H Q I h
  refine isTrue_or (thn (ha pins s σ H _ I h) fun c s1 ⟨H1, I1, q1⟩ => ?_)
  cases c with
  | true => exact ⟨H1, I1, q1⟩
  | false => exact hb wh pins s1 σ H1 Q I1 q1
theorem pt_not (ha : PT X a tA) : PT X (.UnaryOp .Not a pos) (tNot tA) := by
  intro pins s σ H Q I h
  exact isTrue_not (ha pins s σ H (fun c H1 => Q (!c) H1) I h)
/-- .. as values (bools) -/
def tAndV (ta tb : TE) : TE := fun σ H Q => ta σ H fun x H1 => ∃ c, x = .bl c ∧ if c = true then tb σ H1 Q else Q (.bl false) H1
def tNotV (ta : TE) : TE := fun σ H Q => ta σ H fun x H1 => ∃ c, x = .bl c ∧ Q (.bl (!c)) H1
theorem pe_one {op} {t : TE} (h : PE X a t) : PE X (.BoolOp op [a] pos) t := fun pins s σ H Q I hw => BoolOp_one (h pins s σ H Q I hw)
theorem pe_and (ha : PE X a ta) (hb : PE X (.BoolOp .And (b :: rest) pos) tb) : PE X (.BoolOp .And (a :: b :: rest) pos) (tAndV ta tb) := by
  intro pins s σ H Q I h
  refine BoolOp_and (thn (ha pins s σ H _ I h) fun v s1 ⟨x, H1, I1, r1, q1⟩ => ?_)
  obtain ⟨c, rfl, q1⟩ := q1
  cases r1
  refine wpAny_truthy_bool ?_
  cases c with
  | true => exact hb pins s1 σ H1 Q I1 q1
  | false => exact ⟨.bl false, H1, I1, rfl, q1⟩
theorem pe_not (ha : PE X a ta) : PE X (.UnaryOp .Not a pos) (tNotV ta) := by
  intro pins s σ H Q I h
  refine UnaryOp_ (thn (ha pins s σ H _ I h) fun v s1 ⟨x, H1, I1, r1, q1⟩ => ?_)
  obtain ⟨c, rfl, q1⟩ := q1
  cases r1
  exact not_of (wpAny_truthy_bool ⟨.bl (!c), H1, I1, rfl, q1⟩)
/-- a if t else b -/
def tIf (t : TT) (ta tb : TE) : TE := fun σ H Q => t σ H fun c H1 => if c = true then ta σ H1 Q else tb σ H1 Q
theorem pe_ifExp {c : Expr} (hc : PT X c tA) (ha : PE X a ta) (hb : PE X b tb) : PE X (.IfExp c a b pos) (tIf tA ta tb) := by
  intro pins s σ H Q I h
  refine wpAny_IfExp (thn (hc pins s σ H _ I h) fun d s1 ⟨H1, I1, q1⟩ => ?_)
  cases d with
  | true => exact ha pins s1 σ H1 Q I1 q1
  | false => exact hb pins s1 σ H1 Q I1 q1
end
end L2

namespace L2
open PySem PySem.Spec PyProof.Rows

def SqL (K : PySem.W.Frag) (H : Hp) (a : Addr) (xs : List V) : Prop :=
  Rd H a (.lst xs) ∨
    ∃ (o : Obj) (its : Array Value) (n : Nat), K.lookup a = some o ∧ o.cls = .type "list" ∧ o.dict = none ∧ o.data = .seq its n ∧ its.size ≤ sizeLine ∧ Vals xs its.toList
def SqT (K : PySem.W.Frag) (H : Hp) (a : Addr) (xs : List V) : Prop :=
  Rd H a (.tup xs) ∨
    ∃ (o : Obj) (its : Array Value) (n : Nat), K.lookup a = some o ∧ o.cls = .type "tuple" ∧ o.data = .seq its n ∧ its.size ≤ sizeLine ∧ Vals xs its.toList
def absV : Value → Option V
  | .none => some .non
  | .bool b => some (.bl b)
  | .int i _ => some (.int i)
  | .str x _ => some (.str x)
  | .bytes b _ => some (.byt b)
  | .float b _ => some (.flt b)
  | .ref a => some (.ref a)
  | .type n => some (.ty n)
  | _ => none
theorem RelV.abs {x : V} {u : Value} (r : RelV x u) : absV u = some x := by
  cases x with
  | non => cases r; rfl
  | bl _ => cases r; rfl
  | int _ => obtain ⟨t, rfl⟩ := r; rfl
  | str _ => obtain ⟨t, rfl⟩ := r; rfl
  | byt _ => obtain ⟨t, rfl⟩ := r; rfl
  | flt _ => obtain ⟨t, rfl⟩ := r; rfl
  | ref _ => cases r; rfl
  | ty _ => cases r; rfl
theorem RelV.inj {x y : V} {u : Value} (r : RelV x u) (q : RelV y u) : x = y := Option.some.inj (r.abs.symm.trans q.abs)
theorem Vals.inj : ∀ {xs ys : List V} {us : List Value}, Vals xs us → Vals ys us → xs = ys
  | _, _, _, .nil, .nil => rfl
  | _, _, _, .cons r t, .cons r' t' => by rw [r.inj r', Vals.inj t t']
section
variable {X : Cx} {pins : List (Addr × Obj)} {σ : St} {H : Hp} {s : Shared} {a : Addr} {xs ys : List V}
theorem SqL.of {K : PySem.W.Frag} (h : H a = some (.lst xs)) : SqL K H a xs := .inl (.inl h)
theorem SqT.of {K : PySem.W.Frag} (h : H a = some (.tup xs)) : SqT K H a xs := .inl (.inl h)
theorem Inv.list (I : Inv X pins σ H s) (h : SqL X.K H a xs) : ∃ its : List Value, Vals xs its ∧ PlainL s.heap a its.toArray ∧ xs.length ≤ sizeLine := by
  rcases h with h | ⟨o, its, n, hk, hc, hd, hs, hz, r⟩
  · obtain ⟨z, its, n, r, e⟩ := h.ok I.hok
    exact ⟨its, r, ⟨_, n, e, rfl, rfl, rfl⟩, z⟩
  · refine ⟨its.toList, r, ⟨o, n, I.kIn a o hk, hc, hd, by simpa using hs⟩, ?_⟩
    have e := r.length
    simp only [Array.length_toList] at e
    omega
theorem Inv.tuple (I : Inv X pins σ H s) (h : SqT X.K H a xs) : ∃ its : List Value, Vals xs its ∧ IsTup s.heap a its.toArray ∧ xs.length ≤ sizeLine := by
  rcases h with h | ⟨o, its, n, hk, hc, hs, hz, r⟩
  · obtain ⟨z, its, r, p⟩ := h.ok I.hok
    exact ⟨its, r, p, z⟩
  · refine ⟨its.toList, r, ⟨o, I.kIn a o hk, hc, n, by simpa using hs⟩, ?_⟩
    have e := r.length
    simp only [Array.length_toList] at e
    omega
theorem Inv.list_inj (I : Inv X pins σ H s) (h : SqL X.K H a xs) (h' : SqL X.K H a ys) : xs = ys := by
  obtain ⟨its, r, ⟨o, n, e, _, _, d⟩, _⟩ := I.list h
  obtain ⟨its', r', ⟨o', n', e', _, _, d'⟩, _⟩ := I.list h'
  rw [e] at e'; cases e'
  rw [d] at d'
  injection d' with d1 _
  have : its = its' := by simpa using congrArg Array.toList d1
  subst this
  exact r.inj r'
theorem Inv.tuple_inj (I : Inv X pins σ H s) (h : SqT X.K H a xs) (h' : SqT X.K H a ys) : xs = ys := by
  obtain ⟨its, r, ⟨o, e, _, n, d⟩, _⟩ := I.tuple h
  obtain ⟨its', r', ⟨o', e', _, n', d'⟩, _⟩ := I.tuple h'
  rw [e] at e'; cases e'
  rw [d] at d'
  injection d' with d1 _
  have : its = its' := by simpa using congrArg Array.toList d1
  subst this
  exact r.inj r'
end

abbrev Cx.wish (X : Cx) (E : Value → Shared → Prop) : Cx := { X with xe := E }
/-- no exception leaves -/
abbrev Cx.nox (X : Cx) : Cx := X.wish fun _ _ => False
theorem Cx.Ok.wish {X : Cx} (ok : X.Ok) (E : Value → Shared → Prop) : (X.wish E).Ok :=
  ⟨ok.mod, ok.kind, ok.glob, ok.blt, ok.above, ok.inj, ok.has, ok.cab, ok.hd, ok.frames, ok.stk, ok.exf, ok.bs, ok.bsz, ok.noex, ok.exfs, ok.funs, ok.frf⟩
theorem Cx.Ok.unwish {X : Cx} {E : Value → Shared → Prop} (ok : (X.wish E).Ok) : X.Ok :=
  ⟨ok.mod, ok.kind, ok.glob, ok.blt, ok.above, ok.inj, ok.has, ok.cab, ok.hd, ok.frames, ok.stk, ok.exf, ok.bs, ok.bsz, ok.noex, ok.exfs, ok.funs, ok.frf⟩
section
variable {X : Cx} {pins : List (Addr × Obj)} {σ : St} {H : Hp} {s : Shared} {E : Value → Shared → Prop}
theorem Inv.wish (I : Inv X pins σ H s) (E : Value → Shared → Prop) : Inv (X.wish E) pins σ H s := ⟨I.ok.wish E, I.os, I.bare, I.base, I.loc, I.cell, I.free, I.freeC, I.pin, I.hok, I.len⟩
theorem Inv.unwish (I : Inv (X.wish E) pins σ H s) : Inv X pins σ H s := ⟨I.ok.unwish, I.os, I.bare, I.base, I.loc, I.cell, I.free, I.freeC, I.pin, I.hok, I.len⟩
theorem SP.unwish {D : Ends} {f : Flow} {s' : Shared} (h : SP (X.wish E) pins D f s') : SP X pins D f s' := by
  cases f with
  | next => obtain ⟨σ', H', I, q⟩ := h; exact ⟨σ', H', I.unwish, q⟩
  | brk => obtain ⟨σ', H', I, q⟩ := h; exact ⟨σ', H', I.unwish, q⟩
  | cont => obtain ⟨σ', H', I, q⟩ := h; exact ⟨σ', H', I.unwish, q⟩
  | ret u => obtain ⟨v, σ', H', I, r, q⟩ := h; exact ⟨v, σ', H', I.unwish, r, q⟩
theorem PE.nox {e : Expr} {t : TE} (h : PE X.nox e t) : PE X e t := fun pins s σ H Q I hw =>
  wpAny_mono (h pins s σ H Q (I.wish _) hw) (fun _ _ ⟨v, H', I', r, q⟩ => ⟨v, H', I'.unwish, r, q⟩) fun _ _ z => False.elim z
theorem PT.nox {e : Expr} {t : TT} (h : PT X.nox e t) : PT X e t := fun pins s σ H Q I hw =>
  wpAny_mono (h pins s σ H Q (I.wish _) hw) (fun _ _ ⟨H', I', q⟩ => ⟨H', I'.unwish, q⟩) fun _ _ z => False.elim z
theorem PSs.nox {st : List Stmt} {t : TS} (h : PSs X.nox st t) : PSs X st t := fun pins s σ H D I hw =>
  wpAny_mono (h pins s σ H D (I.wish _) hw) (fun _ _ q => q.unwish) fun _ _ z => False.elim z
end

section
variable {X : Cx} {st : Stmt} {rest : List Stmt} {t u : TS} {e : Expr} {te : TE} {pos : Pos}
def tNext : TS := fun D σ H => D.nx σ H
def tSeq (t u : TS) : TS := fun D σ H => t { D with nx := u D } σ H
theorem pss_nil : PSs X [] tNext := fun _ _ σ H _ I h => wpAny_execs_nil ⟨σ, H, I, h⟩
theorem pss_cons (h1 : PS X st t) (h2 : PSs X rest u) : PSs X (st :: rest) (tSeq t u) := by
  intro pins s σ H D I h
  refine wpAny_execs_cons (thn (h1 pins s σ H { D with nx := u D } I h) fun f s1 q => ?_)
  cases f with
  | next =>
    obtain ⟨σ', H', I', q⟩ := q
    exact h2 pins s1 σ' H' D I' q
  | ret v => exact q
  | brk => exact q
  | cont => exact q
theorem pss_one (h1 : PS X st t) : PSs X [st] t := by
  intro pins s σ H D I h
  refine wpAny_execs_cons (thn (h1 pins s σ H D I h) fun f s1 q => ?_)
  cases f with
  | next => exact wpAny_execs_nil q
  | ret v => exact q
  | brk => exact q
  | cont => exact q
/-- in a def's body nothing is shown -/
theorem Inv.quiet {pins : List (Addr × Obj)} {σ : St} {H : Hp} {s : Shared} (I : Inv X pins σ H s) : interactive X.env = false := by simp [interactive, I.ok.kind]
/-- an expression whose value is dropped -/
def tDrop (te : TE) : TS := fun D σ H => te σ H fun _ H1 => D.nx σ H1
theorem ps_expr (he : PE X e te) (hs : swapsWith e none pos.line X.env = pure false := by rfl) : PS X (.Expr e pos) (tDrop te) := by
  intro pins s σ H D I h
  exact wpAny_Expr_any (thn (he pins s σ H _ I h) fun v s1 ⟨x, H1, I1, r1, q1⟩ => ⟨σ, H1, I1, q1⟩) I.quiet hs
def tRet (te : TE) : TS := fun D σ H => te σ H D.rt
theorem ps_ret (he : PE X e te) : PS X (.Return (some e) pos) (tRet te) := by
  intro pins s σ H D I h
  exact wpAny_Return_some (thn (he pins s σ H _ I h) fun v s1 ⟨x, H1, I1, r1, q1⟩ => ⟨x, σ, H1, I1, r1, q1⟩)
def tIfS (c : TT) (t u : TS) : TS := fun D σ H => c σ H fun b H1 => if b = true then t D σ H1 else u D σ H1
theorem ps_if {c : Expr} {a b : List Stmt} {tc : TT} (hc : PT X c tc) (ha : PSs X a t) (hb : PSs X b u) : PS X (.If c a b pos) (tIfS tc t u) := by
  intro pins s σ H D I h
  refine wpAny_If (thn (hc pins s σ H _ I h) fun d s1 ⟨H1, I1, q1⟩ => ?_)
  cases d with
  | true => exact ha pins s1 σ H1 D I1 q1
  | false => exact hb pins s1 σ H1 D I1 q1
end

abbrev TG := V → St → Hp → (St → Hp → Prop) → Prop
abbrev TGs := List V → St → Hp → (St → Hp → Prop) → Prop
def PG (X : Cx) (target : Expr) (t : TG) : Prop :=
  ∀ (pins : List (Addr × Obj)) (s : Shared) (σ : St) (H : Hp) (v : V) (u : Value) (Q : St → Hp → Prop), Inv X pins σ H s → RelV v u → t v σ H Q →
    wpAny (model X.prog X.w) X.A (assign target X.env u) (fun _ s' => ∃ σ' H', Inv X pins σ' H' s' ∧ Q σ' H') X.xe s
/-- several targets, one after another -/
def PGs (X : Cx) (ts : List Expr) (t : TGs) : Prop :=
  ∀ (pins : List (Addr × Obj)) (s : Shared) (σ : St) (H : Hp) (vs : List V) (us : List Value) (Q : St → Hp → Prop), Inv X pins σ H s → Vals vs us → t vs σ H Q →
    wpAny (model X.prog X.w) X.A (assignInOrder ((assignEach ts X.env).map (·.2)) us) (fun _ s' => ∃ σ' H', Inv X pins σ' H' s' ∧ Q σ' H') X.xe s
section
variable {X : Cx} {pos : Pos}
def gName (i : Nat) : TG := fun v σ H Q => Q (σ.set i (some v)) H
theorem pg_name {i : Nat} {x : Str} (hN : X.N.Nodup) (hi : X.N[i]? = some x) (hx : Loc X.env.scope x) (hf : X.fn x = true ∨ X.env.scope.names.lookup x = some .local := by first | exact .inl rfl | exact .inr rfl | assumption) : PG X (.Name x pos) (gName i) := by
  intro pins s σ H v u Q I r h
  exact wpAny_assign_Name (store_ok I hN hi hx r (fun s' I' => ⟨_, H, I', h⟩) hf)
def gNil : TGs := fun vs σ H Q => vs = [] ∧ Q σ H
def gCons (t : TG) (u : TGs) : TGs := fun vs σ H Q => ∃ v r, vs = v :: r ∧ t v σ H fun σ' H' => u r σ' H' Q
theorem pgs_nil : PGs X [] gNil := by
  intro pins s σ H vs us Q I r h
  obtain ⟨e, h⟩ := h
  subst e
  cases r
  exact assignInOrder_nil ⟨σ, H, I, h⟩
theorem pgs_cons {e : Expr} {es : List Expr} {t : TG} {u : TGs} (h1 : PG X e t) (h2 : PGs X es u)
    (hs : (assignEach (e :: es) X.env).map (·.2) = assign e X.env :: (assignEach es X.env).map (·.2) := by rfl) : PGs X (e :: es) (gCons t u) := by
  intro pins s σ H vs us Q I r h
  obtain ⟨v, vr, e1, h⟩ := h
  subst e1
  cases r with
  | cons r rr =>
    rw [hs]
    refine assignInOrder_cons (thn (h1 pins s σ H _ _ _ I r h) fun _ s1 ⟨σ1, H1, I1, q1⟩ => ?_)
    exact h2 pins s1 σ1 H1 _ _ Q I1 rr q1
/-- (a, b, ..) = a tuple of that length -/
def gTup (K : PySem.W.Frag) (n : Nat) (t : TGs) : TG := fun v σ H Q => ∃ a xs, v = .ref a ∧ SqT K H a xs ∧ xs.length = n ∧ t xs σ H Q
theorem pg_tup {es : List Expr} {k : Nat} {t : TGs} {n : Nat} (hc : X.calm = true) (h : PGs X es t)
    (hn : (assignEach es X.env).length = n := by rfl) (hst : (assignEach es X.env).findIdx? (·.1) = none := by rfl) : PG X (.Tuple es k pos) (gTup X.K n t) := by
  intro pins s σ H v u Q I r hw
  obtain ⟨a, xs, e1, hq, hl, hw⟩ := hw
  subst e1
  cases r
  obtain ⟨its, rv, ht, hz⟩ := I.tuple hq
  refine assign_Tuple_tuple (I.ok.hd hc) ht (by simp [hn, ← hl, rv.length]) hst fun h' hx => ?_
  have I1 : Inv X pins σ H { s with heap := h' } := I.kept (t' := s.toks) fun b o e => hx b o (Nat.ne_of_lt (Heap.lt_size e)) e
  exact h pins _ σ H xs _ Q I1 (by simpa using rv) hw
/-- target = value -/
def tAsg (te : TE) (g : TG) : TS := fun D σ H => te σ H fun x H1 => g x σ H1 D.nx
theorem ps_asg {tg e : Expr} {te : TE} {g : TG} (he : PE X e te) (hg : PG X tg g) (hs : swapsWithSole [tg] e pos.line X.env = pure false := by rfl) (hw : swappedStores [tg] e X.env = pure none := by rfl)
    (h1 : (assignEach [tg] X.env).map (·.2) = [assign tg X.env] := by rfl) : PS X (.Assign [tg] e pos) (tAsg te g) := by
  intro pins s σ H D I h
  refine wpAny_Assign_stores (thn (he pins s σ H _ I h) fun v s1 ⟨x, H1, I1, r1, q1⟩ => ?_) hs hw
  rw [h1]
  exact thn (hg pins s1 σ H1 x v _ I1 r1 q1) fun _ s2 q => q
/-- name = value -/
theorem ps_set {i : Nat} {x : Str} {e : Expr} {te : TE} {pos' : Pos} (hN : X.N.Nodup) (hi : X.N[i]? = some x) (hx : Loc X.env.scope x) (he : PE X e te) (hs : swapsWith e (some (.Name x pos')) pos.line X.env = pure false := by rfl) (hf : X.fn x = true ∨ X.env.scope.names.lookup x = some .local := by first | exact .inl rfl | exact .inr rfl | assumption) :
    PS X (.Assign [.Name x pos'] e pos) (tAsg te (gName i)) := by
  intro pins s σ H D I h
  refine wpAny_Assign_Name (thn (he pins s σ H _ I h) fun v s1 ⟨y, H1, I1, r1, q1⟩ => ?_) hs
  exact store_ok I1 hN hi hx r1 (fun s2 I2 => ⟨_, H1, I2, q1⟩) hf
/-- a, b = x, y with plain local names: stored from the right; the pair itself is not tracked (the opening rows as in PyProof/Rows/TupAssign.lean:23) -/
def tPar (i j : Nat) (ta : TA) : TS := fun D σ H => ta σ H fun vs H1 => ∃ v w, vs = [v, w] ∧ D.nx ((σ.set i (some v)).set j (some w)) H1
theorem ps_par {i j : Nat} {x y : Str} {a b : Expr} {ta : TA} {px py pt : Pos} {kt k2 pt2} (hc : X.calm = true) (hN : X.N.Nodup) (hi : X.N[i]? = some x) (hj : X.N[j]? = some y) (hij : i ≠ j)
    (hx : X.env.scope.names.lookup x = some .local) (hy : X.env.scope.names.lookup y = some .local) (ha : PA X [a, b] ta)
    (hw : swappedStores [.Tuple [.Name x px, .Name y py] kt pt] (.Tuple [a, b] k2 pt2) X.env = pure (some [x, y]))
    (hs : swapsWithSole [.Tuple [.Name x px, .Name y py] kt pt] (.Tuple [a, b] k2 pt2) pos.line X.env = pure false := by rfl) :
    PS X (.Assign [.Tuple [.Name x px, .Name y py] kt pt] (.Tuple [a, b] k2 pt2) pos) (tPar i j ta) := by
  intro pins s σ H D I h
  rw [exec_Assign_arm]
  refine wpAny_bind (wpAny_standAt ?_)
  rw [hs]
  refine wpAny_bind (wpAny_pure ?_)
  rw [if_neg (by decide)]
  refine wpAny_bind (Tuple_ (thn (ha _ pins s σ H _ I h) fun us s1 ⟨vs, H1, I1, r1, q1⟩ => ?_))
  obtain ⟨v, w, e1, q1⟩ := q1
  subst e1
  obtain ⟨u1, u2, rfl, rv, rw'⟩ : ∃ u1 u2, us = [u1, u2] ∧ RelV v u1 ∧ RelV w u2 := by
    cases r1 with
    | cons p q =>
      cases q with
      | cons p' q' =>
        cases q'
        exact ⟨_, _, rfl, p, p'⟩
  refine wpAny_newObj_type ?_ (by show 2 ≤ sizeLine; decide)
  have I2 : Inv X pins σ H1 { s1 with heap := s1.heap.push { cls := .type "tuple", data := .seq [u1, u2].toArray } } := I1.kept (t' := s1.toks) fun b o e => Heap.get?_push_of_some _ e
  rw [hw]
  refine wpAny_bind (wpAny_pure ?_)
  show wpAny (model X.prog X.w) X.A (do rule "assign.swapped-stores"; let items ← unpackItems (.ref s1.heap.objs.size) 2 none; assignInOrder [fun v => bindName X.env y v, fun v => bindName X.env x v] items.reverse; pure Flow.next) _ _ _
  refine wpAny_bind (wpAny_rule (wpAny_bind (unpackItems_tuple (items := #[u1, u2]) (I.ok.hd hc) (IsTup.new s1.heap _) fun h' hx' => ?_)))
  have I3 := I2.kept (h' := h') (t' := s1.toks) fun b o e => hx' b o (Nat.ne_of_lt (Heap.lt_size e)) e
  show wpAny _ _ (assignInOrder [fun v => bindName X.env y v, fun v => bindName X.env x v] [u2, u1] >>= fun _ => pure Flow.next) _ _ _
  refine wpAny_bind (assignInOrder_cons (wpAny_bindName (store_ok I3 hN hj (.inl hy) rw' (fun s2 I4 => ?_) (.inr hy))))
  refine assignInOrder_cons (wpAny_bindName (store_ok I4 hN hi (.inl hx) rv (fun s3 I5 => assignInOrder_nil (wpAny_pure ?_)) (.inr hx)))
  rw [List.set_comm _ _ (Ne.symm hij)] at I5
  exact ⟨_, H1, I5, q1⟩
end

section
variable {X : Cx} {pos : Pos}
/-- the invariant W with its measure -/
def tWhile (c : TT) (tb : TS) : TS := fun D σ H => ∃ W : Nat → St → Hp → Prop, (∃ m, W m σ H) ∧ ∀ m σ H, W m σ H →
  c σ H fun b H1 => if b = true then ∃ N : St → Hp → Prop, (∀ σ' H', N σ' H' → ∃ m', m' < m ∧ W m' σ' H') ∧ tb { D with nx := N, ct := N, bk := D.nx } σ H1 else D.nx σ H1
theorem ps_while {c : Expr} {body : List Stmt} {tc : TT} {tb : TS} (hp : PassesOwn (model X.prog X.w) X.A X.env X.xe) (hc : PT X c tc) (hb : PSs X body tb) : PS X (.While c body [] pos) (tWhile tc tb) := by
  intro pins s σ H D I h
  obtain ⟨W, ⟨m0, w0⟩, turn⟩ := h
  refine wpAny_While (codeAny_whileLoop (fun n s' => ∃ σ' H', Inv X pins σ' H' s' ∧ W n σ' H') ?_ m0 ⟨σ, H, I, w0⟩)
  rintro n s1 ⟨σ1, H1, I1, w1⟩
  refine wpAny_passesOwn hp (thn (hc pins s1 σ1 H1 _ I1 (turn n σ1 H1 w1)) fun b s2 ⟨H2, I2, q2⟩ => ?_)
  cases b with
  | true =>
    obtain ⟨N, hN, q2⟩ := q2
    rw [if_pos rfl]
    refine wpAny_passesOwn hp (thn (hb pins s2 σ1 H2 _ I2 q2) fun f s3 q3 => ?_)
    cases f with
    | next =>
      obtain ⟨σ3, H3, I3, n3⟩ := q3
      obtain ⟨m', hm, w3⟩ := hN σ3 H3 n3
      exact ⟨m', hm, σ3, H3, I3, w3⟩
    | cont =>
      obtain ⟨σ3, H3, I3, n3⟩ := q3
      obtain ⟨m', hm, w3⟩ := hN σ3 H3 n3
      exact ⟨m', hm, σ3, H3, I3, w3⟩
    | brk => exact q3
    | ret v => exact q3
  | false =>
    rw [if_neg Bool.false_ne_true]
    exact wpAny_execs_nil ⟨σ1, H2, I2, q2⟩
end

/-- at turn i: it yields x (the heap may grow), or it stops -/
structure It where
  go : Nat → Hp → Prop
  yld : Nat → Hp → V → Hp → Prop
  stop : Nat → Hp → Prop
/-- the iterator's own objects may turn: they are not the frame's, not pinned, younger than the entry (or a comprehension's own) -/
def FpOk (X : Cx) (pins : List (Addr × Obj)) (H : Hp) (b : Addr) : Prop :=
  H b = none ∧ b ≠ X.env.locals ∧ b ∉ X.fs ∧ (b ∈ X.ex ∨ X.s_0.heap.objs.size ≤ b) ∧ (∀ x c, X.env.cells.lookup x = some c → c ≠ b) ∧ ∀ p ∈ X.pn ++ pins, p.1 ≠ b
theorem Inv.fpOk {X : Cx} {pins : List (Addr × Obj)} {σ : St} {H H' : Hp} {s : Shared} {b : Addr} (I : Inv X pins σ H s) (hb : s.heap.objs.size ≤ b) (hn : H' b = none) : FpOk X pins H' b := by
  refine ⟨hn, Nat.ne_of_gt (Nat.lt_of_lt_of_le I.lt hb), I.nofs hb, .inr (Nat.le_trans I.sz hb), fun x c e z => ?_, fun p hp z => ?_⟩
  · obtain ⟨v, q⟩ := I.cell x c e
    exact absurd (Nat.lt_of_lt_of_le q.lt (by rw [z]; exact hb)) (Nat.lt_irrefl _)
  · exact absurd (Nat.lt_of_lt_of_le (Heap.lt_size (I.pin p hp).1) (by rw [z]; exact hb)) (Nat.lt_irrefl _)
structure Turn (P : Program) (w : World) (K : PySem.W.Frag) (tg : Expr) (J : It) (fp : List Addr) (it : Addr) (tn : Nat → Heap → Prop) : Prop where
  mem : it ∈ fp
  obj : ∀ i h, tn i h → ∀ b ∈ fp, ∃ o, h.get? b = some o ∧ ∀ v, o.data ≠ .cell v
  keep : ∀ i h h', tn i h → (∀ b ∈ fp, ∀ o, h.get? b = some o → h'.get? b = some o) → tn i h'
  item : ∀ (X : Cx), X.prog = P → X.w = w → X.K = K → X.calm = true → ∀ (i : Nat) (pins : List (Addr × Obj)) (s : Shared) (σ : St) (H : Hp) (E : Value → Shared → Prop), Inv X pins σ H s → (∀ b ∈ fp, FpOk X pins H b) → tn i s.heap → J.go i H →
    wpAny (model P w) X.A (pyNext (.ref it)) (fun r s1 => ∃ u, r = some u ∧
      wpAny (model P w) X.A (letOwnedTupleGo tg (.ref it) u) (fun _ s2 => ∃ x H', Inv X pins σ H' s2 ∧ RelV x u ∧ J.yld i H x H' ∧ tn (i + 1) s2.heap ∧ ∀ b ∈ fp, H' b = none) E s1) E s
  done : ∀ (X : Cx), X.prog = P → X.w = w → X.K = K → X.calm = true → ∀ (i : Nat) (pins : List (Addr × Obj)) (s : Shared) (σ : St) (H : Hp) (E : Value → Shared → Prop), Inv X pins σ H s → (∀ b ∈ fp, FpOk X pins H b) → tn i s.heap → J.stop i H →
    wpAny (model P w) X.A (pyNext (.ref it)) (fun r s1 => r = none ∧ Inv X pins σ H s1) E s
  self : ∀ (A : Around) (i : Nat) (s : Shared) (Q : Value → Shared → Prop) (E : Value → Shared → Prop), tn i s.heap → Q (.ref it) s → wpAny (model P w) A (pyIter (.ref it)) Q E s
abbrev TI := St → Hp → (It → Hp → Prop) → Prop
/-- an iterator has come -/
def PIE (X : Cx) (pins : List (Addr × Obj)) (σ : St) (tg : Expr) (R : It → Hp → Prop) (itv : Value) (s2 : Shared) : Prop :=
  ∃ (it : Addr) (fp : List Addr) (tn : Nat → Heap → Prop) (J : It) (H' : Hp), itv = .ref it ∧ Inv X pins σ H' s2 ∧ Turn X.prog X.w X.K tg J fp it tn ∧ tn 0 s2.heap ∧ (∀ b ∈ fp, FpOk X pins H' b) ∧ R J H'
def PI (X : Cx) (tg iter : Expr) (wi : TI) : Prop :=
  ∀ (pins : List (Addr × Obj)) (s : Shared) (σ : St) (H : Hp) (R : It → Hp → Prop), Inv X pins σ H s → wi σ H R →
    wpAny (model X.prog X.w) X.A (eval iter X.env) (fun v s1 => wpAny (model X.prog X.w) X.A (pyIter v) (PIE X pins σ tg R) X.xe s1) X.xe s

/-- the step ahead of the store is nothing for an iterator that keeps no tuple -/
theorem go_of {M : Model} {A : Around} {E : Value → Shared → Prop} {s : Shared} {tg : Expr} {it : Addr} {u : Value} {o : Obj} {n : String} {vs : Array Value} {Q : Unit → Shared → Prop} (ho : s.heap.get? it = some o) (hc : o.cls = .type n) (hd : o.data = .fields vs)
    (hn : ["enumerate", "zip", "dict_itemiterator", "dict_reverseitemiterator", "odict_iterator", "itertools.zip_longest", "itertools.pairwise"].contains n = false) (hQ : Q () s) : wpAny M A (letOwnedTupleGo tg (.ref it) u) Q E s := by
  unfold letOwnedTupleGo
  cases tg <;> first
    | exact wpAny_pure hQ
    | (cases u <;> first
        | exact wpAny_pure hQ
        | (refine wpAny_bind (wpAny_load ho ?_)
           rw [hc, hd]
           show wpAny M A (if (["enumerate", "zip", "dict_itemiterator", "dict_reverseitemiterator", "odict_iterator", "itertools.zip_longest", "itertools.pairwise"].contains n && vs[0]? == some (rawInt _)) = true then _ else _) Q E s
           rw [if_neg (by intro h; rw [hn, Bool.false_and] at h; cases h)]
           exact wpAny_pure hQ))

/-- the list at a, as it stands at each turn (a loop may append to it) -/
def Itl (K : PySem.W.Frag) (a : Addr) : It :=
  ⟨fun i H => ∃ xs x, SqL K H a xs ∧ xs[i]? = some x, fun i H x H' => H' = H ∧ ∀ xs, SqL K H a xs → xs[i]? = some x, fun i H => ∃ xs, SqL K H a xs ∧ xs.length ≤ i⟩
def Itt (K : PySem.W.Frag) (a : Addr) : It :=
  ⟨fun i H => ∃ xs x, SqT K H a xs ∧ xs[i]? = some x, fun i H x H' => H' = H ∧ ∀ xs, SqT K H a xs → xs[i]? = some x, fun i H => ∃ xs, SqT K H a xs ∧ xs.length ≤ i⟩
/-- lo, lo + 1, .. (n of them) -/
def Itr (lo : Int) (n : Nat) : It := ⟨fun i _ => i < n, fun i H x H' => H' = H ∧ x = .int (lo + i), fun i _ => n ≤ i⟩
theorem turn_list {P : Program} {w : World} {K : PySem.W.Frag} {tg : Expr} (a it : Addr) : Turn P w K tg (Itl K a) [it] it (fun i h => h.IsListIter it a i) where
  mem := by simp
  obj := fun i h st b hb => by
    have e : b = it := by simpa using hb
    subst e
    obtain ⟨o, e, c, d⟩ := st
    exact ⟨o, e, fun v z => by rw [d] at z; cases z⟩
  keep := fun i h h' st k => st.at fun o e => k it (by simp) o e
  item := by
    intro X hP hw hK hc i pins s σ H E I hf st hg
    subst hP hw hK
    obtain ⟨xs, x, hq, hx⟩ := hg
    obtain ⟨its, rv, p, hz⟩ := I.list hq
    obtain ⟨u, hu, ru⟩ := rv.get hx
    obtain ⟨f0, f1, f2, f3, f4, f5⟩ := hf it (by simp)
    refine wpAny_pyNext_list_item st p.isList (x := u) (by simpa using hu) fun h' st' sb => ?_
    have I1 : Inv X pins σ H { s with heap := h' } := I.turned (t' := s.toks) (fun b o hb e => (sb.2 b hb).trans e) f0 f1 f3 f4 f5
    obtain ⟨o, e, c, d⟩ := id st'
    exact ⟨u, rfl, go_of (s := { s with heap := h' }) e c d (by decide) ⟨x, H, I1, ru, ⟨rfl, fun ys hy => by rw [I.list_inj hy hq]; exact hx⟩, st', fun b hb => (hf b hb).1⟩⟩
  done := by
    intro X hP hw hK hc i pins s σ H E I hf st hg
    subst hP hw hK
    obtain ⟨xs, hq, hx⟩ := hg
    obtain ⟨its, rv, p, hz⟩ := I.list hq
    obtain ⟨f0, f1, f2, f3, f4, f5⟩ := hf it (by simp)
    have hl := rv.length
    exact wpAny_pyNext_list_end (I.ok.hd hc) st p.isList (by simp; omega) fun h' eb => ⟨rfl, I.turned (t' := s.toks) (fun b o hb e => eb b o hb e) f0 f1 f3 f4 f5⟩
  self := fun _ _ _ _ _ st h => wpAny_pyIter_listiter st h
theorem turn_tuple {P : Program} {w : World} {K : PySem.W.Frag} {tg : Expr} (a it : Addr) : Turn P w K tg (Itt K a) [it] it (fun i h => h.IsTupleIter it a i) where
  mem := by simp
  obj := fun i h st b hb => by
    have e : b = it := by simpa using hb
    subst e
    obtain ⟨o, e, c, d⟩ := st
    exact ⟨o, e, fun v z => by rw [d] at z; cases z⟩
  keep := fun i h h' st k => st.at fun o e => k it (by simp) o e
  item := by
    intro X hP hw hK hc i pins s σ H E I hf st hg
    subst hP hw hK
    obtain ⟨xs, x, hq, hx⟩ := hg
    obtain ⟨its, rv, p, hz⟩ := I.tuple hq
    obtain ⟨u, hu, ru⟩ := rv.get hx
    obtain ⟨f0, f1, f2, f3, f4, f5⟩ := hf it (by simp)
    refine wpAny_pyNext_tuple_item st (show s.heap.IsTuple a its.toArray from p) (x := u) (by simpa using hu) fun h' st' sb => ?_
    have I1 : Inv X pins σ H { s with heap := h' } := I.turned (t' := s.toks) (fun b o hb e => (sb.2 b hb).trans e) f0 f1 f3 f4 f5
    obtain ⟨o, e, c, d⟩ := id st'
    exact ⟨u, rfl, go_of (s := { s with heap := h' }) e c d (by decide) ⟨x, H, I1, ru, ⟨rfl, fun ys hy => by rw [I.tuple_inj hy hq]; exact hx⟩, st', fun b hb => (hf b hb).1⟩⟩
  done := by
    intro X hP hw hK hc i pins s σ H E I hf st hg
    subst hP hw hK
    obtain ⟨xs, hq, hx⟩ := hg
    obtain ⟨its, rv, p, hz⟩ := I.tuple hq
    obtain ⟨f0, f1, f2, f3, f4, f5⟩ := hf it (by simp)
    have hl := rv.length
    exact wpAny_pyNext_tuple_end (I.ok.hd hc) st (show s.heap.IsTuple a its.toArray from p) (by simp; omega) fun h' eb => ⟨rfl, I.turned (t' := s.toks) (fun b o hb e => eb b o hb e) f0 f1 f3 f4 f5⟩
  self := fun _ _ _ _ _ st h => wpAny_pyIter_tupleiter st h
theorem turn_range {P : Program} {w : World} {K : PySem.W.Frag} {tg : Expr} (it : Addr) (lo : Int) (n : Nat) : Turn P w K tg (Itr lo n) [it] it (fun i h => IsRangeIter h it (lo + (i : Nat) * 1) ((n : Int) - (i : Nat)) 1) where
  mem := by simp
  obj := fun i h st b hb => by
    have e : b = it := by simpa using hb
    subst e
    exact ⟨_, st, fun v z => by
      have z' : Data.fields _ = Data.cell v := z
      cases z'⟩
  keep := fun i h h' st k => k it (by simp) _ st
  item := by
    intro X hP hw hK hc i pins s σ H E I hf st hg
    subst hP hw hK
    obtain ⟨f0, f1, f2, f3, f4, f5⟩ := hf it (by simp)
    have W := Walks.range (prog := X.prog) (w := X.w) (I.ok.hd hc) it lo 1 n
    refine W.item i s _ _ hg st fun v h' tk hv st' kk => ?_
    obtain ⟨t, rfl⟩ := hv
    have I1 : Inv X pins σ H { s with heap := h', toks := tk } := I.turned (fun b o hb e => kk b o (by simpa using hb) e) f0 f1 f3 f4 f5
    refine ⟨_, rfl, go_of (s := { s with heap := h', toks := tk }) (n := "range_iterator") st' rfl rfl (by decide) ⟨.int (lo + i), H, I1, ⟨t, ?_⟩, ⟨rfl, rfl⟩, st', fun b hb => (hf b hb).1⟩⟩
    rw [Int.mul_one]
  done := by
    intro X hP hw hK hc i pins s σ H E I hf st hg
    subst hP hw hK
    obtain ⟨f0, f1, f2, f3, f4, f5⟩ := hf it (by simp)
    exact wpAny_pyNext_range_end (I.ok.hd hc) st (by have : n ≤ i := hg; omega) fun h' eb => ⟨rfl, I.turned (t' := s.toks) (fun b o hb e => eb b o hb e) f0 f1 f3 f4 f5⟩
  self := fun _ _ _ _ _ st h => wpAny_pyIter_rangeiter st h
end L2

namespace L2
open PySem PySem.Spec PyProof.Rows
section
variable {X : Cx} {tg : Expr}
/-- a range object just made, walked -/
theorem range_it {pins : List (Addr × Obj)} {σ : St} {H : Hp} {s : Shared} {R : It → Hp → Prop} {E : Value → Shared → Prop} {lo hi : Int} {t u v : Tok} {tk : Nat} (I : Inv X pins σ H s) (h1 : -(2 ^ 62) ≤ lo) (h2 : lo < 2 ^ 62) (h3 : -(2 ^ 62) ≤ hi) (h4 : hi < 2 ^ 62)
    (q : R (Itr lo (hi - lo).toNat) H) : wpAny (model X.prog X.w) X.A (pyIter (.ref s.heap.objs.size)) (PIE X pins σ tg R) E { s with heap := s.heap.push { cls := .type "range", data := .fields #[.int lo t, .int hi u, .int 1 v] }, toks := tk } := by
  refine wpAny_pyIter_range (IsRange.new ..) (small_one h1 h2 h3 h4) ?_
  have I1 : Inv X pins σ H { s with heap := s.heap.push { cls := .type "range", data := .fields #[.int lo t, .int hi u, .int 1 v] }, toks := tk } := I.kept fun b o e => Heap.get?_push_of_some _ e
  refine ⟨(s.heap.push { cls := .type "range", data := .fields #[.int lo t, .int hi u, .int 1 v] }).objs.size, [(s.heap.push { cls := .type "range", data := .fields #[.int lo t, .int hi u, .int 1 v] }).objs.size], _, _, H, rfl,
    I1.kept (t' := tk) fun b o e => Heap.get?_push_of_some _ e, turn_range _ lo (hi - lo).toNat, ?_, fun b hb => ?_, q⟩
  · have e1 : lo + ((0 : Nat) : Int) * 1 = lo := by simp
    have e2 : (((hi - lo).toNat : Nat) : Int) - ((0 : Nat) : Int) = Builtin.Range.rangeSize lo hi 1 := by rw [rangeSize_one]; split <;> omega
    show IsRangeIter _ _ (lo + ((0 : Nat) : Int) * 1) ((((hi - lo).toNat : Nat) : Int) - ((0 : Nat) : Int)) 1
    rw [e1, e2]
    exact Heap.get?_push_size _ rfl
  · have e : b = (s.heap.push { cls := .type "range", data := .fields #[.int lo t, .int hi u, .int 1 v] }).objs.size := by simpa using hb
    subst e
    exact I1.fpOk (Nat.le_refl _) (I1.hok.fresh (Nat.le_refl _))
def iRng1 (ta : TA) : TI := fun σ H R => ta σ H fun vs H1 => ∃ j : Int, vs = [.int j] ∧ -(2 ^ 62) ≤ j ∧ j < 2 ^ 62 ∧ R (Itr 0 j.toNat) H1
theorem pi_range1 {a : Expr} {ta : TA} {p pos : Pos} (hg : Gl X "range") (hm : X.mg "range" = none) (ha : PA X [a] ta) (hs : starEach [a] X.env = [(false, eval a X.env)] := by rfl) : PI X tg (.Call (.Name "range" p) [a] [] pos) (iRng1 ta) := by
  intro pins s σ H R I h
  refine Call_ (ld_blt I hg hm boot_range (PyProof.Rows.callWith_type1 (thn (ha pos pins s σ H _ I h) fun us s1 ⟨vs, H1, I1, r1, q1⟩ => ?_) hs rfl))
  obtain ⟨j, e, q1, q2, q⟩ := q1
  subst e
  cases r1 with
  | cons r rr =>
    cases rr
    obtain ⟨t, rfl⟩ := r
    exact call_range_1 (range_it I1 (by omega) (by omega) q1 q2 (by simpa using q))
/-- W: the invariant by the turn and a measure; N: what the body is to reach -/
def tFor (wi : TI) (g : TG) (tb : TS) : TS := fun D σ H => wi σ H fun J H1 => ∃ W : Nat → Nat → St → Hp → Prop, (∃ m, W 0 m σ H1) ∧ ∀ i m σ H, W i m σ H →
  (J.stop i H ∧ D.nx σ H) ∨ (J.go i H ∧ ∃ N : St → Hp → Prop, (∀ σ' H', N σ' H' → ∃ m', m' < m ∧ W (i + 1) m' σ' H') ∧ ∀ x H', J.yld i H x H' → g x σ H' fun σ2 H2 => tb { D with nx := N, ct := N, bk := D.nx } σ2 H2)
/-- the records at fp as they stand -/
def pinsAt (fp : List Addr) (h : Heap) : List (Addr × Obj) := fp.filterMap fun b => (h.get? b).map fun o => (b, o)
theorem mem_pinsAt {fp : List Addr} {h : Heap} {b : Addr} {o : Obj} (hb : b ∈ fp) (e : h.get? b = some o) : (b, o) ∈ pinsAt fp h := List.mem_filterMap.mpr ⟨b, hb, by rw [e]; rfl⟩
theorem of_pinsAt {fp : List Addr} {h : Heap} {p : Addr × Obj} (hp : p ∈ pinsAt fp h) : p.1 ∈ fp ∧ h.get? p.1 = some p.2 := by
  obtain ⟨b, hb, e⟩ := List.mem_filterMap.mp hp
  cases q : h.get? b with
  | none => rw [q] at e; cases e
  | some o =>
    rw [q] at e
    have e' : (b, o) = p := Option.some.inj e
    subst e'
    exact ⟨hb, q⟩
theorem Inv.pinned {pins : List (Addr × Obj)} {σ : St} {H : Hp} {s : Shared} {fp : List Addr} (I : Inv X pins σ H s) (hf : ∀ b ∈ fp, FpOk X pins H b) (ho : ∀ b ∈ fp, ∃ o, s.heap.get? b = some o ∧ ∀ v, o.data ≠ .cell v) : Inv X (pins ++ pinsAt fp s.heap) σ H s :=
  I.pins_of fun p hp => (List.mem_append.mp hp).elim (fun z => I.pin p (List.mem_append_right _ z)) fun z => by
    obtain ⟨hb, e⟩ := of_pinsAt z
    obtain ⟨f0, f1, f2, _⟩ := hf p.1 hb
    obtain ⟨o, e', d⟩ := ho p.1 hb
    rw [e] at e'; cases e'
    exact ⟨e, f0, f1, f2, d⟩
theorem Inv.unpinned {pins pl : List (Addr × Obj)} {σ : St} {H : Hp} {s : Shared} (I : Inv X (pins ++ pl) σ H s) : Inv X pins σ H s := I.pins_of fun p hp => I.pin p (List.mem_append_right _ (List.mem_append_left _ hp))
theorem ps_for {iter : Expr} {body : List Stmt} {wi : TI} {g : TG} {tb : TS} {pos : Pos} (hp : PassesOwn (model X.prog X.w) X.A X.env X.xe) (hc : X.calm = true) (hi : PI X tg iter wi) (hg : PG X tg g) (hb : PSs X body tb)
    (hs : ∀ x, foldedSetIterable iter X.env x = pure x := by intro _; rfl) : PS X (.For tg iter body [] pos) (tFor wi g tb) := by
  intro pins s σ H D I h
  refine wpAny_For (thn (hi pins s σ H _ I h) fun v s1 h1 => thn h1 fun itv s2 h2 => ?_) hs
  obtain ⟨it, fp, tn, J, H2, e, I2, T, st2, f2, W, ⟨m0, w0⟩, turn⟩ := h2
  subst e
  -- what stays true of the iterator's objects through the loop
  have stat : ∀ {H' : Hp}, (∀ b ∈ fp, H' b = none) → ∀ b ∈ fp, FpOk X pins H' b := fun hn b hb => ⟨hn b hb, (f2 b hb).2⟩
  refine codeAny_forLoop_any (fun n s' => ∃ i σ' H', Inv X pins σ' H' s' ∧ tn i s'.heap ∧ (∀ b ∈ fp, H' b = none) ∧ W i n σ' H') ?_ m0 ⟨0, σ, H2, I2, st2, fun b hb => (f2 b hb).1, w0⟩
  rintro n s3 ⟨i, σ3, H3, I3, st3, fr3, w3⟩
  rcases turn i n σ3 H3 w3 with ⟨stop, qn⟩ | ⟨go, N, hN, step⟩
  · refine wpAny_passesOwn hp (thn (T.done X rfl rfl rfl hc i pins s3 σ3 H3 X.xe I3 (stat fr3) st3 stop) fun r s4 ⟨hr, I4⟩ => ?_)
    subst hr
    exact wpAny_execs_nil ⟨σ3, H3, I4, qn⟩
  · refine wpAny_passesOwn hp (thn (T.item X rfl rfl rfl hc i pins s3 σ3 H3 X.xe I3 (stat fr3) st3 go) fun r s4 ⟨u, hr, h4⟩ => ?_)
    subst hr
    refine wpAny_passesOwn hp (thn h4 fun _ s5 ⟨x, H5, I5, r5, y5, st5, fr5⟩ => ?_)
    have I5' := I5.pinned (stat fr5) (T.obj _ _ st5)
    refine wpAny_passesOwn hp (thn (hg _ s5 σ3 H5 x u _ I5' r5 (step x H5 y5)) fun _ s6 ⟨σ6, H6, I6, q6⟩ => ?_)
    refine wpAny_passesOwn hp (thn (hb _ s6 σ6 H6 _ I6 q6) fun f s7 q7 => ?_)
    have again : ∀ {σ7 : St} {H7 : Hp}, Inv X (pins ++ pinsAt fp s5.heap) σ7 H7 s7 → N σ7 H7 → ∃ m, m < n ∧ ∃ i σ' H', Inv X pins σ' H' s7 ∧ tn i s7.heap ∧ (∀ b ∈ fp, H' b = none) ∧ W i m σ' H' := fun {σ7 H7} I7 n7 => by
      obtain ⟨m', hm, w7⟩ := hN σ7 H7 n7
      refine ⟨m', hm, i + 1, σ7, H7, I7.unpinned, T.keep _ _ _ st5 fun b hb o e => (I7.pin (b, o) (List.mem_append_right _ (List.mem_append_right _ (mem_pinsAt hb e)))).1, fun b hb => ?_, w7⟩
      obtain ⟨o, e, d⟩ := T.obj _ _ st5 b hb
      exact (I7.pin (b, o) (List.mem_append_right _ (List.mem_append_right _ (mem_pinsAt hb e)))).2.1
    cases f with
    | next => obtain ⟨σ7, H7, I7, n7⟩ := q7; exact again I7 n7
    | cont => obtain ⟨σ7, H7, I7, n7⟩ := q7; exact again I7 n7
    | brk => obtain ⟨σ7, H7, I7, q7⟩ := q7; exact ⟨σ7, H7, I7.unpinned, q7⟩
    | ret v => obtain ⟨x7, σ7, H7, I7, r7, q7⟩ := q7; exact ⟨x7, σ7, H7, I7.unpinned, r7, q7⟩
end

theorem for_range {lo : Int} {n : Nat} {g : TG} {tb : TS} {D : Ends} {σ : St} {H : Hp} (Pv : Nat → St → Hp → Prop) (h0 : Pv 0 σ H)
    (hs : ∀ i σ H, i < n → Pv i σ H → g (.int (lo + i)) σ H fun σ2 H2 => tb { D with nx := Pv (i + 1), ct := Pv (i + 1), bk := D.nx } σ2 H2) (hd : ∀ σ H, Pv n σ H → D.nx σ H) :
    ∃ W : Nat → Nat → St → Hp → Prop, (∃ m, W 0 m σ H) ∧ ∀ i m σ H, W i m σ H →
      ((Itr lo n).stop i H ∧ D.nx σ H) ∨ ((Itr lo n).go i H ∧ ∃ N : St → Hp → Prop, (∀ σ' H', N σ' H' → ∃ m', m' < m ∧ W (i + 1) m' σ' H') ∧ ∀ x H', (Itr lo n).yld i H x H' → g x σ H' fun σ2 H2 => tb { D with nx := N, ct := N, bk := D.nx } σ2 H2) := by
  refine ⟨fun i m σ H => m = n - i ∧ i ≤ n ∧ Pv i σ H, ⟨n, by simp, Nat.zero_le _, h0⟩, ?_⟩
  rintro i m σ H ⟨rfl, hi, p⟩
  by_cases hlt : i < n
  · refine .inr ⟨hlt, Pv (i + 1), fun σ' H' p' => ⟨n - (i + 1), by omega, rfl, hlt, p'⟩, fun x H' y => ?_⟩
    obtain ⟨e, y⟩ := y
    subst e y
    exact hs i σ _ hlt p
  · have e : i = n := by omega
    subst e
    exact .inl ⟨Nat.le_refl _, hd σ H p⟩
end L2

namespace L2
open PySem PySem.Spec PyProof.Rows

abbrev R2 := V → V → Hp → VK → Prop
/-- a two-place operation on values: f is binaryOp op, inplaceOp op or compareOp op -/
def OpR (X : Cx) (f : Value → Value → Sem Value) (r : R2) : Prop :=
  ∀ (pins : List (Addr × Obj)) (s : Shared) (σ : St) (H : Hp) (x y : V) (v u : Value) (Q : VK), Inv X pins σ H s → RelV x v → RelV y u → r x y H Q →
    wpAny (model X.prog X.w) X.A (f v u) (EP X pins σ Q) X.xe s
/-- a one-place operation -/
def UnR (X : Cx) (f : Value → Sem Value) (r : V → Hp → VK → Prop) : Prop :=
  ∀ (pins : List (Addr × Obj)) (s : Shared) (σ : St) (H : Hp) (x : V) (v : Value) (Q : VK), Inv X pins σ H s → RelV x v → r x H Q →
    wpAny (model X.prog X.w) X.A (f v) (EP X pins σ Q) X.xe s
/-- a call of a value that is known (a builtin, a type) with values -/
def CallR (X : Cx) (f : Value) (r : List V → Hp → VK → Prop) : Prop :=
  ∀ (pins : List (Addr × Obj)) (s : Shared) (σ : St) (H : Hp) (xs : List V) (us : List Value) (Q : VK), Inv X pins σ H s → Vals xs us → r xs H Q →
    wpAny (model X.prog X.w) X.A (call f us) (EP X pins σ Q) X.xe s
/-- a value's truth -/
def TruR (X : Cx) (r : V → Hp → (Bool → Hp → Prop) → Prop) : Prop :=
  ∀ (pins : List (Addr × Obj)) (s : Shared) (σ : St) (H : Hp) (x : V) (v : Value) (Q : Bool → Hp → Prop), Inv X pins σ H s → RelV x v → r x H Q →
    wpAny (model X.prog X.w) X.A (truthy v) (TP X pins σ Q) X.xe s

def tOp (r : R2) (ta tb : TE) : TE := fun σ H Q => ta σ H fun x H1 => tb σ H1 fun y H2 => r x y H2 Q
def tUn (r : V → Hp → VK → Prop) (ta : TE) : TE := fun σ H Q => ta σ H fun x H1 => r x H1 Q
/-- ints in, under C, and a value out -/
def rI (C : Int → Int → Prop) (g : Int → Int → V) : R2 := fun x y H Q => ∃ i j, x = .int i ∧ y = .int j ∧ C i j ∧ Q (g i j) H
def rI0 (g : Int → Int → V) : R2 := fun x y H Q => ∃ i j, x = .int i ∧ y = .int j ∧ Q (g i j) H
def rU (g : Int → V) : V → Hp → VK → Prop := fun x H Q => ∃ i, x = .int i ∧ Q (g i) H

section
variable {X : Cx} {a b c : Expr} {ta tb tc : TE} {pos : Pos}

theorem binT (ha : PE X a ta) (hb : PE X b tb) {pins : List (Addr × Obj)} {s : Shared} {σ : St} {H : Hp} {R : V → V → Hp → Prop} (I : Inv X pins σ H s)
    (h : ta σ H fun x H1 => tb σ H1 fun y H2 => R x y H2) {Q : Value → Shared → Prop} {f : Value → Value → Sem Value}
    (hf : ∀ v u s2 x y H2, Inv X pins σ H2 s2 → RelV x v → RelV y u → R x y H2 → wpAny (model X.prog X.w) X.A (f v u) Q X.xe s2) :
    wpAny (model X.prog X.w) X.A (eval a X.env) (fun v s₁ => wpAny (model X.prog X.w) X.A (eval b X.env) (fun u s₂ => wpAny (model X.prog X.w) X.A (f v u) Q X.xe s₂) X.xe s₁) X.xe s := by
  refine thn (ha pins s σ H _ I h) fun v s1 ⟨x, H1, I1, r1, q1⟩ => ?_
  refine thn (hb pins s1 σ H1 _ I1 q1) fun u s2 ⟨y, H2, I2, r2, q2⟩ => ?_
  exact hf v u s2 x y H2 I2 r1 r2 q2

theorem pe_op {op : Operator} {r : R2} (ho : OpR X (binaryOp op) r) (ha : PE X a ta) (hb : PE X b tb) : PE X (.BinOp a op b pos) (tOp r ta tb) := by
  intro pins s σ H Q I h
  exact wpAny_BinOp (binT ha hb I h fun v u s2 x y H2 I2 rx ry q => ho pins s2 σ H2 x y v u Q I2 rx ry q)
theorem pe_un {op : UnaryOp} {r : V → Hp → VK → Prop} (ho : UnR X (unaryOp op) r) (ha : PE X a ta) : PE X (.UnaryOp op a pos) (tUn r ta) := by
  intro pins s σ H Q I h
  exact UnaryOp_ (thn (ha pins s σ H _ I h) fun v s1 ⟨x, H1, I1, r1, q1⟩ => ho pins s1 σ H1 x v Q I1 r1 q1)
theorem opI {f : Value → Value → Sem Value} {C : Int → Int → Prop} {g : Int → Int → Int}
    (rule : ∀ (i j : Int) (t u : Tok) (s : Shared) (Q : Value → Shared → Prop) (E : Value → Shared → Prop), C i j → Q (.int (g i j) s.toks) { s with toks := s.toks + 1 } → wpAny (model X.prog X.w) X.A (f (.int i t) (.int j u)) Q E s) :
    OpR X f (rI C fun i j => .int (g i j)) := by
  intro pins s σ H x y v u Q I rx ry h
  obtain ⟨i, j, rfl, rfl, hc, q⟩ := h
  obtain ⟨t, rfl⟩ := rx
  obtain ⟨t', rfl⟩ := ry
  exact rule i j t t' s _ _ hc ⟨.int (g i j), H, I.tok _, ⟨_, rfl⟩, q⟩
theorem opI0 {f : Value → Value → Sem Value} {g : Int → Int → Int}
    (rule : ∀ (i j : Int) (t u : Tok) (s : Shared) (Q : Value → Shared → Prop) (E : Value → Shared → Prop), Q (.int (g i j) s.toks) { s with toks := s.toks + 1 } → wpAny (model X.prog X.w) X.A (f (.int i t) (.int j u)) Q E s) :
    OpR X f (rI0 fun i j => .int (g i j)) := by
  intro pins s σ H x y v u Q I rx ry h
  obtain ⟨i, j, rfl, rfl, q⟩ := h
  obtain ⟨t, rfl⟩ := rx
  obtain ⟨t', rfl⟩ := ry
  exact rule i j t t' s _ _ ⟨.int (g i j), H, I.tok _, ⟨_, rfl⟩, q⟩
theorem opB0 {f : Value → Value → Sem Value} {g : Int → Int → Bool}
    (rule : ∀ (i j : Int) (t u : Tok) (s : Shared) (Q : Value → Shared → Prop) (E : Value → Shared → Prop), Q (.bool (g i j)) s → wpAny (model X.prog X.w) X.A (f (.int i t) (.int j u)) Q E s) :
    OpR X f (rI0 fun i j => .bl (g i j)) := by
  intro pins s σ H x y v u Q I rx ry h
  obtain ⟨i, j, rfl, rfl, q⟩ := h
  obtain ⟨t, rfl⟩ := rx
  obtain ⟨t', rfl⟩ := ry
  exact rule i j t t' s _ _ ⟨.bl (g i j), H, I, rfl, q⟩

def CDiv (i j : Int) : Prop := 0 < j ∧ j < 1073741824
def CPow (i j : Int) : Prop := 0 ≤ j ∧ j ≤ 1000000 ∧ i.natAbs < 2 ^ 64
def CMul (i j : Int) : Prop := (-(2 ^ 64) < i ∧ i < 2 ^ 64) ∨ (-(2 ^ 64) < j ∧ j < 2 ^ 64)
theorem CMul.ok {i j : Int} (h : CMul i j) : IntMulOk i j := by
  rcases h with ⟨h1, h2⟩ | ⟨h1, h2⟩
  · exact .of_left (intBits_le_64 h1 h2)
  · exact .of_right (intBits_le_64 h1 h2)
theorem op_add : OpR X (binaryOp .Add) (rI0 fun i j => .int (i + j)) := opI0 fun _ _ _ _ _ _ _ q => add_int q
theorem op_sub : OpR X (binaryOp .Sub) (rI0 fun i j => .int (i - j)) := opI0 fun _ _ _ _ _ _ _ q => sub_int q
theorem op_mul : OpR X (binaryOp .Mult) (rI CMul fun i j => .int (i * j)) := opI fun _ _ _ _ _ _ _ hc q => mul_int q hc.ok
/-- // by a positive divisor -/
theorem op_fdiv : OpR X (binaryOp .FloorDiv) (rI CDiv fun i j => .int (i / j)) := opI fun i j _ _ _ _ _ hc q => by
  have h1 : (0 : Int) < j := hc.1
  have h2 : j < 1073741824 := hc.2
  exact floordiv_int (by omega) (by rw [Int.fdiv_eq_ediv_of_nonneg i (by omega)]; exact q) (.inl (PyProof.noPylong_small (by omega)))
/-- % by a positive divisor of any size -/
theorem op_mod : OpR X (binaryOp .Mod) (rI (fun _ j => 0 < j) fun i j => .int (i % j)) := opI fun i j _ _ _ _ _ hc q => by
  have h1 : (0 : Int) < j := hc
  exact mod_int' (by omega) (by rw [Int.fmod_eq_emod_of_nonneg i (by omega)]; exact q)
theorem op_pow : OpR X (binaryOp .Pow) (rI CPow fun i j => .int (i ^ j.toNat)) := opI fun _ _ _ _ _ _ _ hc q => pow_int_small hc.1 hc.2.1 hc.2.2 q
theorem unI {f : Value → Sem Value} {g : Int → Int}
    (rule : ∀ (i : Int) (t : Tok) (s : Shared) (Q : Value → Shared → Prop) (E : Value → Shared → Prop), Q (.int (g i) s.toks) { s with toks := s.toks + 1 } → wpAny (model X.prog X.w) X.A (f (.int i t)) Q E s) :
    UnR X f (rU fun i => .int (g i)) := by
  intro pins s σ H x v Q I rx h
  obtain ⟨i, rfl, q⟩ := h
  obtain ⟨t, rfl⟩ := rx
  exact rule i t s _ _ ⟨.int (g i), H, I.tok _, ⟨_, rfl⟩, q⟩
theorem un_neg : UnR X (unaryOp .USub) (rU fun i => .int (-i)) := unI fun _ _ _ _ _ q => neg_int q
theorem op_add_ib : OpR X (binaryOp .Add) (fun x y H Q => ∃ i k, x = .int i ∧ y = .bl k ∧ Q (.int (i + b2i k)) H) := by
  intro pins s σ H x y v u Q I rx ry h
  obtain ⟨i, k, rfl, rfl, q⟩ := h
  obtain ⟨t, rfl⟩ := rx
  cases ry
  exact add_int_bool ⟨.int (i + b2i k), H, I.tok _, ⟨_, rfl⟩, q⟩
end

/-- the scalars that == tells apart as data does -/
def scal : V → V → Bool
  | .non, .non => true | .non, .int _ => true | .int _, .non => true | .non, .bl _ => true | .bl _, .non => true | .non, .str _ => true | .str _, .non => true
  | .int _, .int _ => true | .bl _, .bl _ => true | .str _, .str _ => true | .byt _, .byt _ => true
  | .int _, .str _ => true | .str _, .int _ => true | .bl _, .str _ => true | .str _, .bl _ => true
  | _, _ => false
def rEq : R2 := fun x y H Q => scal x y = true ∧ Q (.bl (decide (x = y))) H
def rNe : R2 := fun x y H Q => scal x y = true ∧ Q (.bl (!decide (x = y))) H

theorem dec_int {i j : Int} : decide (V.int i = V.int j) = (i == j) := by
  rw [Bool.eq_iff_iff]
  simp
theorem dec_bl {i j : Bool} : decide (V.bl i = V.bl j) = (i == j) := by
  rw [Bool.eq_iff_iff]
  simp
theorem dec_str {i j : Str} : decide (V.str i = V.str j) = (i == j) := by
  rw [Bool.eq_iff_iff]
  simp
theorem dec_byt {i j : Array UInt8} : decide (V.byt i = V.byt j) = (i.toList == j.toList) := by
  rw [Bool.eq_iff_iff]
  cases i
  cases j
  simp

section
variable {X : Cx} {a b c : Expr} {ta tb tc : TE} {pos : Pos}
theorem fin_bl {pins : List (Addr × Obj)} {σ : St} {H : Hp} {s : Shared} {Q : VK} {k k' : Bool} (I : Inv X pins σ H s) (q : Q (.bl k) H) (e : k = k') : EP X pins σ Q (.bool k') s := by
  subst e
  exact ⟨.bl k, H, I, rfl, q⟩
theorem op_eq : OpR X (compareOp .Eq) rEq := by
  intro pins s σ H x y v u Q I rx ry h
  obtain ⟨hs, q⟩ := h
  cases x with
  | non =>
    cases rx
    cases y with
    | non => cases ry; exact PySem.EqNone.eq_none_none (fin_bl I q (by simp))
    | bl j => cases ry; exact PySem.EqNone.eq_none_bool (fin_bl I q (by simp))
    | int j => obtain ⟨t', rfl⟩ := ry; exact PySem.EqNone.eq_none_int (fin_bl I q (by simp))
    | str j => obtain ⟨t', rfl⟩ := ry; exact PySem.EqNone.eq_none_str (fin_bl I q (by simp))
    | _ => exact absurd (show false = true from hs) Bool.false_ne_true
  | bl i =>
    cases rx
    cases y with
    | non => cases ry; exact PySem.EqNone.eq_bool_none (fin_bl I q (by simp))
    | bl j => cases ry; exact eq_bool (fin_bl I q dec_bl)
    | str j => obtain ⟨t', rfl⟩ := ry; exact PySem.EqMixed.eq_bool_str (fin_bl I q (by simp))
    | _ => exact absurd (show false = true from hs) Bool.false_ne_true
  | int i =>
    obtain ⟨t, rfl⟩ := rx
    cases y with
    | non => cases ry; exact PySem.EqNone.eq_int_none (fin_bl I q (by simp))
    | int j => obtain ⟨t', rfl⟩ := ry; exact eq_int (fin_bl I q dec_int)
    | str j => obtain ⟨t', rfl⟩ := ry; exact PySem.EqMixed.eq_int_str (fin_bl I q (by simp))
    | _ => exact absurd (show false = true from hs) Bool.false_ne_true
  | str i =>
    obtain ⟨t, rfl⟩ := rx
    cases y with
    | non => cases ry; exact PySem.EqNone.eq_str_none (fin_bl I q (by simp))
    | bl j => cases ry; exact PySem.EqMixed.eq_str_bool (fin_bl I q (by simp))
    | int j => obtain ⟨t', rfl⟩ := ry; exact PySem.EqMixed.eq_str_int (fin_bl I q (by simp))
    | str j => obtain ⟨t', rfl⟩ := ry; exact eq_str (fin_bl I q dec_str)
    | _ => exact absurd (show false = true from hs) Bool.false_ne_true
  | byt i =>
    obtain ⟨t, rfl⟩ := rx
    cases y with
    | byt j => obtain ⟨t', rfl⟩ := ry; exact PySem.W.eq_bytes (fin_bl I q dec_byt)
    | _ => exact absurd (show false = true from hs) Bool.false_ne_true
  | _ => cases y <;> exact absurd (show false = true from hs) Bool.false_ne_true
theorem op_ne : OpR X (compareOp .NotEq) rNe := by
  intro pins s σ H x y v u Q I rx ry h
  obtain ⟨hs, q⟩ := h
  cases x with
  | non =>
    cases rx
    cases y with
    | non => cases ry; exact PySem.EqNone.ne_none_none (fin_bl I q (by simp))
    | bl j => cases ry; exact PySem.EqNone.ne_none_bool (fin_bl I q (by simp))
    | int j => obtain ⟨t', rfl⟩ := ry; exact PySem.EqNone.ne_none_int (fin_bl I q (by simp))
    | str j => obtain ⟨t', rfl⟩ := ry; exact PySem.EqNone.ne_none_str (fin_bl I q (by simp))
    | _ => exact absurd (show false = true from hs) Bool.false_ne_true
  | bl i =>
    cases rx
    cases y with
    | non => cases ry; exact PySem.EqNone.ne_bool_none (fin_bl I q (by simp))
    | bl j => cases ry; exact ne_bool (fin_bl I q (congrArg not dec_bl))
    | str j => obtain ⟨t', rfl⟩ := ry; exact PySem.EqMixed.ne_bool_str (fin_bl I q (by simp))
    | _ => exact absurd (show false = true from hs) Bool.false_ne_true
  | int i =>
    obtain ⟨t, rfl⟩ := rx
    cases y with
    | non => cases ry; exact PySem.EqNone.ne_int_none (fin_bl I q (by simp))
    | int j => obtain ⟨t', rfl⟩ := ry; exact ne_int (fin_bl I q (congrArg not dec_int))
    | str j => obtain ⟨t', rfl⟩ := ry; exact PySem.EqMixed.ne_int_str (fin_bl I q (by simp))
    | _ => exact absurd (show false = true from hs) Bool.false_ne_true
  | str i =>
    obtain ⟨t, rfl⟩ := rx
    cases y with
    | non => cases ry; exact PySem.EqNone.ne_str_none (fin_bl I q (by simp))
    | bl j => cases ry; exact PySem.EqMixed.ne_str_bool (fin_bl I q (by simp))
    | int j => obtain ⟨t', rfl⟩ := ry; exact PySem.EqMixed.ne_str_int (fin_bl I q (by simp))
    | str j => obtain ⟨t', rfl⟩ := ry; exact ne_str (fin_bl I q (congrArg not dec_str))
    | _ => exact absurd (show false = true from hs) Bool.false_ne_true
  | byt i =>
    obtain ⟨t, rfl⟩ := rx
    cases y with
    | byt j => obtain ⟨t', rfl⟩ := ry; exact PySem.W.ne_bytes (fin_bl I q (congrArg not dec_byt))
    | _ => exact absurd (show false = true from hs) Bool.false_ne_true
  | _ => cases y <;> exact absurd (show false = true from hs) Bool.false_ne_true

theorem op_lt : OpR X (compareOp .Lt) (rI0 fun i j => .bl (decide (i < j))) := opB0 fun _ _ _ _ _ _ _ q => lt_int q
theorem op_le : OpR X (compareOp .LtE) (rI0 fun i j => .bl (decide (i ≤ j))) := opB0 fun _ _ _ _ _ _ _ q => le_int q
theorem op_gt : OpR X (compareOp .Gt) (rI0 fun i j => .bl (decide (j < i))) := opB0 fun _ _ _ _ _ _ _ q => gt_int q
theorem op_ge : OpR X (compareOp .GtE) (rI0 fun i j => .bl (decide (j ≤ i))) := opB0 fun _ _ _ _ _ _ _ q => ge_int q
/-- two rules for one operation: by cases -/
theorem OpR.or {f : Value → Value → Sem Value} {r r' : R2} (h : OpR X f r) (h' : OpR X f r') : OpR X f (fun x y H Q => r x y H Q ∨ r' x y H Q) := by
  intro pins s σ H x y v u Q I rx ry q
  rcases q with q | q
  · exact h pins s σ H x y v u Q I rx ry q
  · exact h' pins s σ H x y v u Q I rx ry q

theorem nomark (b : Expr) {op : CmpOp} (h : op ≠ .In := by decide) (h2 : op ≠ .NotIn := by decide) : behindInMarks op b = false := by
  have e1 : (op == CmpOp.In) = false := by cases op <;> first | rfl | exact absurd rfl h
  have e2 : (op == CmpOp.NotIn) = false := by cases op <;> first | rfl | exact absurd rfl h2
  cases b <;> simp [behindInMarks, e1, e2]
/-- a comparison as a value; hm: nomark b, or (for in, not in) by with_unfolding_all rfl -/
theorem pe_cmpR {op : CmpOp} {r : R2} (ho : OpR X (compareOp op) r) (ha : PE X a ta) (hb : PE X b tb) (hm : behindInMarks op b = false) : PE X (.Compare a [op] [b] pos) (tOp r ta tb) := by
  intro pins s σ H Q I h
  exact wpAny_Compare1 (binT ha hb I h fun v u s2 x y H2 I2 rx ry q => ho pins s2 σ H2 x y v u Q I2 rx ry q) hm
/-- a reading of a value as a test -/
def tTest (t : TE) : TT := fun σ H Q => t σ H fun x H' => ∃ k, x = .bl k ∧ Q k H'
theorem pt_cmpR {op : CmpOp} {r : R2} (ho : OpR X (compareOp op) r) (ha : PE X a ta) (hb : PE X b tb) (hm : behindInMarks op b = false) : PT X (.Compare a [op] [b] pos) (tTest (tOp r ta tb)) := by
  intro pins s σ H Q I h
  refine wpAny_isTrue_Compare1 (thn (ha pins s σ H _ I h) fun v s1 ⟨x, H1, I1, r1, q1⟩ => thn (hb pins s1 σ H1 _ I1 q1) fun u s2 ⟨y, H2, I2, r2, q2⟩ =>
    thn (ho pins s2 σ H2 x y v u _ I2 r1 r2 q2) fun c s3 ⟨z, H3, I3, r3, k, e, q3⟩ => ?_) hm
  subst e
  cases r3
  exact wpAny_truthy_bool ⟨H3, I3, q3⟩
/-- a op1 b op2 c -/
def tChain (r r' : R2) (ta tb tc : TE) : TE := fun σ H Q => ta σ H fun x H1 => tb σ H1 fun y H2 => r x y H2 fun z H3 => ∃ k, z = .bl k ∧
  (if k = true then tc σ H3 fun w' H4 => r' y w' H4 Q else Q (.bl false) H3)
theorem pe_chain {op op' : CmpOp} {r r' : R2} (ho : OpR X (compareOp op) r) (ho' : OpR X (compareOp op') r') (ha : PE X a ta) (hb : PE X b tb) (hc : PE X c tc)
    (hm : lastMarks [op, op'] [b, c] = false := by with_unfolding_all rfl) : PE X (.Compare a [op, op'] [b, c] pos) (tChain r r' ta tb tc) := by
  intro pins s σ H Q I h
  refine Compare_chain (thn (ha pins s σ H _ I h) fun v s1 ⟨x, H1, I1, r1, q1⟩ => chain_link (thn (hb pins s1 σ H1 _ I1 q1) fun u s2 ⟨y, H2, I2, r2, q2⟩ =>
    thn (ho pins s2 σ H2 x y v u _ I2 r1 r2 q2) fun d s3 ⟨z, H3, I3, r3, k, e, q3⟩ => ?_)) hm
  subst e
  cases r3
  refine wpAny_truthy_bool ?_
  cases k with
  | false => exact ite_ff ⟨.bl false, H3, I3, rfl, q3⟩
  | true => exact ite_tt (chain_last (thn (hc pins s3 σ H3 _ I3 q3) fun w' s4 ⟨z', H4, I4, r4, q4⟩ => ho' pins s4 σ H4 y z' u w' Q I4 r2 r4 q4))
/-- a value's truth by the abstract heap -/
def TruV (K : PySem.W.Frag) (x : V) (H : Hp) (k : Bool) : Prop :=
  match x with
  | .non => k = false
  | .bl b => k = b
  | .int i => k = (i != 0)
  | .str y => y.length ≤ sizeLine ∧ k = ((y.length : Int) != 0)
  | .byt y => y.size ≤ sizeLine ∧ k = ((y.size : Int) != 0)
  | .ref p => (∃ xs, SqL K H p xs ∧ k = !xs.isEmpty) ∨ (∃ xs, SqT K H p xs ∧ k = !xs.isEmpty) ∨ ∃ kvs, H p = some (.dK kvs) ∧ k = !kvs.isEmpty
  | _ => False
theorem isEmpty_kv {κ : Type} {kvs : List (κ × V)} {vs : List (κ × Value)} (r : KV kvs vs) : (!vs.isEmpty) = !kvs.isEmpty := by
  cases r <;> rfl
theorem isEmpty_of {xs : List V} {its : List Value} (r : Vals xs its) : (!its.toArray.isEmpty) = !xs.isEmpty := by
  cases r <;> simp
theorem line63 : (sizeLine : Nat) < 2 ^ 63 := by rw [sizeLine_eq]; decide
theorem tru_ok : TruR X (fun x H Q => ∃ k, TruV X.K x H k ∧ Q k H) := by
  intro pins s σ H x v Q I rx h
  obtain ⟨k, e, q⟩ := h
  have hl := line63
  have hs : sizeLine = 16777216 := sizeLine_eq
  cases x with
  | non =>
    cases rx
    have e' : k = false := e
    subst e'
    exact truthy_none ⟨H, I, q⟩
  | bl b =>
    cases rx
    have e' : k = b := e
    subst e'
    exact wpAny_truthy_bool ⟨H, I, q⟩
  | int i =>
    obtain ⟨t, rfl⟩ := rx
    have e' : k = (i != 0) := e
    subst e'
    exact PySem.P.truthy_int ⟨H, I, q⟩
  | str y =>
    obtain ⟨t, rfl⟩ := rx
    obtain ⟨hy, e'⟩ : y.length ≤ sizeLine ∧ k = ((y.length : Int) != 0) := e
    subst e'
    exact PySem.P.truthy_str (by omega) ⟨H, I.tok _, q⟩
  | byt y =>
    obtain ⟨t, rfl⟩ := rx
    obtain ⟨hy, e'⟩ : y.size ≤ sizeLine ∧ k = ((y.size : Int) != 0) := e
    subst e'
    exact PySem.W.truthy_bytes (by omega) ⟨H, I.tok _, q⟩
  | ref p =>
    cases rx
    have e' : (∃ xs, SqL X.K H p xs ∧ k = !xs.isEmpty) ∨ (∃ xs, SqT X.K H p xs ∧ k = !xs.isEmpty) ∨ ∃ kvs, H p = some (.dK kvs) ∧ k = !kvs.isEmpty := e
    rcases e' with ⟨xs, hx, e'⟩ | ⟨xs, hx, e'⟩ | ⟨kvs, hx, e'⟩
    · subst e'
      obtain ⟨its, r, pl, hz⟩ := I.list hx
      have hlen := r.length
      exact wpAny_truthy_list pl.isList (by simp only [List.size_toArray]; omega) ⟨H, I.tok _, by rw [isEmpty_of r]; exact q⟩
    · subst e'
      obtain ⟨its, r, pl, hz⟩ := I.tuple hx
      have hlen := r.length
      exact truthy_tuple pl (by simp only [List.size_toArray]; omega) ⟨H, I.tok _, by rw [isEmpty_of r]; exact q⟩
    · subst e'
      obtain ⟨hz, hS, vs, r, m⟩ : kvs.length ≤ sizeLine ∧ (p == sysModules) = false ∧ ∃ vs, KV kvs vs ∧ s.heap.DictOf (mixKind X.prog X.w) p vs := I.hok p _ hx
      have hlen : kvs.length = vs.length := Paired.length r
      exact wpAny_truthy_dict hS m (by omega) ⟨H, I.tok _, by rw [isEmpty_kv r]; exact q⟩
  | _ => exact (show False from e).elim
/-- any expression whose test is its value's truth (a name, a call, a subscript, a field ..: he by fun _ => rfl) -/
theorem pt_truth (ha : PE X a ta) (he : ∀ whole, isTrue a X.env whole = (do let v ← whole; standAt a.pos; holding [v] (truthy v))) :
    PT X a (fun σ H Q => ta σ H fun x H' => ∃ k, TruV X.K x H' k ∧ Q k H') := by
  intro pins s σ H Q I h
  exact isTrue_plain (thn (ha pins s σ H _ I h) fun v s1 ⟨x, H1, I1, r1, q1⟩ => tru_ok pins s1 σ H1 x v Q I1 r1 q1) (he _)

theorem op_add_str : OpR X (binaryOp .Add) (fun x y H Q => ∃ i j, x = .str i ∧ y = .str j ∧ i.length + j.length ≤ sizeLine ∧ Q (.str (i ++ j)) H) := by
  intro pins s σ H x y v u Q I rx ry h
  obtain ⟨i, j, rfl, rfl, hz, q⟩ := h
  obtain ⟨t, rfl⟩ := rx
  obtain ⟨t', rfl⟩ := ry
  exact add_str (fun t' tk => ⟨.str (i ++ j), H, I.tok _, ⟨_, rfl⟩, q⟩) hz
theorem vals1 {x : V} {us : List Value} (r : Vals [x] us) : ∃ u, us = [u] ∧ RelV x u := by
  cases r with
  | cons r1 r2 => cases r2; exact ⟨_, rfl, r1⟩
theorem vals2 {x y : V} {us : List Value} (r : Vals [x, y] us) : ∃ u w', us = [u, w'] ∧ RelV x u ∧ RelV y w' := by
  cases r with
  | cons r1 r2 =>
    cases r2 with
    | cons r3 r4 => cases r4; exact ⟨_, _, rfl, r1, r3⟩
theorem call_abs : CallR X (.builtin "abs") (fun xs H Q => ∃ i, xs = [.int i] ∧ Q (.int (if i < 0 then -i else i)) H) := by
  intro pins s σ H xs us Q I r h
  obtain ⟨i, rfl, q⟩ := h
  obtain ⟨u, rfl, t, rfl⟩ := vals1 r
  exact call_abs_int fun u tk => ⟨.int (if i < 0 then -i else i), H, I.tok _, ⟨_, rfl⟩, q⟩
theorem call_max2 (hc : X.calm = true) : CallR X (.builtin "max") (fun xs H Q => ∃ i j, xs = [.int i, .int j] ∧ Q (.int (if j > i then j else i)) H) := by
  intro pins s σ H xs us Q I r h
  obtain ⟨i, j, rfl, q⟩ := h
  obtain ⟨u, w', rfl, ⟨t, rfl⟩, ⟨t', rfl⟩⟩ := vals2 r
  refine max_two_ints (I.ok.hd hc) fun h' tk k => ⟨_, H, I.kept k, ?_, q⟩
  by_cases hj : j > i
  · rw [if_pos hj, if_pos hj]; exact ⟨_, rfl⟩
  · rw [if_neg hj, if_neg hj]; exact ⟨_, rfl⟩
theorem call_min2 (hc : X.calm = true) : CallR X (.builtin "min") (fun xs H Q => ∃ i j, xs = [.int i, .int j] ∧ Q (.int (if j < i then j else i)) H) := by
  intro pins s σ H xs us Q I r h
  obtain ⟨i, j, rfl, q⟩ := h
  obtain ⟨u, w', rfl, ⟨t, rfl⟩, ⟨t', rfl⟩⟩ := vals2 r
  refine min_two_ints (I.ok.hd hc) fun h' tk k => ⟨_, H, I.kept k, ?_, q⟩
  by_cases hj : j < i
  · rw [if_pos hj, if_pos hj]; exact ⟨_, rfl⟩
  · rw [if_neg hj, if_neg hj]; exact ⟨_, rfl⟩
theorem call_int1 : CallR X (.type "int") (fun xs H Q => (∃ i, xs = [.int i] ∧ Q (.int i) H) ∨ ∃ k, xs = [.bl k] ∧ Q (.int (if k then 1 else 0)) H) := by
  intro pins s σ H xs us Q I r h
  rcases h with ⟨i, rfl, q⟩ | ⟨k, rfl, q⟩
  · obtain ⟨u, rfl, t, rfl⟩ := vals1 r
    exact call_int_int ⟨.int i, H, I, ⟨_, rfl⟩, q⟩
  · obtain ⟨u, rfl, r1⟩ := vals1 r
    cases r1
    exact call_int_bool ⟨.int (if k then 1 else 0), H, I.tok _, ⟨_, rfl⟩, q⟩
theorem call_str_int : CallR X (.type "str") (fun xs H Q => ∃ i, xs = [.int i] ∧ i.natAbs.log2 < 1920 ∧ Q (.str (toString i)) H) := by
  intro pins s σ H xs us Q I r h
  obtain ⟨i, rfl, hz, q⟩ := h
  obtain ⟨u, rfl, t, rfl⟩ := vals1 r
  exact PySem.P.str_of_int hz ⟨.str _, H, I.tok _, ⟨_, rfl⟩, q⟩
end
end L2

namespace L2
open PySem PySem.Spec PyProof.Rows

section
variable {prog : Program} {w : World} {A : Around} {E : Value → Shared → Prop} {s : Shared} {K : PySem.W.Frag} {x dx C f : Addr} {mA : Str → Option Value} {name : Str} {v : Value}

end

theorem RelO.some_of {v : V} {o : Option Value} (r : RelO (some v) o) : ∃ u, o = some u ∧ RelV v u := by
  cases o with
  | none => exact (show False from r).elim
  | some u => exact ⟨u, rfl, r⟩
section
variable {P : Program} {w : World} {H H' : Hp} {h h' : Heap} {a C dx : Addr} {fs fs' : List (Str × V)}
end

structure Cls (K : PySem.W.Frag) (C : Addr) : Prop where
  pg : PySem.W.plainGet K C Str.empty = true
  hd : PySem.W.hasDictIn K C = true
  po : PySem.W.plainOver K C = true
  sa : PySem.W.findIn K (.ref C) "__setattr__" = some (some (.builtin "object.__setattr__"))
theorem Cls.get {K : PySem.W.Frag} {C : Addr} (c : Cls K C) (f : Str) : PySem.W.plainGet K C f = true := c.pg
section
variable {X : Cx} {pins : List (Addr × Obj)} {σ : St} {H : Hp} {s : Shared} {a C dx : Addr} {fs : List (Str × V)} {f : Str} {v : V} {A : Around} {E : Value → Shared → Prop}

end

section
variable {X : Cx} {o e value : Expr} {f : Str} {pos pos' tpos : Pos} {ta tv : TE}
end

section
variable {X : Cx} {pins : List (Addr × Obj)} {σ : St} {H : Hp} {s : Shared} {A : Around} {E : Value → Shared → Prop} {Q : Value → Shared → Prop} {c : Value} {b : Bool}
end
end L2

namespace L2
open PySem PySem.Spec PyProof.Rows

structure Room (k : Nat) (A : Around) : Prop where
  hd : A.handled = none
  dp : A.depth + 3 * k + 5 < recursionLimit
  un : A.units + 16 * k + 200 < cLine
  gd : A.guards = some []
theorem Room.mono {j k : Nat} {A : Around} (r : Room k A) (h : j ≤ k) : Room j A := ⟨r.hd, by have := r.dp; omega, by have := r.un; omega, r.gd⟩
theorem Room.deeper {k : Nat} {A : Around} (r : Room (k + 1) A) (env : Env) : Room k (A.deeper env) :=
  ⟨r.hd, by have := r.dp; show A.depth + 1 + 3 * k + 5 < _; omega, by have := r.un; show A.units + 3 + 16 * k + 200 < _; omega, r.gd⟩
theorem Room.in1 {k : Nat} {A : Around} (r : Room (k + 1) A) : Room k A.in1 :=
  ⟨r.hd, by have := r.dp; show A.depth + 3 * k + 5 < _; omega, by have := r.un; show A.units + 1 + 16 * k + 200 < _; omega, r.gd⟩
theorem Room.depth {k : Nat} {A : Around} (r : Room k A) : A.depth < recursionLimit := by have := r.dp; omega
theorem Room.units {k : Nat} {A : Around} (r : Room k A) : A.units + 64 < cLine := by have := r.un; omega
def tNil : TA := fun _ H Q => Q [] H
def tCons (ta : TE) (tr : TA) : TA := fun σ H Q => ta σ H fun x H1 => tr σ H1 fun xs H2 => Q (x :: xs) H2
section
variable {X : Cx} {e : Expr} {es : List Expr} {te : TE} {t : TA} {pos : Pos}
theorem pa_nil : PA X [] tNil := fun _ _ _ _ H Q I h => Calls.spliced_nil ⟨[], H, I, .nil, h⟩
theorem pa_cons (ha : PE X e te) (hr : PA X es t) (hs : starEach (e :: es) X.env = (false, eval e X.env) :: starEach es X.env := by rfl) : PA X (e :: es) (tCons te t) := by
  intro pos pins s σ H Q I h
  rw [hs]
  show wpAny _ _ (spliced ((false, eval e X.env) :: backTo pos (starEach es X.env))) _ _ s
  refine Calls.spliced_cons (thn (ha pins s σ H _ I h) fun u s1 ⟨x, H1, I1, r1, q1⟩ => ?_)
  exact thn (hr pos pins s1 σ H1 _ I1 q1) fun us s2 ⟨xs, H2, I2, r2, q2⟩ => ⟨x :: xs, H2, I2, .cons r1 r2, q2⟩

def tLst (t : TA) : TE := fun σ H Q => t σ H fun xs H1 => xs.length ≤ sizeLine ∧ ∀ p, H1 p = none → Q (.ref p) (upd H1 p (.lst xs))
theorem pe_lst (h : PA X es t) : PE X (.List es pos) (tLst t) := by
  intro pins s σ H Q I hq
  refine wpAny_List_spliced (thn (h pos pins s σ H _ I hq) fun us s1 ⟨xs, H1, I1, r, z, q⟩ => ⟨by rw [← r.length]; exact z, ?_⟩)
  have hf : H1 s1.heap.objs.size = none := I1.hok.fresh (Nat.le_refl _)
  refine ⟨.ref s1.heap.objs.size, upd H1 s1.heap.objs.size (.lst xs), I1.laid (t' := s1.toks) (fun b u e => Heap.get?_push_of_some _ e) (Nat.le_refl _) ?_, rfl, q _ hf⟩
  exact ⟨z, us, 0, r, Heap.get?_push_size _ rfl⟩
end

/-- a def's promise: the bound arguments in the parameters' order, the heap, the wanted end, the wanted exception -/
abbrev Sp := List V → Hp → VK → XK → Prop
/-- how an exception lies behind a call (file 08 gives it): the callers' frames, abstract heap and state ahead of the call, the wish, the exception, the state -/
abbrev CXT := List Env → Hp → Shared → XK → Value → Shared → Prop

/-- the state at a call -/
structure Env0 (P : Program) (w : World) (K : PySem.W.Frag) (mg : Str → Option Value) (base : Heap) (A : Around) (outer : List Env) (s : Shared) (H : Hp) : Prop where
  frames : A.frames = some outer
  mod : Mod K mg base
  bs : ∀ b o, base.get? b = some o → s.heap.get? b = some o ∧ H b = none
  bsz : base.objs.size ≤ s.heap.objs.size
  funs : s.heap.FunFrames base outer
  frf : ∀ b ∈ frs outer, H b = none
  hok : HOk P w H s.heap
  bare : AllBare s.gens
/-- a call's end -/
def CE (outer : List Env) (P : Program) (w : World) (H : Hp) (s : Shared) (Q : VK) (u : Value) (s' : Shared) : Prop :=
  ∃ v H', s'.os = s.os ∧ AllBare s'.gens ∧ Un (frs outer) [] H H' s.heap s'.heap ∧ HOk P w H' s'.heap ∧ RelV v u ∧ Q v H'
def CR (CX : CXT) (outer : List Env) (P : Program) (w : World) (H : Hp) (s : Shared) (Q : VK) (E : XK) (r : Result) (s' : Shared) : Prop :=
  match r with
  | .ok (.ret u) => CE outer P w H s Q u s'
  | .ok _ => False
  | .error e => CX outer H s E e s'
structure FnOk (P : Program) (w : World) (K : PySem.W.Frag) (mg : Str → Option Value) (base : Heap) (CX : CXT) (k : Nat) (f : Addr) (fd : FuncData) (ps : List Str) (sp : Sp) : Prop where
  len : ∀ vs H Q E, sp vs H Q E → vs.length = ps.length
  run : ∀ (A : Around) (outer : List Env) (s : Shared) (H : Hp) (args : Args) (us : List Value) (vs : List V) (Q : VK) (E : XK), Room k A → Env0 P w K mg base A outer s H → BindsTo s fd args (ps.zip us) → Vals vs us → sp vs H Q E →
    codeAny (model P w) A (.call (.ref f) args) (CR CX outer P w H s Q E) s
theorem FnOk.mono {P : Program} {w : World} {K : PySem.W.Frag} {mg : Str → Option Value} {base : Heap} {CX : CXT} {j k : Nat} {f : Addr} {fd : FuncData} {ps : List Str} {sp : Sp} (F : FnOk P w K mg base CX j f fd ps sp) (h : j ≤ k) :
    FnOk P w K mg base CX k f fd ps sp := ⟨F.len, fun A outer s H args us vs Q E hr => F.run A outer s H args us vs Q E (hr.mono h)⟩
/-- a weaker promise -/
theorem FnOk.imp {P : Program} {w : World} {K : PySem.W.Frag} {mg : Str → Option Value} {base : Heap} {CX : CXT} {k : Nat} {f : Addr} {fd : FuncData} {ps : List Str} {sp sp' : Sp} (F : FnOk P w K mg base CX k f fd ps sp)
    (h : ∀ vs H Q E, sp' vs H Q E → sp vs H Q E) : FnOk P w K mg base CX k f fd ps sp' :=
  ⟨fun vs H Q E q => F.len vs H Q E (h _ _ _ _ q), fun A outer s H args us vs Q E hr he hb hv hs => F.run A outer s H args us vs Q E hr he hb hv (h _ _ _ _ hs)⟩

theorem Env0.in1 {P : Program} {w : World} {K : PySem.W.Frag} {mg : Str → Option Value} {base : Heap} {A : Around} {outer : List Env} {s : Shared} {H : Hp} (e : Env0 P w K mg base A outer s H) :
    Env0 P w K mg base A.in1 outer s H := ⟨e.frames, e.mod, e.bs, e.bsz, e.funs, e.frf, e.hok, e.bare⟩

section
variable {X : Cx} {pins : List (Addr × Obj)} {σ : St} {H : Hp} {s s' : Shared}
/-- from a body: what a callee wants -/
theorem Inv.env0 (I : Inv X pins σ H s) : Env0 X.prog X.w X.K X.mg X.base X.A X.stack s H :=
  ⟨I.ok.frames, I.ok.mod, I.bs, Nat.le_trans I.ok.bsz I.sz, I.stack, I.stkFree, I.hok, I.bare⟩
/-- behind a call -/
theorem Inv.after {Q : VK} {u : Value} (I : Inv X pins σ H s) (h : CE X.stack X.prog X.w H s Q u s') : EP X pins σ Q u s' := by
  obtain ⟨v, H', os, bare, un, hok, r, q⟩ := h
  obtain ⟨hh, g, d, t, os'⟩ := s'
  obtain rfl : os' = s.os := os
  exact ⟨v, H', I.call (h' := hh) (g' := g) (d' := d) (t' := t) (ch := []) un hok bare (fun b z => absurd z (by simp)), r, q⟩
end

/-- f(..): the written arguments, then the defaults dvs; E: what is wanted of an exception -/
def tCall (sp : Sp) (dvs : List V) (E : XK) (t : TA) : TE := fun σ H Q => t σ H fun vs H1 => sp (vs ++ dvs) H1 Q E
/-- how the parameters are bound: us the positional arguments, kw the keywords' values by name, ds the defaults that fill up -/
def Binds (K : PySem.W.Frag) (fd : FuncData) (ps : List Str) (ds : List Value) : Prop :=
  ∀ (s : Shared) (us : List Value), K.In s.heap → (us ++ ds).length = ps.length → BindsTo s fd ⟨us, []⟩ (ps.zip (us ++ ds))
/-- every parameter is given -/
theorem Binds.all {K : PySem.W.Frag} {fd : FuncData} {ps : List Str} (h : ∀ us : List Value, us.length = ps.length → bindArgs fd ⟨us, []⟩ = pure (ps.zip us)) : Binds K fd ps [] := fun s us _ hl => by
  rw [List.append_nil] at hl ⊢
  exact .of_eq (h us hl)

/-- an exception of a callee reaches what this body wants of exceptions -/
def Passes (CX : CXT) (X : Cx) (E : XK) : Prop := ∀ (pins : List (Addr × Obj)) (σ : St) (H : Hp) (s : Shared) (e : Value) (s' : Shared), Inv X pins σ H s → CX X.stack H s E e s' → X.xe e s'

section
variable {X : Cx} {CX : CXT} {k : Nat} {f C : Addr} {fd : FuncData} {ps : List Str} {sp : Sp} {dvs : List V} {ds : List Value} {E : XK} {x m : Str} {p pos apos : Pos} {e o : Expr} {es : List Expr} {ta : TE} {t : TA}

/-- the callee runs -/
theorem run_fn {pins : List (Addr × Obj)} {σ : St} {H : Hp} {s : Shared} {Q : VK} {us : List Value} {vs : List V} (F : FnOk X.prog X.w X.K X.mg X.base CX k f fd ps sp) (hr : Room k X.A) (hb : Binds X.K fd ps ds) (hd : Vals dvs ds) (hx : Passes CX X E)
    (I : Inv X pins σ H s) (r : Vals vs us) (h : sp (vs ++ dvs) H Q E) : wpAny (model X.prog X.w) X.A (call (.ref f) us) (EP X pins σ Q) X.xe s := by
  have r2 : Vals (vs ++ dvs) (us ++ ds) := r.append hd
  have hl : (us ++ ds).length = ps.length := by rw [← r2.length]; exact F.len _ _ _ _ h
  refine wpAny_call (codeAny_mono (F.run X.A X.stack s H ⟨us, []⟩ (us ++ ds) (vs ++ dvs) Q E hr I.env0 (hb s us I.kIn hl) r2 h) fun r s' hq => ?_)
  cases r with
  | error e => exact hx pins σ H s e s' I hq
  | ok fl =>
    cases fl with
    | ret u => exact I.after hq
    | next => exact False.elim hq
    | brk => exact False.elim hq
    | cont => exact False.elim hq

theorem pe_call (F : FnOk X.prog X.w X.K X.mg X.base CX k f fd ps sp) (hr : Room k X.A) (hg : Gl X x) (hm : X.mg x = some (.ref f)) (hk : PySem.W.keepIn X.K (.ref f) = true) (hb : Binds X.K fd ps ds) (hd : Vals dvs ds) (hx : Passes CX X E)
    (ha : PA X (e :: es) t) (hdb : (x == ("__debug__" : Str)) = false := by decide) (he : starEach (e :: es) X.env = (false, eval e X.env) :: starEach es X.env := by rfl) (hpl : (backTo pos (starEach es X.env)).any (·.1) = false := by rfl) :
    PE X (.Call (.Name x p) (e :: es) [] pos) (tCall sp dvs E t) := by
  intro pins s σ H Q I h
  refine wpAny_Call_Name_kw (ld_glob I hg hm ?_ hdb)
  refine PySem.W.callWith_K (h₀ := X.base) I.ok.mod.kin hk (thn (ha pos pins s σ H _ I h) fun us s1 ⟨vs, H1, I1, r, q⟩ => ⟨I1.kIn, ?_⟩) he hpl
  exact run_fn F hr hb hd hx I1 r q
end

section
variable {X : Cx} {CX : CXT} {k : Nat} {f C : Addr} {fd : FuncData} {ps ks : List Str} {sp : Sp} {E : XK} {x m : Str} {p pos apos kpos : Pos} {e o : Expr} {es : List Expr} {kws : List Keyword} {te ta : TE} {t tk : TA} {nm : Option Str}
variable {g : List Value → List Value → List Value} {gV : List V → List V → List V}
end

/-- names: the parameters first -/
structure FnScope (N P : List Str) (sc : Scope) : Prop where
  kind : sc.kind = .function
  co : sc.isCoroutine = false
  gen : sc.isGenerator = false
  nd : N.Nodup
  pre : N.take P.length = P
  par : ∀ x ∈ P, sc.names.lookup x = some .local ∨ sc.names.lookup x = some .cell
  nofree : ∀ y ∈ sc.names, y.2 ≠ .free

theorem bindL_out {kindOf : Str → Option NameKind} {x : Str} : ∀ {binds : List (Str × Value)} {m : Str → Option Value}, (∀ v, (x, v) ∉ binds) → bindL kindOf binds m x = m x
  | [], _, _ => rfl
  | (n, v) :: r, m, h => by
    unfold bindL
    rw [bindL_out fun w hw => h w (List.mem_cons_of_mem _ hw)]
    split
    · have : x ≠ n := by rintro rfl; exact h v List.mem_cons_self
      simp [this]
    · rfl
theorem bindC_out {kindOf : Str → Option NameKind} {x : Str} : ∀ {binds : List (Str × Value)} {m : Str → Option Value}, (∀ v, (x, v) ∉ binds) → bindC kindOf binds m x = m x
  | [], _, _ => rfl
  | (n, v) :: r, m, h => by
    unfold bindC
    rw [bindC_out fun w hw => h w (List.mem_cons_of_mem _ hw)]
    split
    · rfl
    · have : x ≠ n := by rintro rfl; exact h v List.mem_cons_self
      simp [this]
theorem bindL_get {kindOf : Str → Option NameKind} {x : Str} {v : Value} : ∀ {P : List Str} {vs : List Value} {i : Nat} {m : Str → Option Value}, P.Nodup → P[i]? = some x → vs[i]? = some v → kindOf x = some .local →
    bindL kindOf (P.zip vs) m x = some v
  | [], _, _, _, _, h, _, _ => by simp at h
  | _ :: _, [], _, _, _, _, h, _ => by simp at h
  | p :: P, w :: vs, 0, m, nd, h1, h2, hk => by
    simp at h1 h2; subst h1; subst h2
    show bindL kindOf ((p, w) :: P.zip vs) m p = _
    unfold bindL
    rw [bindL_out fun v hv => (List.nodup_cons.mp nd).1 (List.of_mem_zip hv).1, if_pos hk]
    simp
  | p :: P, w :: vs, i + 1, m, nd, h1, h2, hk => by
    show bindL kindOf ((p, w) :: P.zip vs) m x = _
    unfold bindL
    exact bindL_get (i := i) (List.nodup_cons.mp nd).2 (by simpa using h1) (by simpa using h2) hk
theorem bindC_get {kindOf : Str → Option NameKind} {x : Str} {v : Value} : ∀ {P : List Str} {vs : List Value} {i : Nat} {m : Str → Option Value}, P.Nodup → P[i]? = some x → vs[i]? = some v → kindOf x ≠ some .local →
    bindC kindOf (P.zip vs) m x = some v
  | [], _, _, _, _, h, _, _ => by simp at h
  | _ :: _, [], _, _, _, _, h, _ => by simp at h
  | p :: P, w :: vs, 0, m, nd, h1, h2, hk => by
    simp at h1 h2; subst h1; subst h2
    show bindC kindOf ((p, w) :: P.zip vs) m p = _
    unfold bindC
    rw [bindC_out fun v hv => (List.nodup_cons.mp nd).1 (List.of_mem_zip hv).1, if_neg hk]
    simp
  | p :: P, w :: vs, i + 1, m, nd, h1, h2, hk => by
    show bindC kindOf ((p, w) :: P.zip vs) m x = _
    unfold bindC
    exact bindC_get (i := i) (List.nodup_cons.mp nd).2 (by simpa using h1) (by simpa using h2) hk

/-- the names' values at the entry -/
def start (N : List Str) (vs : List V) : St := vs.map some ++ List.replicate (N.length - vs.length) none

/-- the context of a def's body, at its entry; an exception leaves the frame, then lies as CX says -/
def cxOf (CX : CXT) (P : Program) (w : World) (K : PySem.W.Frag) (mg : Str → Option Value) (base : Heap) (N : List Str) (qual : Str) (scope : Scope) (f : Addr) (cd : Value) (A : Around) (outer : List Env) (s : Shared) (H : Hp) (E : XK) : Cx where
  prog := P
  w := w
  K := K
  mg := mg
  base := base
  A := A.deeper (envOfC qual scope s.heap.objs.size f cd)
  N := N
  s_0 := s
  H_0 := H
  env := envOfC qual scope s.heap.objs.size f cd
  outer := outer
  stack := envOfC qual scope s.heap.objs.size f cd :: outer
  ex := []
  calm := true
  fn := fun _ => true
  pn := []
  xe := fun e s' => wpAny (model P w) (A.deeper (envOfC qual scope s.heap.objs.size f cd)) (leaving (envOfC qual scope s.heap.objs.size f cd) e) (fun _ s'' => CX outer H s E e s'') (fun e' s'' => CX outer H s E e' s'') s'

theorem cell_has {sc : Scope} {n : Nat} {x : Str} (h : sc.names.lookup x = some .cell) : ∃ c, (cellsFrom n sc.names []).lookup x = some c := by
  have q := PySem.W.cellsFrom_some sc.names n [] (.inl h)
  exact Option.isSome_iff_exists.mp q

theorem inv_start {CX : CXT} {P : Program} {w : World} {K : PySem.W.Frag} {mg : Str → Option Value} {base : Heap} {N ps : List Str} {qual : Str} {scope : Scope} {f : Addr} {cd : Value} {A : Around} {outer : List Env} {s s1 : Shared} {H : Hp} {E : XK} {us : List Value} {vs : List V}
    (S : FnScope N ps scope) (hd : A.handled = none) (e0 : Env0 P w K mg base A outer s H) (hl : vs.length = ps.length) (r : Vals vs us)
    (x : InCallC s s.heap.objs.size (bindL (envOfC qual scope s.heap.objs.size f cd).kindOf (ps.zip us) fun _ => none) (cellsFrom (s.heap.objs.size + 1) scope.names []) (bindC (envOfC qual scope s.heap.objs.size f cd).kindOf (ps.zip us) fun _ => none) s1) :
    Inv (cxOf CX P w K mg base N qual scope f cd A outer s H E) [] (start N vs) H s1 := by
  have hpl : ps.length ≤ N.length := by have := congrArg List.length S.pre; rw [List.length_take] at this; omega
  obtain ⟨h1, tk, rfl, hk⟩ := x.done
  have noA : ∀ b : Addr, b ∉ (cxOf CX P w K mg base N qual scope f cd A outer s H E).ex := fun b z => absurd (show b ∈ ([] : List Addr) from z) (by simp)
  refine ⟨⟨e0.mod, S.kind, rfl, rfl, Nat.le_refl _, fun y z c h1 h2 => ?_, fun y hy => ?_, fun y c _ h => ?_, fun _ => hd, Around.frames_deeper e0.frames, .inr ⟨rfl, rfl⟩, fun b z => absurd z (noA b), e0.bs, e0.bsz, fun b _ _ => noA b, fun b z => absurd z (noA b), e0.funs, e0.frf⟩,
    rfl, e0.bare, Un.kept hk, ⟨_, x.toInCall.ns, fun i y v h1 h2 h3 => ?_⟩, fun y c h => ⟨_, x.cell y c h⟩, e0.hok.fresh (Nat.le_refl _), fun y c h => ?_, fun p hp => absurd (show p ∈ ([] : List (Addr × Obj)) from hp) (by simp), e0.hok.kept hk, ?_⟩
  · exact name_of_addr x.apart (PySem.mem_of_lookup h1) (PySem.mem_of_lookup h2)
  · have hy : scope.names.lookup y = some .cell ∨ scope.names.lookup y = some .free := hy
    rcases hy with hy | hy
    · exact cell_has hy
    · exact absurd rfl (S.nofree _ (PySem.mem_of_lookup hy))
  · exact Nat.le_of_lt (x.above y c (PySem.mem_of_lookup h))
  · have hi : i < vs.length := by
      unfold start at h2
      by_cases hi : i < vs.length
      · exact hi
      · rw [List.getElem?_append_right (by simpa using hi)] at h2
        rw [List.getElem?_replicate] at h2
        split at h2 <;> cases h2
    have ha : vs[i]? = some v := by
      unfold start at h2
      rw [List.getElem?_append_left (by simpa using hi), List.getElem?_map] at h2
      cases e : vs[i]? with
      | none => rw [e] at h2; cases h2
      | some a => rw [e] at h2; cases h2; rfl
    obtain ⟨u, hu, rv⟩ := r.get ha
    have hp : ps[i]? = some y := by
      rw [← S.pre, List.getElem?_take_of_lt (by omega)]; exact h1
    have ndP : ps.Nodup := by rw [← S.pre]; exact S.nd.sublist (List.take_sublist _ _)
    refine ⟨u, rv, ?_⟩
    rcases S.par y (List.mem_of_getElem? hp) with k | k
    · exact .inl ⟨k, bindL_get ndP hp hu k⟩
    · obtain ⟨c, e⟩ := cell_has (n := s.heap.objs.size + 1) k
      refine .inr ⟨.inl k, c, e, ?_⟩
      have q := x.cell y c e
      rw [bindC_get ndP hp hu (by show scope.names.lookup y ≠ _; rw [k]; decide)] at q
      exact q
  · exact e0.hok.fresh (Nat.le_of_lt (x.above y c (PySem.mem_of_lookup h)))
  · unfold start
    show _ = N.length
    rw [List.length_append, List.length_map, List.length_replicate]
    omega

/-- THE RULE: a def (or a method) of the text, by its body. The body's reading t is chosen for each entry; it is run at the parameters' values -/
theorem fn_of {CX : CXT} {P : Program} {w : World} {K : PySem.W.Frag} {mg : Str → Option Value} {base : Heap} {k : Nat} {f : Addr} {name qual : Str} {params : Arguments} {body : List Stmt} {scope : Scope} {dV kV doc pm cdv ct oc : Value} {an od : Option Addr}
    {osl : Array (Option Value)} {N ps : List Str} {sp : Sp} (lk : K.lookup f = some ⟨oc, od, .func (PySem.W.fnOf name qual params body scope dV kV doc pm an cdv ct), osl⟩) (hcd : PySem.W.codeIn K cdv qual = true) (S : FnScope N ps scope)
    (len : ∀ vs H Q E, sp vs H Q E → vs.length = ps.length)
    (hbody : ∀ (A : Around) (outer : List Env) (s : Shared) (H : Hp) (vs : List V) (Q : VK) (E : XK), Room k (A.deeper (envOfC qual scope s.heap.objs.size f cdv)) → sp vs H Q E →
      ∃ t, PSs (cxOf CX P w K mg base N qual scope f cdv A outer s H E) body t ∧ t { nx := fun _ H' => Q .non H', rt := Q } (start N vs) H) :
    FnOk P w K mg base CX (k + 1) f (PySem.W.fnOf name qual params body scope dV kV doc pm an cdv ct) ps sp := by
  refine ⟨len, fun A outer s H args us vs Q E hr e0 hb r hsp => ?_⟩
  have hl := len _ _ _ _ hsp
  have KX : K.In s.heap := e0.mod.kin.keeps fun b o e => (e0.bs b o e).1
  have lim : s.heap.NoLimit := e0.mod.nolimit.keeps fun b o e => (e0.bs b o e).1
  have hkind : ∀ y ∈ ps.zip us, scope.names.lookup y.1 = some .local ∨ (scope.names.lookup y.1 = some .cell ∧ ((cellsFrom (s.heap.objs.size + 1) scope.names []).lookup y.1).isSome = true) := fun ⟨n, v⟩ hy => by
    rcases S.par n (List.of_mem_zip hy).1 with q | q
    · exact .inl q
    · exact .inr ⟨q, PySem.W.cellsFrom_some _ _ _ (.inl q)⟩
  refine codeAny_call_function hr.depth (KX _ _ lk) rfl S.co S.gen rfl (PySem.W.codeRec_of KX hcd) (hb _ _ _ _ ?_)
  refine wpAny_newFunctionEnv_cells S.kind hkind fun env he s1 x => ?_
  subst he
  refine ⟨lim.keeps x.toInCall.keep, codeAny_func ?_⟩
  obtain ⟨t, ht, hq⟩ := hbody A outer s H vs Q E (hr.deeper _) hsp
  have I : Inv (cxOf CX P w K mg base N qual scope f cdv A outer s H E) [] (start N vs) H s1 := inv_start S hr.hd e0 hl r x
  refine wpAny_mono (ht [] s1 (start N vs) H _ I hq) (fun fl s' hs => ?_) fun e s' hs => hs
  have fin : ∀ {σ' : St} {H' : Hp} {v : V} {u : Value}, Inv (cxOf CX P w K mg base N qual scope f cdv A outer s H E) [] σ' H' s' → RelV v u → Q v H' → CE outer P w H s Q u s' :=
    fun {σ' H' v u} J rv q => ⟨v, H', J.os, J.bare, J.base, J.hok, rv, q⟩
  cases fl with
  | ret u =>
    obtain ⟨v, σ', H', J, rv, q⟩ := hs
    exact fin J rv q
  | next =>
    obtain ⟨σ', H', J, q⟩ := hs
    exact fin (v := V.non) (u := Value.none) J rfl q
  | brk =>
    obtain ⟨_, _, _, q⟩ := hs
    exact False.elim q
  | cont =>
    obtain ⟨_, _, _, q⟩ := hs
    exact False.elim q
end L2

namespace L2
open PySem PySem.Spec PyProof.Rows
section
variable {X : Cx} {x : Str} {p pos : Pos} {e : Expr} {es : List Expr} {t : TA} {id T : String} {r : List V → Hp → VK → Prop}

def tCB (r : List V → Hp → VK → Prop) (t : TA) : TE := fun σ H Q => t σ H fun vs H1 => r vs H1 Q
/-- f(e, ..), f a built-in function -/
theorem pe_callB (hc : CallR X (.builtin id) r) (hg : Gl X x) (hm : X.mg x = none) (hv : bootBuiltins x = some (.builtin id)) (ha : PA X (e :: es) t) (hn : x ≠ "__name__" := by decide) (hdb : (x == ("__debug__" : Str)) = false := by decide)
    (he : starEach (e :: es) X.env = (false, eval e X.env) :: starEach es X.env := by rfl) (hpl : (backTo pos (starEach es X.env)).any (·.1) = false := by rfl) : PE X (.Call (.Name x p) (e :: es) [] pos) (tCB r t) := by
  intro pins s σ H Q I h
  refine wpAny_Call_Name_kw (ld_blt I hg hm hv ?_ hn hdb)
  exact PyProof.Rows.callWith_builtin1 (thn (ha pos pins s σ H _ I h) fun us s1 ⟨vs, H1, I1, r1, q1⟩ => hc pins s1 σ H1 vs us Q I1 r1 q1) he hpl
/-- T(e, ..), T a built-in type -/
theorem pe_callTy (hc : CallR X (.type T) r) (hg : Gl X x) (hm : X.mg x = none) (hv : bootBuiltins x = some (.type T)) (ha : PA X (e :: es) t) (hn : x ≠ "__name__" := by decide) (hdb : (x == ("__debug__" : Str)) = false := by decide)
    (he : starEach (e :: es) X.env = (false, eval e X.env) :: starEach es X.env := by rfl) (hpl : (backTo pos (starEach es X.env)).any (·.1) = false := by rfl) : PE X (.Call (.Name x p) (e :: es) [] pos) (tCB r t) := by
  intro pins s σ H Q I h
  refine wpAny_Call_Name_kw (ld_blt I hg hm hv ?_ hn hdb)
  exact PyProof.Rows.callWith_type1 (thn (ha pos pins s σ H _ I h) fun us s1 ⟨vs, H1, I1, r1, q1⟩ => hc pins s1 σ H1 vs us Q I1 r1 q1) he hpl
end
end L2

namespace HT
open PySem PyProof.Rows

section
open PySem.SeqAt
open PySem.AutoSeq1 (wpAny_loadPart')
open PySem.MeetsSeq PySem.MeetsSeq2 PySem.MeetsSeq3

end

section
variable {prog : Program} {w : World} {A : Around} {E : Value → Shared → Prop} {s : Shared}

/-- t + u, t not empty -/
theorem cat_tup {t b : Addr} {vs ws : List Value} {Q : Value → Shared → Prop} (ht : IsTup s.heap t vs.toArray) (hb : IsTup s.heap b ws.toArray) (hv : vs ≠ [])
    (h1 : ws = [] → Q (.ref t) s) (h2 : ws ≠ [] → Q (.ref s.heap.objs.size) { s with heap := s.heap.push { cls := .type "tuple", data := .seq (vs ++ ws).toArray } })
    (hsz : vs.length + ws.length ≤ sizeLine) : wpAny (model prog w) A (binaryOp .Add (.ref t) (.ref b)) Q E s := by
  obtain ⟨⟨cls, dd, data, sl⟩, ho, hc, n, hd⟩ := id ht
  obtain ⟨⟨cls2, dd2, data2, sl2⟩, ho2, hc2, n2, hd2⟩ := id hb
  simp only at hc hd hc2 hd2
  subst hc hd hc2 hd2
  have e : vs.toArray ++ ws.toArray = (vs ++ ws).toArray := by simp
  by_cases hw : ws = []
  · exact concat_meets ⟨_, ho, rfl⟩ ⟨_, ho2, rfl⟩ noFill_tuple_add seq_tuple_add PySem.F.slot_tuple_add PySem.F.entry_tuple_add (PySem.F.args_tuple_add_2 _ _)
      (tuple_addW1 t b vs.toArray ws.toArray n n2 dd dd2 sl sl2 (by simpa using hv) (by simp [hw])) ⟨ho, ho2, h1 hw⟩
  · refine concat_meets ⟨_, ho, rfl⟩ ⟨_, ho2, rfl⟩ noFill_tuple_add seq_tuple_add PySem.F.slot_tuple_add PySem.F.entry_tuple_add (PySem.F.args_tuple_add_2 _ _)
      (tuple_addW2 t b vs.toArray ws.toArray n n2 dd dd2 sl sl2 (by simpa using hv) (by simpa using hw) (by rw [List.size_toArray, List.size_toArray]; exact hsz)) ⟨ho, ho2, ?_⟩
    rw [e]
    exact h2 hw

/-- a slice's bound as a place among n (d where it is left out) -/
def sIx (n d : Nat) : Option Int → Nat
  | none => d
  | some v => if v < 0 then (v + (n : Int)).toNat else min v.toNat n
theorem sIx_none (n d : Nat) : sIx n d none = d := rfl
theorem sIx_nat (n d k : Nat) : sIx n d (some (k : Int)) = min k n := by
  show (if (k : Int) < 0 then ((k : Int) + (n : Int)).toNat else min (k : Int).toNat n) = min k n
  rw [if_neg (by omega), Int.toNat_natCast]
theorem sIx_le (n d : Nat) (hd : d ≤ n) (o : Option Int) : sIx n d o ≤ n := by
  cases o with
  | none => exact hd
  | some v =>
    show (if v < 0 then (v + (n : Int)).toNat else min v.toNat n) ≤ n
    by_cases hv : v < 0
    · rw [if_pos hv]; omega
    · rw [if_neg hv]; exact Nat.min_le_right _ _
theorem clip_eq (v : Int) (n d : Nat) : (if v < 0 then max (v + (n : Int)) 0 else min v (n : Int)) = ((sIx n d (some v) : Nat) : Int) := by
  show (if v < 0 then max (v + (n : Int)) 0 else min v (n : Int)) = (((if v < 0 then (v + (n : Int)).toNat else min v.toNat n) : Nat) : Int)
  by_cases hv : v < 0
  · simp only [if_pos hv]; omega
  · simp only [if_neg hv]; omega
theorem adjust_gen (lo hi : Option Int) (n : Nat) : Builtin.Slice.sliceAdjust lo hi 1 (n : Int) = (((sIx n 0 lo : Nat) : Int), ((sIx n n hi : Nat) : Int)) := by
  have h1 : ¬ ((1 : Int) < 0) := by omega
  unfold Builtin.Slice.sliceAdjust
  simp only [h1, if_false]
  refine Prod.ext ?_ ?_
  · cases lo with
    | none => rfl
    | some v => exact clip_eq v n 0
  · cases hi with
    | none => rfl
    | some v => exact clip_eq v n n
theorem places_gen (i j : Nat) : Builtin.Slice.slicePlaces (i : Int) (j : Int) 1 = j - i := by
  unfold Builtin.Slice.slicePlaces
  have h1 : (1 : Int) > 0 := by omega
  simp only [h1, if_true, Int.ediv_one]
  split <;> omega
theorem slicePart_ {v : Value} {o : Option Int} {Q : Option Int → Shared → Prop} (p : IsPart v o) (h : Q o s) : wpAny (model prog w) A (Builtin.Slice.slicePartIndex v) Q E s := by
  cases p with
  | none => exact slicePart_none h
  | int i t => exact slicePart_int h
theorem sliceApplied_gen {sl : Addr} {vl vu : Value} {lo hi : Option Int} {n : Nat} {Q : Int × Int × Nat → Shared → Prop} (hs : s.heap.IsSliceOf sl vl vu .none) (pl : IsPart vl lo) (pu : IsPart vu hi)
    (h : Q (((sIx n 0 lo : Nat) : Int), 1, sIx n n hi - sIx n 0 lo) s) : wpAny (model prog w) A (Builtin.Slice.sliceApplied (.ref sl) (pure (n : Int))) Q E s := by
  obtain ⟨os, hos, hcs, hds⟩ := id hs
  unfold Builtin.Slice.sliceApplied Builtin.Slice.sliceFields
  refine wpAny_bind (wpAny_bind (wpAny_field hos hds (x := vl) rfl (wpAny_bind (wpAny_field hos hds (x := vu) rfl (wpAny_bind (wpAny_field hos hds (x := .none) rfl (wpAny_pure ?_)))))))
  refine wpAny_bind (slicePart_none ?_)
  show wpAny _ _ (if ((1 : Int) == 0) = true then _ else _) _ _ s
  rw [if_neg (by decide)]
  refine wpAny_bind (slicePart_ pl (wpAny_bind (slicePart_ pu (wpAny_bind (wpAny_pure ?_)))))
  show wpAny _ _ (match Builtin.Slice.sliceAdjust lo hi 1 (n : Int) with | (lo, hi) => pure (lo, (1 : Int), Builtin.Slice.slicePlaces lo hi 1)) _ _ s
  rw [adjust_gen lo hi n]
  show wpAny _ _ (pure (((sIx n 0 lo : Nat) : Int), (1 : Int), Builtin.Slice.slicePlaces ((sIx n 0 lo : Nat) : Int) ((sIx n n hi : Nat) : Int) 1)) _ _ s
  rw [places_gen]
  exact wpAny_pure h
theorem pick_gen (xs : Array Value) (i k : Nat) : ((List.range k).filterMap fun (m : Nat) => xs[((i : Int) + (m : Int) * 1).toNat]?).toArray = ((xs.toList.drop i).take k).toArray := by
  have e : (fun (m : Nat) => xs[((i : Int) + (m : Int) * 1).toNat]?) = fun m => xs[i + m]? := by
    funext m
    have : ((i : Int) + (m : Int) * 1).toNat = i + m := by omega
    rw [this]
  rw [e]
  have := pick_run xs i k
  rw [List.filterMap_map] at this
  have e2 : ((fun x => xs[x]?) ∘ fun x => i + x) = fun m => xs[i + m]? := rfl
  rw [e2] at this
  rw [this]

theorem getItem_tuple_cut {t sl : Addr} {items : Array Value} {vl vu : Value} {lo hi : Option Int} {Q : Value → Shared → Prop} (ht : IsTup s.heap t items) (hs : s.heap.IsSliceOf sl vl vu .none) (pl : IsPart vl lo) (pu : IsPart vu hi)
    (hw : ¬ (sIx items.size 0 lo = 0 ∧ sIx items.size items.size hi = items.size))
    (h : Q (.ref s.heap.objs.size) { s with heap := s.heap.push { cls := .type "tuple", data := .seq ((items.toList.drop (sIx items.size 0 lo)).take (sIx items.size items.size hi - sIx items.size 0 lo)).toArray } })
    (hsz : items.size ≤ sizeLine) : wpAny (model prog w) A (getItem (.ref t) (.ref sl)) Q E s := by
  have htake : sizeOk (.seq ((items.toList.drop (sIx items.size 0 lo)).take (sIx items.size items.size hi - sIx items.size 0 lo)).toArray) := by
    show ((items.toList.drop (sIx items.size 0 lo)).take (sIx items.size items.size hi - sIx items.size 0 lo)).toArray.size ≤ sizeLine
    rw [List.size_toArray, List.length_take, List.length_drop, Array.length_toList]
    omega
  have hj : sIx items.size items.size hi ≤ items.size := sIx_le _ _ (Nat.le_refl _) hi
  obtain ⟨os, hos, hcs, hds⟩ := id hs
  have hTs : s.TypeIs (.ref sl) "slice" := ⟨os, hos, hcs⟩
  unfold getItem
  try with_reducible refine wpAny_holding ?_
  first | refine wpAny_bind (wpAny_pure ?_) | skip
  refine wpAny_bind (wpAny_sequenceKey ht.typeIs (by decide) ?_)
  refine wpAny_bind (wpAny_callSpecial?_slot (name := Str.ofString "__getitem__") ht.typeIs PyProof.Rows.slot_tuple_getitem
    (wpAny_call_entry PyProof.Rows.slot_tuple_getitem ht.typeIs entry_tuple_getitem ?_ (args_tuple_getitem _ _)))
  show wpAny _ _ (Builtin.Tuple.tupleItemsOf (.ref t) >>= _) _ _ s
  refine wpAny_bind (tupleItemsOf_ ht ?_)
  refine wpAny_bind (wpAny_typeOf hTs ?_)
  rw [if_pos (by decide)]
  refine wpAny_bind (sliceApplied_gen hs pl pu ?_)
  have hno : ¬ ((((sIx items.size 0 lo : Nat) : Int) == 0 && (1 : Int) == 1 && (sIx items.size items.size hi - sIx items.size 0 lo) == items.size) = true) := by
    intro q
    rw [Bool.and_eq_true, Bool.and_eq_true] at q
    have q1 : ((sIx items.size 0 lo : Nat) : Int) = 0 := eq_of_beq q.1.1
    have q2 : sIx items.size items.size hi - sIx items.size 0 lo = items.size := eq_of_beq q.2
    exact hw ⟨by omega, by omega⟩
  show wpAny _ _ (if (((sIx items.size 0 lo : Nat) : Int) == 0 && (1 : Int) == 1 && (sIx items.size items.size hi - sIx items.size 0 lo) == items.size) = true then _ else _) _ _ s
  rw [if_neg hno, pick_gen]
  first
    | exact wpAny_bind (m := Builtin.Tuple.tupleExact _) (wpAny_newObj_type (wpAny_pure ⟨_, rfl, wpAny_pure h⟩) htake)
    | exact wpAny_bind (m := Builtin.Tuple.tupleExact _) (wpAny_newObj_type (wpAny_bind (wpAny_pure (wpAny_pure ⟨_, rfl, wpAny_pure h⟩))) htake)
    | exact wpAny_bind (wpAny_bind (m := Builtin.Tuple.tupleExact _) (wpAny_newObj_type (wpAny_pure (wpAny_pure ⟨_, rfl, wpAny_pure h⟩)) htake))
    | exact wpAny_bind (wpAny_bind (m := Builtin.Tuple.tupleExact _) (wpAny_newObj_type (wpAny_pure ⟨_, rfl, wpAny_pure h⟩) htake))
end
end HT

namespace L2
open PySem PySem.Spec PyProof.Rows

abbrev TO := St → Hp → (Option Int → Hp → Prop) → Prop
/-- a slice's part (left out, or an int) -/
def PO (X : Cx) (e : Option Expr) (t : TO) : Prop :=
  ∀ (pins : List (Addr × Obj)) (s : Shared) (σ : St) (H : Hp) (Q : Option Int → Hp → Prop), Inv X pins σ H s → t σ H Q →
    wpAny (model X.prog X.w) X.A (evalPart e X.env) (fun u s' => ∃ o H', Inv X pins σ H' s' ∧ IsPart u o ∧ Q o H') X.xe s
def tNoPart : TO := fun _ H Q => Q none H
def tPart (t : TE) : TO := fun σ H Q => t σ H fun x H1 => ∃ i, x = .int i ∧ Q (some i) H1

section
variable {X : Cx} {e : Expr} {te : TE} {lo hi : Option Expr} {tl th : TO} {pos p2 : Pos}

theorem po_none : PO X none tNoPart := by
  intro pins s σ H Q I h
  rw [evalPart_none]
  exact wpAny_pure ⟨none, H, I, .none, h⟩
theorem po_some (h : PE X e te) : PO X (some e) (tPart te) := by
  intro pins s σ H Q I hw
  rw [evalPart_some]
  refine thn (h pins s σ H _ I hw) fun u s1 ⟨x, H1, I1, r1, q1⟩ => ?_
  obtain ⟨i, rfl, q⟩ := q1
  obtain ⟨t, rfl⟩ := r1
  exact ⟨some i, H1, I1, .int i t, q⟩

/-- what a slice of a value is, by values: the slice object stands at sl -/
def SlR (X : Cx) (r : V → Option Int → Option Int → Hp → VK → Prop) : Prop :=
  ∀ (pins : List (Addr × Obj)) (s : Shared) (σ : St) (H : Hp) (x : V) (v vl vu : Value) (lo hi : Option Int) (sl : Addr) (Q : VK), Inv X pins σ H s → RelV x v → s.heap.IsSliceOf sl vl vu .none → IsPart vl lo → IsPart vu hi → r x lo hi H Q →
    ∃ T id, typeLookup (.type T) "__getitem__" = pure (some (.builtin id)) ∧ s.TypeIs v T ∧ wpAny (model X.prog X.w) X.A (getItem v (.ref sl)) (EP X pins σ Q) X.xe s
theorem SlR.or {r r' : V → Option Int → Option Int → Hp → VK → Prop} (h : SlR X r) (h' : SlR X r') : SlR X (fun x lo hi H Q => r x lo hi H Q ∨ r' x lo hi H Q) := by
  intro pins s σ H x v vl vu lo hi sl Q I rx hs pl pu q
  rcases q with q | q
  · exact h pins s σ H x v vl vu lo hi sl Q I rx hs pl pu q
  · exact h' pins s σ H x v vl vu lo hi sl Q I rx hs pl pu q
def tSl (r : V → Option Int → Option Int → Hp → VK → Prop) (te : TE) (tl th : TO) : TE := fun σ H Q => te σ H fun x H1 => tl σ H1 fun l H2 => th σ H2 fun u H3 => r x l u H3 Q
/-- a[lo:hi], any a -/
theorem pe_slice {r : V → Option Int → Option Int → Hp → VK → Prop} (hr : SlR X r) (he : PE X e te) (hl : PO X lo tl) (hu : PO X hi th) : PE X (.Subscript e (.Slice lo hi none p2) pos) (tSl r te tl th) := by
  intro pins s σ H Q I h
  refine Subscript_ (thn (he pins s σ H _ I h) fun v s1 ⟨x, H1, I1, r1, q1⟩ => ?_)
  refine wpAny_Slice (thn (hl pins s1 σ H1 _ I1 q1) fun vl s2 ⟨l, H2, I2, pl, q2⟩ => thn (hu pins s2 σ H2 _ I2 q2) fun vu s3 ⟨u, H3, I3, pu, q3⟩ => ?_)
  rw [evalPart_none]
  refine wpAny_pure ?_
  have I4 : Inv X pins σ H3 { s3 with heap := s3.heap.push { cls := .type "slice", data := .fields #[vl, vu, .none] } } := I3.kept (t' := s3.toks) fun b ob q => Heap.get?_push_of_some _ q
  obtain ⟨T, id, hT, ht, hg⟩ := hr pins { s3 with heap := s3.heap.push { cls := .type "slice", data := .fields #[vl, vu, .none] } } σ H3 x v vl vu l u s3.heap.objs.size Q I4 r1 (Heap.IsSliceOf.new ..) pl pu q3
  show wpAny (model X.prog X.w) X.A (subscriptTail e (.Slice lo hi none p2) v (.ref s3.heap.objs.size)) (EP X pins σ Q) X.xe { s3 with heap := s3.heap.push { cls := .type "slice", data := .fields #[vl, vu, .none] } }
  exact tail_any (ops := [.ref s3.heap.objs.size, v]) ht hT hg (by with_unfolding_all rfl)

/-- the items of xs[lo:hi] -/
def cutV (xs : List V) (lo hi : Option Int) : List V := (xs.drop (HT.sIx xs.length 0 lo)).take (HT.sIx xs.length xs.length hi - HT.sIx xs.length 0 lo)
theorem cutV_length (xs : List V) (lo hi : Option Int) : (cutV xs lo hi).length ≤ xs.length := by
  unfold cutV
  rw [List.length_take, List.length_drop]
  omega
/-- t[lo:hi], not the whole of it (the whole would be t itself) -/
def rSlT (K : PySem.W.Frag) : V → Option Int → Option Int → Hp → VK → Prop := fun x lo hi H Q => ∃ a xs, x = .ref a ∧ SqT K H a xs ∧
  ¬ (HT.sIx xs.length 0 lo = 0 ∧ HT.sIx xs.length xs.length hi = xs.length) ∧ ∀ p, H p = none → Q (.ref p) (upd H p (.tup (cutV xs lo hi)))
theorem sl_tup : SlR X (rSlT X.K) := by
  intro pins s σ H x v vl vu lo hi sl Q I rx hs pl pu h
  obtain ⟨a, xs, rfl, hx, hw, q⟩ := h
  cases rx
  obtain ⟨its, r, ht, hz⟩ := I.tuple hx
  have hlen : its.toArray.size = xs.length := by rw [List.size_toArray]; exact r.length.symm
  refine ⟨"tuple", _, PyProof.Rows.slot_tuple_getitem.lookup, ht.typeIs, ?_⟩
  refine HT.getItem_tuple_cut ht hs pl pu (by rw [hlen]; exact hw) ?_ (by rw [hlen]; exact hz)
  rw [hlen]
  refine ⟨.ref s.heap.objs.size, _, I.laid (t' := s.toks) (o := .tup (cutV xs lo hi)) (fun b ob q => Heap.get?_push_of_some _ q) (Nat.le_refl _) ?_, rfl, q _ (I.hok.fresh (Nat.le_refl _))⟩
  exact ⟨Nat.le_trans (cutV_length xs lo hi) hz, _, (r.drop (HT.sIx xs.length 0 lo)).take (HT.sIx xs.length xs.length hi - HT.sIx xs.length 0 lo), IsTup.new _ _⟩

/-- t + u, t not empty: u empty gives t itself -/
def rCatT (K : PySem.W.Frag) : R2 := fun x y H Q => ∃ a b xs ys, x = .ref a ∧ y = .ref b ∧ SqT K H a xs ∧ SqT K H b ys ∧ xs ≠ [] ∧ xs.length + ys.length ≤ sizeLine ∧
  (ys = [] → Q (.ref a) H) ∧ (ys ≠ [] → ∀ p, H p = none → Q (.ref p) (upd H p (.tup (xs ++ ys))))
theorem Vals.nil_iff {xs : List V} {us : List Value} (r : Vals xs us) : us = [] ↔ xs = [] := by
  cases r with
  | nil => simp
  | cons _ _ => simp
theorem op_catT : OpR X (binaryOp .Add) (rCatT X.K) := by
  intro pins s σ H x y v u Q I rx ry h
  obtain ⟨a, b, xs, ys, rfl, rfl, ha, hb, hx, hz, q1, q2⟩ := h
  cases rx
  cases ry
  obtain ⟨its, r1, p1, _⟩ := I.tuple ha
  obtain ⟨its2, r2, p2, _⟩ := I.tuple hb
  refine HT.cat_tup p1 p2 (fun z => hx (r1.nil_iff.mp z)) (fun z => ⟨.ref a, H, I, rfl, q1 (r2.nil_iff.mp z)⟩) (fun z => ?_) (by rw [← r1.length, ← r2.length]; exact hz)
  refine ⟨.ref s.heap.objs.size, _, I.laid (t' := s.toks) (o := .tup (xs ++ ys)) (fun b ob q => Heap.get?_push_of_some _ q) (Nat.le_refl _) ?_, rfl, q2 (fun w => z (r2.nil_iff.mpr w)) _ (I.hok.fresh (Nat.le_refl _))⟩
  exact ⟨by rw [List.length_append]; exact hz, _, r1.append r2, IsTup.new _ _⟩
/-- tuple(t) -/
theorem call_tupleT : CallR X (.type "tuple") (fun xs H Q => ∃ a ys, xs = [.ref a] ∧ SqT X.K H a ys ∧ Q (.ref a) H) := by
  intro pins s σ H xs us Q I r h
  obtain ⟨a, ys, rfl, ha, q⟩ := h
  obtain ⟨u, rfl, ru⟩ := vals1 r
  cases ru
  obtain ⟨its, _, p1, _⟩ := I.tuple ha
  exact call_tuple_same (items := its.toArray) p1 ⟨.ref a, H, I, rfl, q⟩
end
end L2

namespace L2
open PySem PySem.Spec PyProof.Rows

/-- the place that an index of any sign means -/
def ixN (n : Nat) (i : Int) : Option Nat := if 0 ≤ i then (if i < n then some i.toNat else none) else if -(n : Int) ≤ i then some (i + n).toNat else none
def atI {α : Type} (xs : List α) (i : Int) : Option α := (ixN xs.length i).bind fun j => xs[j]?
theorem ixN_seq {n : Nat} {i : Int} {j : Nat} (h : ixN n i = some j) : seqIndex? i n = some j ∧ j < n ∧ -(n : Int) ≤ i ∧ i < n := by
  unfold ixN at h
  by_cases h0 : 0 ≤ i
  · rw [if_pos h0] at h
    by_cases h1 : i < n
    · rw [if_pos h1] at h
      have e : i.toNat = j := Option.some.inj h
      exact ⟨by rw [seqIndex_of h0 h1, e], by omega, by omega, h1⟩
    · rw [if_neg h1] at h; cases h
  · rw [if_neg h0] at h
    by_cases h1 : -(n : Int) ≤ i
    · rw [if_pos h1] at h
      have e : (i + n).toNat = j := Option.some.inj h
      exact ⟨by rw [seqIndex_neg (by omega) h1, e], by omega, h1, by omega⟩
    · rw [if_neg h1] at h; cases h
theorem atI_get {α : Type} {xs : List α} {i : Int} {v : α} (h : atI xs i = some v) : ∃ j, seqIndex? i xs.length = some j ∧ xs[j]? = some v ∧ j < xs.length ∧ -(xs.length : Int) ≤ i ∧ i < xs.length := by
  unfold atI at h
  cases e : ixN xs.length i with
  | none => rw [e] at h; cases h
  | some j =>
    rw [e] at h
    obtain ⟨h1, h2, h3, h4⟩ := ixN_seq e
    exact ⟨j, h1, h, h2, h3, h4⟩
theorem atI_nat {α : Type} {xs : List α} {j : Nat} {v : α} (h : xs[j]? = some v) : atI xs (j : Int) = some v := by
  have hj : j < xs.length := (List.getElem?_eq_some_iff.mp h).1
  have e : ixN xs.length (j : Int) = some j := by
    unfold ixN
    rw [if_pos (by omega), if_pos (by omega)]; simp
  unfold atI; rw [e]; exact h
theorem atI_last {α : Type} (xs : List α) (v : α) : atI (xs ++ [v]) (-1) = some v := by
  have hl : (xs ++ [v]).length = xs.length + 1 := by simp
  have e : ixN (xs ++ [v]).length (-1) = some xs.length := by
    unfold ixN
    rw [hl, if_neg (by decide), if_pos (by omega)]
    congr 1
    omega
  unfold atI
  rw [e]
  show (xs ++ [v])[xs.length]? = some v
  simp

/-- what stands as an index of a plain subscript -/
def PlainIx (b : Expr) : Prop := ∀ o i, subscripted b false o i = operate [o, i] (getItem o i)
/-- a subscript by values -/
def IxR (X : Cx) (r : R2) : Prop :=
  ∀ (value slice : Expr) (pins : List (Addr × Obj)) (s : Shared) (σ : St) (H : Hp) (x y : V) (v u : Value) (Q : VK), Inv X pins σ H s → RelV x v → RelV y u → r x y H Q →
    subscripted slice false v u = operate [v, u] (getItem v u) → wpAny (model X.prog X.w) X.A (subscriptTail value slice v u) (EP X pins σ Q) X.xe s
/-- a call of a builtin's method by values: the receiver, the arguments -/
def MtR (X : Cx) (id : String) (r : V → List V → Hp → VK → Prop) : Prop :=
  ∀ (pins : List (Addr × Obj)) (s : Shared) (σ : St) (H : Hp) (x : V) (xs : List V) (v : Value) (us : List Value) (Q : VK), Inv X pins σ H s → RelV x v → Vals xs us → r x xs H Q →
    wpAny (model X.prog X.w) X.A (call (.builtin id) (v :: us)) (EP X pins σ Q) X.xe s
section
variable {X : Cx} {a b : Expr} {ta tb : TE} {pos : Pos}
theorem IxR.or {r r' : R2} (h : IxR X r) (h' : IxR X r') : IxR X (fun x y H Q => r x y H Q ∨ r' x y H Q) := by
  intro value slice pins s σ H x y v u Q I rx ry q hs
  rcases q with q | q
  · exact h value slice pins s σ H x y v u Q I rx ry q hs
  · exact h' value slice pins s σ H x y v u Q I rx ry q hs
theorem MtR.or {id : String} {r r' : V → List V → Hp → VK → Prop} (h : MtR X id r) (h' : MtR X id r') : MtR X id (fun x xs H Q => r x xs H Q ∨ r' x xs H Q) := by
  intro pins s σ H x xs v us Q I rx rs q
  rcases q with q | q
  · exact h pins s σ H x xs v us Q I rx rs q
  · exact h' pins s σ H x xs v us Q I rx rs q
/-- a[b] -/
theorem pe_ix {r : R2} (hr : IxR X r) (ha : PE X a ta) (hb : PE X b tb) (hs : PlainIx b) : PE X (.Subscript a b pos) (tOp r ta tb) := by
  intro pins s σ H Q I h
  exact Subscript_ (binT ha hb I h fun v u s2 x y H2 I2 rx ry q => hr a b pins s2 σ H2 x y v u Q I2 rx ry q (hs _ _))

def rIxL (K : PySem.W.Frag) : R2 := fun x y H Q => ∃ p xs i v, x = .ref p ∧ y = .int i ∧ SqL K H p xs ∧ atI xs i = some v ∧ Q v H
def rIxT (K : PySem.W.Frag) : R2 := fun x y H Q => ∃ p xs i v, x = .ref p ∧ y = .int i ∧ SqT K H p xs ∧ atI xs i = some v ∧ Q v H
def rIxS : R2 := fun x y H Q => ∃ z i c, x = .str z ∧ y = .int i ∧ z.length ≤ sizeLine ∧ atI z.cps.toList i = some c ∧ Q (.str ⟨#[c]⟩) H
theorem ix_list : IxR X (rIxL X.K) := by
  intro value slice pins s σ H x y v u Q I rx ry h hs
  obtain ⟨p, xs, i, z, rfl, rfl, hq, he, q⟩ := h
  cases rx
  obtain ⟨t, rfl⟩ := ry
  obtain ⟨its, r, pl, hz⟩ := I.list hq
  obtain ⟨j, h1, h2, h3, h4, h5⟩ := atI_get he
  obtain ⟨w, ew, rw'⟩ := r.get h2
  have hl := r.length
  have hn := line63
  have fin : EP X pins σ Q w s := ⟨z, H, I, rw', q⟩
  by_cases h0 : 0 ≤ i
  · have hj : i.toNat = j := by
      rw [seqIndex_of h0 h5] at h1
      exact Option.some.inj h1
    exact item_listR pl.isList h0 (by omega) (by rw [hj]; simpa using ew) fin hs
  · have hj : (i + (its.toArray.size : Int)).toNat = j := by
      rw [seqIndex_neg (by omega) h4] at h1
      rw [List.size_toArray, ← hl]
      exact Option.some.inj h1
    exact subscriptTail_builtinR (x := w) pl.isList.typeIs slot_list_getitem.lookup
      (wpAny_getItem_list_neg (Q := fun r s' => r = w ∧ EP X pins σ Q r s') pl.isList (by omega) (by rw [List.size_toArray] <;> omega) (by omega) (by rw [hj]; simpa using ew) ⟨rfl, fin⟩) hs
theorem ix_tup : IxR X (rIxT X.K) := by
  intro value slice pins s σ H x y v u Q I rx ry h hs
  obtain ⟨p, xs, i, z, rfl, rfl, hq, he, q⟩ := h
  cases rx
  obtain ⟨t, rfl⟩ := ry
  obtain ⟨its, r, pl, hz⟩ := I.tuple hq
  obtain ⟨j, h1, h2, h3, h4, h5⟩ := atI_get he
  obtain ⟨w, ew, rw'⟩ := r.get h2
  have hl := r.length
  have hn := line63
  have fin : EP X pins σ Q w s := ⟨z, H, I, rw', q⟩
  exact subscriptTail_builtinR (x := w) pl.typeIs slot_tuple_getitem.lookup
    (getItem_tuple (j := j) (Q := fun r s' => r = w ∧ EP X pins σ Q r s') pl (by omega) (by omega) (by rw [List.size_toArray, ← hl]; exact h1) (by simpa using ew) ⟨rfl, fin⟩) hs
theorem ix_str : IxR X rIxS := by
  intro value slice pins s σ H x y v u Q I rx ry h hs
  obtain ⟨z, i, c, rfl, rfl, hz, he, q⟩ := h
  obtain ⟨t, rfl⟩ := rx
  obtain ⟨t', rfl⟩ := ry
  obtain ⟨j, h1, h2, h3, h4, h5⟩ := atI_get he
  have hl : z.cps.toList.length = z.length := by simp [Str.length]
  rw [hl] at h1 h4 h5
  have hn := line63
  exact tail_any (typeIs_str s z t) slot_str_getitem.lookup (getItem_str (c := c) (by
    have e1 : decide (i < -(2 ^ 63 : Int)) = false := decide_eq_false (by omega)
    have e2 : decide (i ≥ 2 ^ 63) = false := decide_eq_false (by omega)
    rw [e1, e2, Bool.or_false]) (by rw [h1]; simpa using h2) ⟨.str ⟨#[c]⟩, H, I.tok _, ⟨_, rfl⟩, q⟩) hs
/-- list, tuple or str -/
def rIx (K : PySem.W.Frag) : R2 := fun x y H Q => rIxL K x y H Q ∨ rIxT K x y H Q ∨ rIxS x y H Q
theorem ix_seq : IxR X (rIx X.K) := ix_list.or (ix_tup.or ix_str)

theorem Inv.lst {pins : List (Addr × Obj)} {σ : St} {H : Hp} {s : Shared} {p : Addr} {xs : List V} (I : Inv X pins σ H s) (h : H p = some (.lst xs)) :
    ∃ (its : List Value) (n : Nat), Vals xs its ∧ s.heap.get? p = some { cls := .type "list", data := .seq its.toArray n } ∧ xs.length ≤ sizeLine := by
  obtain ⟨z, its, n, r, e⟩ := I.hok p _ h
  exact ⟨its, n, r, e, z⟩
theorem slice_bounds (lo hi : Option Int) (n : Nat) : (sliceBounds lo hi none n).1 = ((HT.sIx n 0 lo : Nat) : Int) ∧ (sliceBounds lo hi none n).2.1 = ((HT.sIx n n hi : Nat) : Int) ∧ (sliceBounds lo hi none n).2.2 = 1 := by
  refine ⟨?_, ?_, rfl⟩
  · cases lo with
    | none => simp [sliceBounds, HT.sIx]
    | some i =>
      simp only [sliceBounds, HT.sIx, Option.getD_none, show (1 : Int) > 0 by decide, if_true]
      by_cases h : i < 0
      · simp only [h, if_true] <;> omega
      · simp only [h, if_false] <;> omega
  · cases hi with
    | none => simp [sliceBounds, HT.sIx]
    | some i =>
      simp only [sliceBounds, HT.sIx, Option.getD_none, show (1 : Int) > 0 by decide, if_true]
      by_cases h : i < 0
      · simp only [h, if_true] <;> omega
      · simp only [h, if_false] <;> omega
theorem slicePick_cut (its : List Value) (lo hi : Option Int) : slicePick its.toArray lo hi none = ((its.drop (HT.sIx its.length 0 lo)).take (HT.sIx its.length its.length hi - HT.sIx its.length 0 lo)).toArray := by
  obtain ⟨h1, h2, h3⟩ := slice_bounds lo hi its.toArray.size
  unfold slicePick
  rw [h1, h2, h3]
  simp only [sliceRange_one, pick_run, List.size_toArray] <;> rfl
/-- xs[lo:hi] of a list: a new list -/
def rSlL (K : PySem.W.Frag) : V → Option Int → Option Int → Hp → VK → Prop := fun x lo hi H Q => ∃ a xs, x = .ref a ∧ SqL K H a xs ∧ ∀ p, H p = none → Q (.ref p) (upd H p (.lst (cutV xs lo hi)))
theorem sl_list : SlR X (rSlL X.K) := by
  intro pins s σ H x v vl vu lo hi sl Q I rx hs pl pu h
  obtain ⟨a, xs, rfl, hx, q⟩ := h
  cases rx
  obtain ⟨its, r, ht, hz⟩ := I.list hx
  have hlen := r.length
  refine ⟨"list", _, slot_list_getitem.lookup, ht.isList.typeIs, ?_⟩
  refine wpAny_getItem_list_slice ht.isList hs pl pu .none (by simp) ?_ (by rw [List.size_toArray] <;> omega)
  rw [slicePick_cut, ← hlen]
  refine ⟨.ref s.heap.objs.size, _, I.laid (t' := s.toks) (o := .lst (cutV xs lo hi)) (fun b ob q => Heap.get?_push_of_some _ q) (Nat.le_refl _) ?_, rfl, q _ (I.hok.fresh (Nat.le_refl _))⟩
  exact ⟨Nat.le_trans (cutV_length xs lo hi) hz, _, 0, (r.drop (HT.sIx xs.length 0 lo)).take (HT.sIx xs.length xs.length hi - HT.sIx xs.length 0 lo), Heap.get?_push_size _ rfl⟩

def flatV : V → Bool
  | .non => true
  | .bl _ => true
  | .int _ => true
  | .str _ => true
  | _ => false
/-- == of flat values -/
def eqV : V → V → Bool
  | .non, .non => true
  | .bl a, .bl b => a == b
  | .bl a, .int b => (if a then 1 else 0) == b
  | .int a, .bl b => a == (if b then 1 else 0)
  | .int a, .int b => a == b
  | .str a, .str b => a == b
  | _, _ => false
theorem eqAt_V {A : Around} {s : Shared} {y x : V} {u v : Value} (ry : RelV y u) (rx : RelV x v) (fy : flatV y = true) (fx : flatV x = true) : SeqAt.EqAt A s u v (eqV y x) := by
  cases y with
  | non =>
    cases ry
    cases x with
    | non => cases rx; exact SeqAt.EqAt.same _
    | bl b => cases rx; exact SeqAt.EqAt.none_bool b
    | int b => obtain ⟨t, rfl⟩ := rx; exact SeqAt.EqAt.none_int b t
    | str b => obtain ⟨t, rfl⟩ := rx; exact SeqAt.EqAt.none_str b t
    | _ => exact absurd (show false = true from fx) Bool.false_ne_true
  | bl a =>
    cases ry
    cases x with
    | non => cases rx; exact SeqAt.EqAt.bool_none a
    | bl b => cases rx; exact SeqAt.EqAt.bool_bool a b
    | int b => obtain ⟨t, rfl⟩ := rx; exact SeqAt.EqAt.bool_int a b t
    | str b => obtain ⟨t, rfl⟩ := rx; exact SeqAt.EqAt.bool_str a b t
    | _ => exact absurd (show false = true from fx) Bool.false_ne_true
  | int a =>
    obtain ⟨t', rfl⟩ := ry
    cases x with
    | non => cases rx; exact SeqAt.EqAt.int_none a t'
    | bl b => cases rx; exact SeqAt.EqAt.int_bool a t' b
    | int b => obtain ⟨t, rfl⟩ := rx; exact SeqAt.EqAt.int_int a t' b t
    | str b => obtain ⟨t, rfl⟩ := rx; exact SeqAt.EqAt.int_str a t' b t
    | _ => exact absurd (show false = true from fx) Bool.false_ne_true
  | str a =>
    obtain ⟨t', rfl⟩ := ry
    cases x with
    | non => cases rx; exact SeqAt.EqAt.str_none a t'
    | bl b => cases rx; exact SeqAt.EqAt.str_bool a t' b
    | int b => obtain ⟨t, rfl⟩ := rx; exact SeqAt.EqAt.str_int a t' b t
    | str b => obtain ⟨t, rfl⟩ := rx; exact SeqAt.EqAt.str_str a t' b t
    | _ => exact absurd (show false = true from fx) Bool.false_ne_true
  | _ => exact absurd (show false = true from fy) Bool.false_ne_true
/-- the items' answers, read off the values (a value's own answer does not lean on its token) -/
def eqU (x : V) (u : Value) : Bool := match u with
  | .none => eqV .non x
  | .bool b => eqV (.bl b) x
  | .int i _ => eqV (.int i) x
  | .str z _ => eqV (.str z) x
  | _ => false
theorem eqU_of {x y : V} {u : Value} (r : RelV y u) (f : flatV y = true) : eqU x u = eqV y x := by
  cases y with
  | non => cases r; rfl
  | bl b => cases r; rfl
  | int i => obtain ⟨t, rfl⟩ := r; rfl
  | str z => obtain ⟨t, rfl⟩ := r; rfl
  | _ => exact absurd (show false = true from f) Bool.false_ne_true
theorem any_eqU {x : V} : ∀ {xs : List V} {us : List Value}, Vals xs us → xs.all flatV = true → us.any (eqU x) = xs.any fun y => eqV y x
  | _, _, .nil, _ => rfl
  | y :: xs, u :: us, .cons r t, f => by
    rw [List.all_cons, Bool.and_eq_true] at f
    rw [List.any_cons, List.any_cons, eqU_of r f.1, any_eqU t f.2]
theorem mem_eqAt {A : Around} {s : Shared} {x : V} {v : Value} (rx : RelV x v) (fx : flatV x = true) : ∀ {xs : List V} {us : List Value}, Vals xs us → xs.all flatV = true → ∀ u ∈ us, SeqAt.EqAt A s u v (eqU x u)
  | _, _, .nil, _ => fun u hu => by cases hu
  | y :: xs, u :: us, .cons r t, f => fun u' hu => by
    rw [List.all_cons, Bool.and_eq_true] at f
    rcases List.mem_cons.mp hu with rfl | hu
    · rw [eqU_of r f.1]; exact eqAt_V r rx f.1 fx
    · exact mem_eqAt rx fx t f.2 u' hu
def inV (x : V) (xs : List V) : Bool := xs.any fun y => eqV y x
/-- x in a list or tuple of flat items -/
def rIn (K : PySem.W.Frag) (neg : Bool) : R2 := fun x y H Q => ∃ p xs, y = .ref p ∧ (SqL K H p xs ∨ SqT K H p xs) ∧ flatV x = true ∧ xs.all flatV = true ∧ Q (.bl (if neg then !inV x xs else inV x xs)) H
theorem op_in_seq : OpR X (compareOp .In) (rIn X.K false) := by
  intro pins s σ H x y v u Q I rx ry h
  obtain ⟨p, xs, rfl, hq, fx, fs, q⟩ := h
  cases ry
  rcases hq with hq | hq
  · obtain ⟨its, r, pl, hz⟩ := I.list hq
    refine SeqAt.in_listAt (eqU x) pl.isList (fun w hw => mem_eqAt rx fx r fs w (by simpa using hw)) ⟨.bl _, H, I, rfl, ?_⟩
    rw [show its.toArray.any (eqU x) = its.any (eqU x) by simp, any_eqU r fs]
    exact q
  · obtain ⟨its, r, pl, hz⟩ := I.tuple hq
    refine SeqAt.in_tupleAt (eqU x) pl (fun w hw => mem_eqAt rx fx r fs w (by simpa using hw)) ⟨.bl _, H, I, rfl, ?_⟩
    rw [show its.toArray.any (eqU x) = its.any (eqU x) by simp, any_eqU r fs]
    exact q
theorem op_notIn_seq : OpR X (compareOp .NotIn) (rIn X.K true) := by
  intro pins s σ H x y v u Q I rx ry h
  obtain ⟨p, xs, rfl, hq, fx, fs, q⟩ := h
  cases ry
  rcases hq with hq | hq
  · obtain ⟨its, r, pl, hz⟩ := I.list hq
    refine SeqAt.notIn_listAt (eqU x) pl.isList (fun w hw => mem_eqAt rx fx r fs w (by simpa using hw)) ⟨.bl _, H, I, rfl, ?_⟩
    rw [show its.toArray.any (eqU x) = its.any (eqU x) by simp, any_eqU r fs]
    exact q
  · obtain ⟨its, r, pl, hz⟩ := I.tuple hq
    refine SeqAt.notIn_tupleAt (eqU x) pl (fun w hw => mem_eqAt rx fx r fs w (by simpa using hw)) ⟨.bl _, H, I, rfl, ?_⟩
    rw [show its.toArray.any (eqU x) = its.any (eqU x) by simp, any_eqU r fs]
    exact q
theorem call_len_seq : CallR X (.builtin "len") (fun xs H Q => ∃ p ys, xs = [.ref p] ∧ (SqL X.K H p ys ∨ SqT X.K H p ys) ∧ Q (.int ys.length) H) := by
  intro pins s σ H xs us Q I r h
  obtain ⟨p, ys, rfl, hq, q⟩ := h
  obtain ⟨u, rfl, rx⟩ := vals1 r
  cases rx
  have hn := line63
  rcases hq with hq | hq
  · obtain ⟨its, r', pl, hz⟩ := I.list hq
    have hlen := r'.length
    exact Calls.call_len_list pl.isList (by simp only [List.size_toArray] <;> omega) ⟨.int ys.length, H, I.tok _, ⟨s.toks + 1, by rw [List.size_toArray, hlen]⟩, q⟩
  · obtain ⟨its, r', pl, hz⟩ := I.tuple hq
    have hlen := r'.length
    exact len_tuple pl (by simp only [List.size_toArray] <;> omega) ⟨.int ys.length, H, I.tok _, ⟨s.toks + 1, by rw [List.size_toArray, hlen]⟩, q⟩
theorem call_len_str : CallR X (.builtin "len") (fun xs H Q => ∃ z, xs = [.str z] ∧ z.length ≤ sizeLine ∧ Q (.int z.length) H) := by
  intro pins s σ H xs us Q I r h
  obtain ⟨z, rfl, hz, q⟩ := h
  obtain ⟨u, rfl, t, rfl⟩ := vals1 r
  have hn := line63
  exact len_str (by omega) ⟨.int z.length, H, I.tok _, ⟨_, rfl⟩, q⟩
theorem CallR.or {f : Value} {r r' : List V → Hp → VK → Prop} (h : CallR X f r) (h' : CallR X f r') : CallR X f (fun xs H Q => r xs H Q ∨ r' xs H Q) := by
  intro pins s σ H xs us Q I rs q
  rcases q with q | q
  · exact h pins s σ H xs us Q I rs q
  · exact h' pins s σ H xs us Q I rs q
theorem call_list_of : CallR X (.type "list") (fun xs H Q => ∃ p ys, xs = [.ref p] ∧ (SqL X.K H p ys ∨ SqT X.K H p ys) ∧ ∀ l, H l = none → Q (.ref l) (upd H l (.lst ys))) := by
  intro pins s σ H xs us Q I r h
  obtain ⟨p, ys, rfl, hq, q⟩ := h
  obtain ⟨u, rfl, rx⟩ := vals1 r
  cases rx
  have fin : ∀ (its : List Value), Vals ys its → ys.length ≤ sizeLine → ∀ (h' : Heap) (c' : Nat), (∀ b o', s.heap.get? b = some o' → h'.get? b = some o') →
      h'.get? s.heap.objs.size = some { cls := .type "list", dict := none, data := .seq its.toArray c', slots := #[] } → EP X pins σ Q (.ref s.heap.objs.size) { s with heap := h' } := fun its r' hz h' c' kp e =>
    ⟨.ref s.heap.objs.size, _, I.laid (t' := s.toks) kp (Nat.le_refl _) (show ObjOk X.prog X.w _ h' _ (.lst ys) from ⟨hz, its, c', r', e⟩), rfl, q _ (I.hok.fresh (Nat.le_refl _))⟩
  rcases hq with hq | hq
  · obtain ⟨its, r', pl, hz⟩ := I.list hq
    have hlen := r'.length
    obtain ⟨o, ho, hc, n, hd⟩ := pl.isList
    exact call_list_seq p (.inl rfl) ho hc hd (fun h' c' kp e => fin its r' hz h' c' kp e) (by simp only [List.size_toArray] <;> omega)
  · obtain ⟨its, r', pl, hz⟩ := I.tuple hq
    have hlen := r'.length
    obtain ⟨o, ho, hc, n, hd⟩ := pl
    exact call_list_seq p (.inr rfl) ho hc hd (fun h' c' kp e => fin its r' hz h' c' kp e) (by simp only [List.size_toArray] <;> omega)
theorem call_tuple_of : CallR X (.type "tuple") (fun xs H Q => ∃ p ys, xs = [.ref p] ∧ ((SqL X.K H p ys ∧ ∀ l, H l = none → Q (.ref l) (upd H l (.tup ys))) ∨ (SqT X.K H p ys ∧ Q (.ref p) H))) := by
  intro pins s σ H xs us Q I r h
  obtain ⟨p, ys, rfl, h⟩ := h
  obtain ⟨u, rfl, rx⟩ := vals1 r
  cases rx
  rcases h with ⟨hq, q⟩ | ⟨hq, q⟩
  · obtain ⟨its, r', pl, hz⟩ := I.list hq
    have hlen := r'.length
    refine call_tuple_list pl.isList (fun h' kp => ?_) (by simp only [List.size_toArray] <;> omega)
    have I1 : Inv X pins σ H { s with heap := h' } := I.kept (t' := s.toks) kp
    have I2 : Inv X pins σ (upd H h'.objs.size (.tup ys)) { s with heap := h'.push { cls := .type "tuple", data := .seq its.toArray } } :=
      I1.laid (t' := s.toks) (fun b o e => Heap.get?_push_of_some _ e) (Nat.le_refl _) (show ObjOk X.prog X.w _ _ _ (.tup ys) from ⟨hz, its, r', IsTup.new _ _⟩)
    exact ⟨.ref h'.objs.size, _, I2, rfl, q _ (I1.hok.fresh (Nat.le_refl _))⟩
  · obtain ⟨its, r', pl, hz⟩ := I.tuple hq
    exact call_tuple_same pl ⟨.ref p, H, I, rfl, q⟩

/-- the value is of that builtin type -/
def tyV (K : PySem.W.Frag) (T : String) (x : V) (H : Hp) : Prop := match x with
  | .str _ => T = "str"
  | .int _ => T = "int"
  | .ref p => (T = "list" ∧ ∃ xs, SqL K H p xs) ∨ (T = "tuple" ∧ ∃ o, K.lookup p = some o ∧ o.cls = .type "tuple" ∧ o.dict = none) ∨
      (T = "dict" ∧ ((∃ kvs, H p = some (.dK kvs)) ∨ ∃ kvs, H p = some (.dT kvs))) ∨ (T = "set" ∧ ∃ S n, H p = some (.set S n))
  | _ => False
theorem tyV_is {pins : List (Addr × Obj)} {σ : St} {H : Hp} {s : Shared} {T : String} {x : V} {v : Value} (I : Inv X pins σ H s) (r : RelV x v) (ty : tyV X.K T x H) :
    s.TypeIs v T ∧ ∀ a, v = .ref a → ∃ ob, s.heap.get? a = some ob ∧ ob.dict = none := by
  cases x with
  | str z =>
    obtain ⟨t, rfl⟩ := r
    cases (show T = "str" from ty)
    exact ⟨typeIs_str s z t, fun _ e => nomatch e⟩
  | int i =>
    obtain ⟨t, rfl⟩ := r
    cases (show T = "int" from ty)
    exact ⟨typeIs_int s i t, fun _ e => nomatch e⟩
  | ref p =>
    cases r
    rcases ty with ⟨rfl, xs, hq⟩ | ⟨rfl, o, hk, hc, hd⟩ | ⟨rfl, hk⟩ | ⟨rfl, S, n, hk⟩
    · obtain ⟨its, _, pl, _⟩ := I.list hq
      refine ⟨pl.isList.typeIs, fun a e => ?_⟩
      cases e
      obtain ⟨o, n, e, c, hd, _⟩ := pl
      exact ⟨o, e, hd⟩
    · refine ⟨⟨o, I.kIn p o hk, hc⟩, fun a e => ?_⟩
      cases e
      exact ⟨o, I.kIn _ o hk, hd⟩
    · have z : ∃ o, s.heap.get? p = some o ∧ o.ExactDict := by
        rcases hk with ⟨kvs, hk⟩ | ⟨kvs, hk⟩
        · obtain ⟨_, _, _, _, o, _, _, e, ex, _⟩ := I.hok p _ hk
          exact ⟨o, e, ex⟩
        · obtain ⟨_, _, _, _, o, _, _, e, ex, _⟩ := I.hok p _ hk
          exact ⟨o, e, ex⟩
      obtain ⟨o, e, ex⟩ := z
      refine ⟨⟨o, e, ex.1⟩, fun a e2 => ?_⟩
      cases e2
      exact ⟨o, e, ex.2.1⟩
    · obtain ⟨o, _, _, _, e, ex, _⟩ := I.hok p _ hk
      refine ⟨⟨o, e, ex.1⟩, fun a e2 => ?_⟩
      cases e2
      exact ⟨o, e, ex.2.1⟩
  | _ => exact False.elim ty
def tBM (K : PySem.W.Frag) (T : String) (r : V → List V → Hp → VK → Prop) (to : TE) (t : TA) : TE := fun σ H Q => to σ H fun x H1 => tyV K T x H1 ∧ t σ H1 fun xs H2 => r x xs H2 Q
variable {o e : Expr} {es : List Expr} {to : TE} {t : TA} {name : Str} {apos cpos : Pos} {T id : String} {r : V → List V → Hp → VK → Prop}
theorem pe_bm (pa : PlainAttrs T) (slot : Slot T name id) (hty : typeOf (.builtin id) = pure (.type "method_descriptor")) (hm : MtR X id r) (ho : PE X o to) (ha : PA X (e :: es) t)
    (hbase : attributeBase o name X.env (eval o X.env) = eval o X.env := by rfl)
    (hfew : ((backTo cpos (starEach (e :: es) X.env)).all (fun x => !x.1) && (backToKw cpos (keywordEach [] X.env)).all (fun x => x.1.isSome)
      && decide ((e :: es).length + ([] : List Keyword).length + (if ([] : List Keyword).isEmpty then 0 else 1) < 30)) = true := by rfl)
    (hline : (apos.endLine == cpos.line) = true := by rfl) (hs : starEach (e :: es) X.env = (false, eval e X.env) :: starEach es X.env := by rfl) (hplain : (backTo cpos (starEach es X.env)).any (·.1) = false := by rfl) :
    PE X (.Call (.Attribute o name apos) (e :: es) [] cpos) (tBM X.K T r to t) := by
  intro pins s σ H Q I h
  refine wpAny_Call_method_late hbase hfew hline rfl (thn (ho pins s σ H _ I h) fun v s1 ⟨x, H1, I1, r1, ty, q1⟩ => ?_)
  obtain ⟨h1, h2⟩ := tyV_is I1 r1 ty
  refine ⟨T, id, pa, slot, hty, h1, h2, ?_⟩
  have hA := ha cpos pins s1 σ H1 _ I1 q1
  rw [hs] at hA ⊢
  refine Calls.callWith_builtin (by show (false || (backTo cpos (starEach es X.env)).any (·.1)) = false; rw [hplain] <;> rfl) (Calls.evalArgs_plain ?_)
  exact thn hA fun us s2 ⟨vs, H2, I2, r2, q2⟩ => hm pins s2 σ H2 x vs v us Q I2 r1 r2 q2
end
end L2

namespace L2
open PySem PySem.Spec PyProof.Rows

def MtM (X : Cx) (id : String) (r : V → List V → Hp → VK → Prop) : Prop :=
  ∀ (pins : List (Addr × Obj)) (s : Shared) (σ : St) (H : Hp) (x : V) (xs : List V) (v : Value) (us : List Value) (Q : VK), Inv X pins σ H s → RelV x v → Vals xs us → r x xs H Q →
    wpAny (model X.prog X.w) X.A (call (.builtin id) (v :: us)) (EP X pins σ Q) X.xe s

theorem Vals.one : ∀ {x : V} {us : List Value}, Vals [x] us → ∃ u, us = [u] ∧ RelV x u
  | _, _, .cons r .nil => ⟨_, rfl, r⟩
theorem Vals.two : ∀ {x y : V} {us : List Value}, Vals [x, y] us → ∃ u v, us = [u, v] ∧ RelV x u ∧ RelV y v
  | _, _, _, .cons r (.cons q .nil) => ⟨_, _, rfl, r, q⟩
theorem Vals.eraseIdx : ∀ {xs : List V} {us : List Value} (i : Nat), Vals xs us → Vals (xs.eraseIdx i) (us.eraseIdx i)
  | _, _, _, .nil => .nil
  | _, _, 0, .cons _ t => t
  | _, _, i + 1, .cons r t => .cons r (Vals.eraseIdx i t)
theorem Vals.reverse {xs : List V} {us : List Value} (h : Vals xs us) : Vals xs.reverse us.reverse := by
  induction h with
  | nil => exact .nil
  | cons r t ih => rw [List.reverse_cons, List.reverse_cons]; exact Vals.append ih (.cons r .nil)
theorem Vals.rep {xs : List V} {us : List Value} (h : Vals xs us) : ∀ k : Nat, Vals (List.replicate k xs).flatten (List.replicate k us).flatten
  | 0 => .nil
  | k + 1 => by
    rw [List.replicate_succ, List.replicate_succ, List.flatten_cons, List.flatten_cons]
    exact Vals.append h (Vals.rep h k)
theorem len_erase {α : Type} : ∀ (l : List α) (i : Nat), (l.eraseIdx i).length ≤ l.length
  | [], _ => Nat.le_refl _
  | _ :: _, 0 => Nat.le_succ _
  | _ :: r, i + 1 => Nat.succ_le_succ (len_erase r i)
theorem foldl_rep (its : List Value) : ∀ (k : Nat) (acc : List Value),
    List.foldl (fun x1 x2 => x1 ++ x2) acc.toArray (List.replicate k its.toArray) = (acc ++ (List.replicate k its).flatten).toArray
  | 0, acc => by simp
  | k + 1, acc => by
    have e : acc.toArray ++ its.toArray = (acc ++ its).toArray := by simp
    have e2 : (acc ++ its) ++ (List.replicate k its).flatten = acc ++ (List.replicate (k + 1) its).flatten := by
      rw [List.replicate_succ, List.flatten_cons, List.append_assoc]
    rw [← e2, ← foldl_rep its k (acc ++ its), ← e, List.replicate_succ, List.foldl_cons]

section
variable {X : Cx} {pins : List (Addr × Obj)} {σ : St} {H : Hp} {s : Shared} {l b : Addr} {xs ys zs : List V}

theorem Inv.lset {its its' : List Value} {n : Nat} {f : Array Value → Array Value} {t' : Nat} (I : Inv X pins σ H s) (hH : H l = some (.lst xs))
    (e : s.heap.get? l = some { cls := .type "list", data := .seq its.toArray n }) (hf : f its.toArray = its'.toArray) (hv : Vals ys its') (hz : ys.length ≤ sizeLine) :
    Inv X pins σ (upd H l (.lst ys)) { s with heap := s.heap.update l (Obj.mapSeq f), toks := t' } := by
  have q := PySem.IsL.update e f
  rw [hf] at q
  refine I.write (x := l) (e := l) (by rw [hH]; exact trivial) (.inl rfl) (fun b' u hb hu => (Heap.get?_update_other s.heap (Obj.mapSeq f) (Ne.symm hb)).trans hu) ⟨_, q⟩ ?_
  exact ⟨hz, its', _, hv, q⟩
theorem Inv.lnew {its : List Value} {t' : Nat} (I : Inv X pins σ H s) (hv : Vals ys its) (hz : ys.length ≤ sizeLine) :
    Inv X pins σ (upd H s.heap.objs.size (.lst ys)) { s with heap := s.heap.push { cls := .type "list", data := .seq its.toArray }, toks := t' } :=
  I.laid (fun _ _ q => Heap.get?_push_of_some _ q) (Nat.le_refl _) ⟨hz, its, 0, hv, Heap.get?_push_size _ rfl⟩
theorem Inv.fresh (I : Inv X pins σ H s) : H s.heap.objs.size = none := I.hok.fresh (Nat.le_refl _)
theorem Inv.lstM (I : Inv X pins σ H s) (hH : H l = some (.lst xs)) : xs.length ≤ sizeLine ∧ ∃ (its : List Value) (n : Nat), Vals xs its ∧ xs.length = its.length ∧ s.heap.get? l = some { cls := .type "list", data := .seq its.toArray n } := by
  obtain ⟨z, its, n, r, e⟩ := I.hok l _ hH
  exact ⟨z, its, n, r, r.length, e⟩

theorem notLongL {n : Nat} (h : n ≤ sizeLine) : Builtin.List.listTooLong n = false := by
  unfold Builtin.List.listTooLong
  exact decide_eq_false (by omega)
end

section
variable {X : Cx}

def rAppend : V → List V → Hp → VK → Prop := fun x vs H Q => ∃ l xs y, x = .ref l ∧ vs = [y] ∧ H l = some (.lst xs) ∧ xs.length < sizeLine ∧ Q .non (upd H l (.lst (xs ++ [y])))
theorem mt_append : MtM X "list.append" rAppend := by
  intro pins s σ H x vs v us Q I rx rv h
  obtain ⟨l, xs, y, rfl, rfl, hH, hz, q⟩ := h
  cases rx
  obtain ⟨u, rfl, ru⟩ := rv.one
  obtain ⟨z, its, n, r, hl, e⟩ := I.lstM hH
  refine call_meets F.slot_list_append ⟨_, e, rfl⟩ F.entry_list_append (F.args_list_append_2 _ _) (PySem.list_append l its.toArray n u (by rw [List.size_toArray]; omega)) ⟨e, ?_⟩
  refine ⟨.non, _, I.lset (its' := its ++ [u]) hH e (by simp) (r.append (.cons ru .nil)) ?_, rfl, q⟩
  rw [List.length_append, List.length_singleton]
  omega

def rPopAt : V → List V → Hp → VK → Prop := fun x vs H Q => ∃ l xs i k y, x = .ref l ∧ vs = [.int i] ∧ H l = some (.lst xs) ∧ -(2 ^ 63) ≤ i ∧ i < 2 ^ 63 ∧ seqIndex? i xs.length = some k ∧ xs[k]? = some y ∧ Q y (upd H l (.lst (xs.eraseIdx k)))
theorem mt_popAt : MtM X "list.pop" rPopAt := by
  intro pins s σ H x vs v us Q I rx rv h
  obtain ⟨l, xs, i, k, y, rfl, rfl, hH, h1, h2, hk, hy, q⟩ := h
  cases rx
  obtain ⟨u, rfl, ru⟩ := rv.one
  obtain ⟨t, rfl⟩ := ru
  obtain ⟨z, its, n, r, hl, e⟩ := I.lstM hH
  obtain ⟨w, hw, rw'⟩ := r.get hy
  refine call_meets F.slot_list_pop ⟨_, e, rfl⟩ F.entry_list_pop (F.args_list_pop_2 _ _)
    (MeetsSeq.list_pop_at l its.toArray n i t k w (fitsIndex_both h1 h2) (by rw [List.size_toArray, ← hl]; exact hk) (by rw [← Array.getElem?_toList]; exact hw) (by rw [List.size_toArray]; omega)) ⟨e, ?_⟩
  refine ⟨y, _, I.lset (its' := its.eraseIdx k) hH e ?_ (r.eraseIdx k) ?_, rw', q⟩
  · show its.toArray.eraseIdxIfInBounds k = (its.eraseIdx k).toArray
    rw [List.eraseIdxIfInBounds_toArray]
  · have := len_erase xs k
    omega

def rCat : R2 := fun x y H Q => ∃ l b xs zs, x = .ref l ∧ y = .ref b ∧ H l = some (.lst xs) ∧ H b = some (.lst zs) ∧ xs.length + zs.length ≤ sizeLine ∧ ∀ p, H p = none → Q (.ref p) (upd H p (.lst (xs ++ zs)))
theorem op_cat : OpR X (binaryOp .Add) rCat := by
  intro pins s σ H x y v u Q I rx ry h
  obtain ⟨l, b, xs, zs, rfl, rfl, hH, hB, hz, q⟩ := h
  cases rx
  cases ry
  obtain ⟨z, its, n, r, hl, e⟩ := I.lstM hH
  obtain ⟨z2, its2, n2, r2, hl2, e2⟩ := I.lstM hB
  refine PySem.P.add_list e e2 ?_ (by rw [List.size_toArray, List.size_toArray]; omega)
  have ea : its.toArray ++ its2.toArray = (its ++ its2).toArray := by simp
  rw [ea]
  exact ⟨.ref _, _, I.lnew (t' := s.toks) (r.append r2) (by rw [List.length_append]; omega), rfl, q _ I.fresh⟩
/-- a list times an int (a negative one is nothing) -/
def rRep : R2 := fun x y H Q => ∃ l k xs, x = .ref l ∧ y = .int k ∧ H l = some (.lst xs) ∧ -(2 ^ 63) ≤ k ∧ k < 2 ^ 63 ∧ xs.length * k.toNat ≤ sizeLine ∧
  ∀ p, H p = none → Q (.ref p) (upd H p (.lst (List.replicate k.toNat xs).flatten))
theorem len_rep {α : Type} (xs : List α) (k : Nat) : (List.replicate k xs).flatten.length = k * xs.length := by
  induction k with
  | zero => simp
  | succ k ih => rw [List.replicate_succ, List.flatten_cons, List.length_append, ih, Nat.succ_mul, Nat.add_comm]
theorem op_rep : OpR X (binaryOp .Mult) rRep := by
  intro pins s σ H x y v u Q I rx ry h
  obtain ⟨l, k, xs, rfl, rfl, hH, h1, h2, hz, q⟩ := h
  cases rx
  obtain ⟨t, rfl⟩ := ry
  obtain ⟨z, its, n, r, hl, e⟩ := I.lstM hH
  have hlen : its.toArray.size * k.toNat ≤ sizeLine := by rw [List.size_toArray, ← hl]; exact hz
  have hcap : ¬ its.toArray.size * k.toNat > (2 ^ 63 - 1) / 8 := by
    have : (sizeLine : Nat) ≤ (2 ^ 63 - 1) / 8 := by decide
    omega
  have hfit : ¬ (!Builtin.List.listFitsIndex k) = true := by
    rw [fitsIndex_both h1 h2]
    exact Bool.false_ne_true
  have hlong : ¬ Builtin.List.listTooLong (its.toArray.size * k.toNat) = true := by
    rw [notLongL hlen]
    exact Bool.false_ne_true
  have hnew : List.foldl (fun x1 x2 => x1 ++ x2) #[] (List.replicate (if its.toArray.isEmpty = true then 0 else k.toNat) its.toArray) = (List.replicate k.toNat its).flatten.toArray := by
    have f0 : ∀ m : Nat, List.foldl (fun x1 x2 => x1 ++ x2) #[] (List.replicate m its.toArray) = (List.replicate m its).flatten.toArray := fun m => by
      have := foldl_rep its m []
      rw [List.nil_append] at this
      exact this
    rw [f0]
    cases its with
    | nil => simp
    | cons a r' => rw [if_neg (by simp)]
  refine wpAny_binaryOp_repeat_ref (T := "list") (U := "int") (by decide) ⟨_, e, rfl⟩ (fun s' => typeIs_int s' k t) noFill_list_mul F.fills_int_mul F.slot_int_rmul repeat_list F.slot_int_index.lookup
    (call_meets F.slot_int_rmul (typeIs_int s k t) F.entry_int_rmul (F.args_int_rmul_2 _ _) (int___rmul___int_list k t l its.toArray n)
      ⟨e, rfl, ⟨_, e, rfl⟩, call_meets F.slot_list_mul ⟨_, e, rfl⟩ F.entry_list_mul (F.args_list_mul_2 _ _) (AutoListH.list___mul___list_int_3 l its.toArray n k t hfit hcap hlong) ⟨e, ?_⟩⟩)
  rw [hnew]
  exact ⟨.ref _, _, I.lnew (t' := s.toks) (r.rep k.toNat) (by rw [len_rep, Nat.mul_comm]; exact hz), rfl, q _ I.fresh⟩

end

section
variable {prog : Program} {w : World} {A : Around} {E : Value → Shared → Prop} {s : Shared}
end

section
variable {X : Cx}
end
end L2

namespace L2
open PySem PySem.Spec PyProof.Rows

theorem Vals.ints : ∀ {ns : List Int} {us : List Value}, Vals (ns.map V.int) us → IntsAre us ns
  | [], us, h => by
    rw [List.map_nil] at h
    cases h
    exact IntsAre.nil
  | n :: ns, us, h => by
    rw [List.map_cons] at h
    cases h with
    | cons r t =>
      obtain ⟨k, rfl⟩ := r
      exact IntsAre.cons n k (Vals.ints t)
theorem Vals.bls : ∀ {bs : List Bool} {us : List Value}, Vals (bs.map V.bl) us → us = bs.map Value.bool
  | [], us, h => by
    rw [List.map_nil] at h
    cases h
    rfl
  | b :: bs, us, h => by
    rw [List.map_cons] at h
    cases h with
    | cons r t =>
      cases r
      rw [Vals.bls t, List.map_cons]
theorem Vals.ref1 {a : Addr} {us : List Value} (r : Vals [V.ref a] us) : us = [Value.ref a] := by
  cases r with
  | cons r t =>
    cases t
    cases r
    rfl
section
variable {prog : Program} {w : World} {A : Around} {E : Value → Shared → Prop} {s : Shared} {l : Addr} {its : List Value} {ns : List Int} {Q : Value → Shared → Prop}
theorem sum_raw (hh : A.handled = none) (hl : s.heap.IsList l its.toArray) (hi : IntsAre its ns)
    (h : ∀ h' tk t', (∀ b o, s.heap.get? b = some o → h'.get? b = some o) → Q (.int ns.sum t') { s with heap := h', toks := tk }) : wpAny (model prog w) A (call (.builtin "sum") [.ref l]) Q E s := by
  obtain ⟨xs, e⟩ := hi.allInts.items
  have hn : numsOf (intItems xs).toList = ns := by rw [← e]; exact hi.numsOf
  rw [nums_intItems] at hn
  rw [e] at hl
  refine PySem.sum_intListG hh hl fun h' tk t' hk => ?_
  have := h h' tk t' hk
  rw [preSum_eq, List.take_of_length_le (by simp), hn]; exact this
theorem max_raw (hh : A.handled = none) (hl : s.heap.IsList l its.toArray) (hi : IntsAre its ns) (hne : 0 < ns.length)
    (h : ∀ h' tk M t', (∀ b o, s.heap.get? b = some o → h'.get? b = some o) → M ∈ ns → (∀ a, a ∈ ns → a ≤ M) → Q (.int M t') { s with heap := h', toks := tk }) : wpAny (model prog w) A (call (.builtin "max") [.ref l]) Q E s := by
  obtain ⟨xs, e⟩ := hi.allInts.items
  have hn : numsOf (intItems xs).toList = ns := by rw [← e]; exact hi.numsOf
  rw [nums_intItems] at hn
  subst hn
  rw [e] at hl
  have hsz : 0 < xs.size := by simpa using hne
  refine PySem.max_intList hh hl hsz fun v h' tk hv hk => ?_
  obtain ⟨t, rfl⟩ := intItems_at hv
  obtain ⟨h1, h2⟩ := argBest_gt (numAt xs) (xs.size - 1)
  refine h h' tk _ t hk ?_ fun a ha => ?_
  · rw [numAt_eq]; exact PySem.getD_mem (by rw [List.length_map, Array.length_toList]; omega)
  · obtain ⟨j, hj, rfl⟩ := mem_getD ha
    rw [List.length_map, Array.length_toList] at hj
    rw [← numAt_eq]; exact h2 j (by omega)
theorem min_raw (hh : A.handled = none) (hl : s.heap.IsList l its.toArray) (hi : IntsAre its ns) (hne : 0 < ns.length)
    (h : ∀ h' tk M t', (∀ b o, s.heap.get? b = some o → h'.get? b = some o) → M ∈ ns → (∀ a, a ∈ ns → M ≤ a) → Q (.int M t') { s with heap := h', toks := tk }) : wpAny (model prog w) A (call (.builtin "min") [.ref l]) Q E s := by
  obtain ⟨xs, e⟩ := hi.allInts.items
  have hn : numsOf (intItems xs).toList = ns := by rw [← e]; exact hi.numsOf
  rw [nums_intItems] at hn
  subst hn
  rw [e] at hl
  have hsz : 0 < xs.size := by simpa using hne
  refine PySem.min_intList hh hl hsz fun v h' tk hv hk => ?_
  obtain ⟨t, rfl⟩ := intItems_at hv
  obtain ⟨h1, h2⟩ := argBest_lt (numAt xs) (xs.size - 1)
  refine h h' tk _ t hk ?_ fun a ha => ?_
  · rw [numAt_eq]; exact PySem.getD_mem (by rw [List.length_map, Array.length_toList]; omega)
  · obtain ⟨j, hj, rfl⟩ := mem_getD ha
    rw [List.length_map, Array.length_toList] at hj
    rw [← numAt_eq]; exact h2 j (by omega)
end

section
variable {X : Cx}
/-- sum(xs) of a list of ints -/
def rSum (K : PySem.W.Frag) : List V → Hp → VK → Prop := fun vs H Q => ∃ (a : Addr) (ns : List Int), vs = [V.ref a] ∧ SqL K H a (ns.map V.int) ∧ Q (.int ns.sum) H
/-- max(xs), min(xs) of a list of ints -/
def rMax (K : PySem.W.Frag) : List V → Hp → VK → Prop := fun vs H Q => ∃ (a : Addr) (ns : List Int), vs = [V.ref a] ∧ SqL K H a (ns.map V.int) ∧ 0 < ns.length ∧ ∀ m, m ∈ ns → (∀ y, y ∈ ns → y ≤ m) → Q (.int m) H
def rMin (K : PySem.W.Frag) : List V → Hp → VK → Prop := fun vs H Q => ∃ (a : Addr) (ns : List Int), vs = [V.ref a] ∧ SqL K H a (ns.map V.int) ∧ 0 < ns.length ∧ ∀ m, m ∈ ns → (∀ y, y ∈ ns → m ≤ y) → Q (.int m) H
theorem cr_sum (hc : X.calm = true) : CallR X (.builtin "sum") (rSum X.K) := by
  intro pins s σ H vs us Q I r h
  obtain ⟨a, ns, rfl, hs, q⟩ := h
  obtain ⟨its, rv, hl, _⟩ := I.list hs
  rw [Vals.ref1 r]
  exact sum_raw (I.ok.hd hc) hl.isList rv.ints fun h' tk t' hk => ⟨.int _, H, I.kept hk, ⟨_, rfl⟩, q⟩
theorem cr_max (hc : X.calm = true) : CallR X (.builtin "max") (rMax X.K) := by
  intro pins s σ H vs us Q I r h
  obtain ⟨a, ns, rfl, hs, hne, q⟩ := h
  obtain ⟨its, rv, hl, _⟩ := I.list hs
  rw [Vals.ref1 r]
  exact max_raw (I.ok.hd hc) hl.isList rv.ints hne fun h' tk m t' hk h1 h2 => ⟨.int _, H, I.kept hk, ⟨_, rfl⟩, q m h1 h2⟩
theorem cr_min (hc : X.calm = true) : CallR X (.builtin "min") (rMin X.K) := by
  intro pins s σ H vs us Q I r h
  obtain ⟨a, ns, rfl, hs, hne, q⟩ := h
  obtain ⟨its, rv, hl, _⟩ := I.list hs
  rw [Vals.ref1 r]
  exact min_raw (I.ok.hd hc) hl.isList rv.ints hne fun h' tk m t' hk h1 h2 => ⟨.int _, H, I.kept hk, ⟨_, rfl⟩, q m h1 h2⟩

end

section
variable {X : Cx}
end

section
variable {X : Cx}
end

theorem iter_any {prog : Program} {w : World} {A : Around} {E : Value → Shared → Prop} {s : Shared} {l : Addr} {items : Array Value} {Q : Value → Shared → Prop} (hl : s.heap.IsList l items)
    (h : ∀ s₂ : Shared, s₂ = { s with heap := s.heap.push { cls := .type "list_iterator", data := .fields #[.ref l, .int 0 0] } } →
      (s₂.heap.IsListIter s.heap.objs.size l 0 ∧ s₂.heap.IsList l items) → l ≠ s.heap.objs.size → Q (.ref s.heap.objs.size) s₂) : wpAny (model prog w) A (pyIter (.ref l)) Q E s := by
  have hlt : l < s.heap.objs.size := by obtain ⟨_, e, _⟩ := hl; exact Heap.lt_size e
  exact wpAny_pyIter_list hl (h _ rfl ⟨⟨_, Heap.get?_push_size _ rfl, rfl, rfl⟩, hl.push _⟩ (Nat.ne_of_lt hlt))
theorem truth_bools {prog : Program} {w : World} {A : Around} {bs : List Bool} {its : List Value} (e : its = bs.map Value.bool) :
    TruthOf prog w A (fun i v => its.toArray[i]? = some v) (fun i => bs.getD i false) := fun i v s Q E hv hq => by
  have hv' : its[i]? = some v := by simpa using hv
  rw [e, List.getElem?_map] at hv'
  obtain ⟨b, hb, rfl⟩ := Option.map_eq_some_iff.mp hv'
  have hg : bs.getD i false = b := by rw [List.getD_eq_getElem?_getD, hb] <;> rfl
  have hq' : Q (bs.getD i false) s := hq
  rw [hg] at hq'
  exact wpAny_truthy_bool hq'
theorem all_range : ∀ bs : List Bool, (List.range bs.length).all (fun i => bs.getD i false) = bs.all id
  | [] => rfl
  | b :: bs => by
    rw [List.length_cons, List.range_succ_eq_map, List.all_cons, List.all_map, List.all_cons, ← all_range bs]
    all_goals rfl
section
variable {X : Cx}
def rAll (K : PySem.W.Frag) : List V → Hp → VK → Prop := fun vs H Q => ∃ (a : Addr) (bs : List Bool), vs = [V.ref a] ∧ SqL K H a (bs.map V.bl) ∧ Q (.bl (bs.all id)) H
theorem cr_all (hc : X.calm = true) : CallR X (.builtin "all") (rAll X.K) := by
  intro pins s σ H vs us Q I r h
  obtain ⟨a, bs, rfl, hs, q⟩ := h
  obtain ⟨its, rv, hl, _⟩ := I.list hs
  rw [Vals.ref1 r]
  have hb := rv.bls
  refine call_all_walk (iter_any hl.isList fun s₂ e2 st hne => ?_)
  subst e2
  refine ⟨_, _, _, _, _, _, _, rfl, Walks.list (A := X.A.in1) (I.ok.hd hc) _ a hne its.toArray, st, truth_bools hb, fun h' tk hk => ?_⟩
  refine ⟨.bl _, H, I.kept fun b o eo => hk b o (fun hmem => ?_) (Heap.get?_push_of_some _ eo), ?_, q⟩
  · rcases List.mem_cons.mp hmem with e1 | hmem
    · exact absurd (e1 ▸ Heap.lt_size eo) (Nat.lt_irrefl _)
    · cases hmem
  · show Value.bool _ = Value.bool _
    rw [← all_range, hb, List.size_toArray, List.length_map]
end

mutual
inductive Dp (K : PySem.W.Frag) (H : Hp) : V → PyData → Prop
  | non : Dp K H .non .none
  | bl (b : Bool) : Dp K H (.bl b) (.bool b)
  | int (i : Int) : Dp K H (.int i) (.int i)
  | str (x : Str) : Dp K H (.str x) (.str x)
  | lst {a : Addr} {xs : List V} {ds : List PyData} : SqL K H a xs → DpAll K H xs ds → Dp K H (.ref a) (.list ds)
  | tup {a : Addr} {xs : List V} {ds : List PyData} : SqT K H a xs → DpAll K H xs ds → Dp K H (.ref a) (.tuple ds)
inductive DpAll (K : PySem.W.Frag) (H : Hp) : List V → List PyData → Prop
  | nil : DpAll K H [] []
  | cons {v : V} {vs : List V} {d : PyData} {ds : List PyData} : Dp K H v d → DpAll K H vs ds → DpAll K H (v :: vs) (d :: ds)
end
section
variable {X : Cx} {pins : List (Addr × Obj)} {σ : St} {H : Hp} {s : Shared}
mutual
theorem Dp.reads (I : Inv X pins σ H s) : ∀ (d : PyData) (v : V) (u : Value), Dp X.K H v d → RelV v u → ∃ as, Reads s.heap u d as
  | .none, _, _, h, r => by
    cases h
    cases r
    exact ⟨_, Reads.none⟩
  | .bool b, _, _, h, r => by
    cases h
    cases r
    exact ⟨_, Reads.bool b⟩
  | .int i, _, _, h, r => by
    cases h
    obtain ⟨t, rfl⟩ := r
    exact ⟨_, Reads.int i t⟩
  | .str x, _, _, h, r => by
    cases h
    obtain ⟨t, rfl⟩ := r
    exact ⟨_, Reads.str x t⟩
  | .list ds, _, _, h, r => by
    cases h with
    | lst hs ha =>
      cases r
      obtain ⟨its, rv, ⟨o, n, ho, hc, _, hd⟩, _⟩ := I.list hs
      obtain ⟨as, hr⟩ := Dp.readsAll I ds _ its ha rv
      exact ⟨_, Reads.list ho hc hd hr⟩
  | .tuple ds, _, _, h, r => by
    cases h with
    | tup hs ha =>
      cases r
      obtain ⟨its, rv, ⟨o, ho, hc, n, hd⟩, _⟩ := I.tuple hs
      obtain ⟨as, hr⟩ := Dp.readsAll I ds _ its ha rv
      exact ⟨_, Reads.tuple ho hc hd hr⟩
  | .dict _, _, _, h, _ => by cases h
theorem Dp.readsAll (I : Inv X pins σ H s) : ∀ (ds : List PyData) (vs : List V) (us : List Value), DpAll X.K H vs ds → Vals vs us → ∃ as, ReadsAll s.heap us ds as
  | [], _, _, h, r => by
    cases h
    cases r
    exact ⟨_, ReadsAll.nil⟩
  | d :: ds, _, _, h, r => by
    cases h with
    | cons h1 h2 =>
      cases r with
      | cons r1 r2 =>
        obtain ⟨as, q1⟩ := Dp.reads I d _ _ h1 r1
        obtain ⟨bs, q2⟩ := Dp.readsAll I ds _ _ h2 r2
        exact ⟨_, ReadsAll.cons q1 q2⟩
end
end
section
variable {X : Cx}
def rEqD (K : PySem.W.Frag) : R2 := fun x y H Q => ∃ d e, Dp K H x d ∧ Dp K H y e ∧ SeqAt.shaped d = true ∧ SeqAt.shaped e = true ∧ Q (.bl (PyData.eqv d e)) H
def rNeD (K : PySem.W.Frag) : R2 := fun x y H Q => ∃ d e, Dp K H x d ∧ Dp K H y e ∧ SeqAt.shaped d = true ∧ SeqAt.shaped e = true ∧ Q (.bl (!PyData.eqv d e)) H
theorem op_eqD (hu : X.A.units + 64 < cLine) : OpR X (compareOp .Eq) (rEqD X.K) := by
  intro pins s σ H x y v u Q I rx ry h
  obtain ⟨d, e, hd, he, sd, se, q⟩ := h
  obtain ⟨as, r1⟩ := Dp.reads I d x v hd rx
  obtain ⟨bs, r2⟩ := Dp.reads I e y u he ry
  exact SeqAt.compareEq_shaped r1 r2 sd se hu ⟨.bl _, H, I, rfl, q⟩
theorem op_neD (hu : X.A.units + 64 < cLine) : OpR X (compareOp .NotEq) (rNeD X.K) := by
  intro pins s σ H x y v u Q I rx ry h
  obtain ⟨d, e, hd, he, sd, se, q⟩ := h
  obtain ⟨as, r1⟩ := Dp.reads I d x v hd rx
  obtain ⟨bs, r2⟩ := Dp.reads I e y u he ry
  exact SeqAt.compareNe_shaped r1 r2 sd se hu ⟨.bl _, H, I, rfl, q⟩
end
end L2

namespace L2
open PySem PySem.Spec PyProof.Rows
abbrev CellAt (h : Heap) (c : Addr) (v : Option Value) : Prop := h.IsCell c v
def relS (scope sc : Scope) : Scope :=
  { scope with names := scope.names.map fun (n, k) => if (k == .free && sc.kind == .function && sc.names.lookup n == some .cell) then (n, .cell) else (n, k) }

def cloFrom (cells : List (Str × Addr)) : List (Str × NameKind) → List (Str × Addr) → List (Str × Addr)
  | [], acc => acc
  | (n, k) :: r, acc => if k == .free then cloFrom cells r ((n, (cells.lookup n).getD 0) :: acc) else cloFrom cells r acc

theorem closure_loop (env : Env) (f : Str × NameKind → List (Str × Addr) → Sem (ForInStep (List (Str × Addr))))
    (hf : ∀ n k c, f (n, k) c = if k == .free then (do let a ← cellOf env n; pure (.yield ((n, a) :: c))) else pure (.yield c)) :
    ∀ (names : List (Str × NameKind)) (acc : List (Str × Addr)), (∀ y ∈ names, y.2 = .free → ∃ c, env.cells.lookup y.1 = some c) → forIn names acc f = pure (cloFrom env.cells names acc)
  | [], acc, _ => by rw [List.forIn_nil]; rfl
  | (n, k) :: r, acc, h => by
    rw [List.forIn_cons, hf]
    have ih := fun acc => closure_loop env f hf r acc fun y hy => h y (List.mem_cons_of_mem _ hy)
    unfold cloFrom
    by_cases hk : (k == NameKind.free) = true
    · rw [if_pos hk, if_pos hk]
      obtain ⟨c, hc⟩ := h (n, k) List.mem_cons_self (by simpa using hk)
      have e : cellOf env n = pure c := by unfold cellOf; rw [hc]
      rw [e]
      have e2 : (env.cells.lookup n).getD 0 = c := by rw [hc]; rfl
      rw [e2]
      exact ih _
    · rw [if_neg hk, if_neg hk]
      exact ih _
theorem closure_ok {scope : Scope} {env : Env} (h : ∀ y ∈ scope.names, y.2 = .free → ∃ c, env.cells.lookup y.1 = some c) : closureFor scope env = pure (cloFrom env.cells scope.names []) := by
  simp only [closureFor]
  rw [closure_loop env _ (fun n k c => rfl) scope.names [] h]
  rfl

theorem mem_lookup {α : Type} : ∀ {l : List (Str × α)} {n : Str} {c : α}, (n, c) ∈ l → ∃ c', l.lookup n = some c'
  | (k, v) :: r, n, c, h => by
    rw [List.lookup_cons]
    cases hb : n == k with
    | true => exact ⟨_, rfl⟩
    | false =>
      rcases List.mem_cons.mp h with e | h
      · cases e; simp at hb
      · exact mem_lookup h

theorem cloFrom_mem {cells : List (Str × Addr)} : ∀ {names : List (Str × NameKind)} {acc : List (Str × Addr)} {n : Str} {c : Addr}, (n, c) ∈ cloFrom cells names acc → (n, c) ∈ acc ∨ ((n, .free) ∈ names ∧ c = (cells.lookup n).getD 0)
  | [], _, _, _, h => .inl h
  | (m, k) :: r, acc, n, c, h => by
    unfold cloFrom at h
    split at h
    · rename_i hk
      have hk : k = .free := by simpa using hk
      rcases cloFrom_mem h with h | ⟨h1, h2⟩
      · rcases List.mem_cons.mp h with e | h
        · cases e; exact .inr ⟨hk ▸ List.mem_cons_self, rfl⟩
        · exact .inl h
      · exact .inr ⟨List.mem_cons_of_mem _ h1, h2⟩
    · rcases cloFrom_mem h with h | ⟨h1, h2⟩
      · exact .inl h
      · exact .inr ⟨List.mem_cons_of_mem _ h1, h2⟩
theorem cloFrom_acc {cells : List (Str × Addr)} : ∀ {names : List (Str × NameKind)} {acc : List (Str × Addr)} {p : Str × Addr}, p ∈ acc → p ∈ cloFrom cells names acc
  | [], _, _, h => h
  | (m, k) :: r, acc, p, h => by
    unfold cloFrom
    split
    · exact cloFrom_acc (List.mem_cons_of_mem _ h)
    · exact cloFrom_acc h
theorem cloFrom_has {cells : List (Str × Addr)} : ∀ {names : List (Str × NameKind)} {acc : List (Str × Addr)} {n : Str}, (n, .free) ∈ names → (n, (cells.lookup n).getD 0) ∈ cloFrom cells names acc
  | (m, k) :: r, acc, n, h => by
    unfold cloFrom
    rcases List.mem_cons.mp h with e | h
    · cases e
      exact cloFrom_acc List.mem_cons_self
    · split
      · exact cloFrom_has h
      · exact cloFrom_has h

theorem cells_mem : ∀ {names : List (Str × NameKind)} {h : Heap} {acc : List (Str × Addr)} {x : Str} {c : Addr}, (x, c) ∈ cellsFrom h.objs.size names acc →
    (x, c) ∈ acc ∨ ((x, .cell) ∈ names ∧ h.objs.size ≤ c ∧ CellAt (pushCells h names) c none)
  | [], _, _, _, _, h => .inl h
  | (n, k) :: r, h, acc, x, c, hm => by
    unfold cellsFrom at hm
    unfold pushCells
    split at hm
    · rename_i hk
      rw [if_pos hk]
      have hk : k = .cell := by simpa using hk
      rw [← Heap.size_push h { cls := .type "cell", data := .cell none }] at hm
      rcases cells_mem hm with hm | ⟨h1, h2, h3⟩
      · rcases List.mem_cons.mp hm with e | hm
        · cases e
          exact .inr ⟨hk ▸ List.mem_cons_self, Nat.le_refl _, _, pushCells_keeps r _ _ _ (Heap.get?_push_size _ rfl), rfl⟩
        · exact .inl hm
      · rw [Heap.size_push] at h2
        exact .inr ⟨List.mem_cons_of_mem _ h1, Nat.le_of_succ_le h2, h3⟩
    · rename_i hk
      rw [if_neg hk]
      rcases cells_mem hm with hm | ⟨h1, h2, h3⟩
      · exact .inl hm
      · exact .inr ⟨List.mem_cons_of_mem _ h1, h2, h3⟩
theorem cells_acc : ∀ {names : List (Str × NameKind)} {n : Nat} {acc : List (Str × Addr)} {p : Str × Addr}, p ∈ acc → p ∈ cellsFrom n names acc
  | [], _, _, _, h => h
  | (m, k) :: r, n, acc, p, h => by
    unfold cellsFrom
    split
    · exact cells_acc (List.mem_cons_of_mem _ h)
    · exact cells_acc h
theorem cells_has : ∀ {names : List (Str × NameKind)} {n : Nat} {acc : List (Str × Addr)} {x : Str}, (x, .cell) ∈ names → ∃ c, (x, c) ∈ cellsFrom n names acc
  | (m, k) :: r, n, acc, x, h => by
    unfold cellsFrom
    rcases List.mem_cons.mp h with e | h
    · cases e
      exact ⟨n, cells_acc List.mem_cons_self⟩
    · split
      · exact cells_has h
      · exact cells_has h
theorem cells_inj : ∀ {names : List (Str × NameKind)} {h : Heap} {acc : List (Str × Addr)} {x y : Str} {c : Addr}, (∀ p ∈ acc, p.2 < h.objs.size) → (∀ x y c, (x, c) ∈ acc → (y, c) ∈ acc → x = y) →
    (x, c) ∈ cellsFrom h.objs.size names acc → (y, c) ∈ cellsFrom h.objs.size names acc → x = y
  | [], _, _, _, _, _, _, hi, h1, h2 => hi _ _ _ h1 h2
  | (n, k) :: r, h, acc, x, y, c, hl, hi, h1, h2 => by
    unfold cellsFrom at h1 h2
    split at h1
    · rename_i hk
      rw [if_pos hk] at h2
      rw [← Heap.size_push h { cls := .type "cell", data := .cell none }] at h1 h2
      refine cells_inj (h := h.push _) (fun p hp => ?_) (fun x y c a b => ?_) h1 h2
      · rw [Heap.size_push]
        rcases List.mem_cons.mp hp with rfl | hp
        · exact Nat.lt_succ_self _
        · exact Nat.lt_succ_of_lt (hl p hp)
      · rcases List.mem_cons.mp a with e | a <;> rcases List.mem_cons.mp b with e' | b
        · cases e; cases e'; rfl
        · cases e; exact absurd (hl _ b) (Nat.lt_irrefl _)
        · cases e'; exact absurd (hl _ a) (Nat.lt_irrefl _)
        · exact hi _ _ _ a b
    · rename_i hk
      rw [if_neg hk] at h2
      exact cells_inj hl hi h1 h2

theorem newEnv_comp {M : Model} {A : Around} {E : Value → Shared → Prop} {s : Shared} {scope : Scope} {globals : Addr} {closure : List (Str × Addr)} {qual : Str} {func : Option Addr} {code : Value} {around : Env} {builtins : Addr} {Q : Env → Shared → Prop}
    (h : Q (newEnv scope s.heap.objs.size globals (cellsFrom (s.heap.objs.size + 1) scope.names closure) qual func code (some around) builtins)
      { s with heap := pushCells (s.heap.push { cls := .type "dict", data := .dict #[] }) scope.names }) :
    wpAny M A (newFunctionEnv scope globals closure [] qual func code (some around) builtins) Q E s := by
  simp only [newFunctionEnv, Option.isSome_some, if_true]
  refine wpAny_bind (wpAny_alloc ?_)
  refine wpAny_bind (wpAny_layCells _ (fun n k c => rfl) scope.names closure _ _ ?_)
  rw [show ({ s with heap := s.heap.push { cls := .type "dict", data := .dict #[] } } : Shared).heap.objs.size = s.heap.objs.size + 1 from Heap.size_push ..]
  rw [List.forIn_nil]
  exact wpAny_bind (wpAny_pure (wpAny_pure h))

/-- every name of the written scope, in the scope that runs -/
theorem lookup_relS {sc : Scope} : ∀ {names : List (Str × NameKind)} {x : Str} {k : NameKind},
    (names.map fun (n, k) => if (k == NameKind.free && sc.kind == .function && sc.names.lookup n == some .cell) then (n, NameKind.cell) else (n, k)).lookup x = some k →
    ∃ k', names.lookup x = some k' ∧ (k = k' ∨ (k' = .free ∧ k = .cell))
  | [], _, _, h => by simp at h
  | (n, k₀) :: r, x, k, h => by
    have ih := @lookup_relS sc r x k
    have h' : List.lookup x ((if (k₀ == NameKind.free && sc.kind == .function && sc.names.lookup n == some .cell) = true then (n, NameKind.cell) else (n, k₀)) :: (r.map _)) = some k := h
    cases hx : x == n with
    | true =>
      simp only [List.lookup_cons, hx]
      by_cases hc : (k₀ == NameKind.free && sc.kind == .function && sc.names.lookup n == some .cell) = true
      · rw [if_pos hc] at h'
        simp only [List.lookup_cons, hx] at h'
        cases h'
        simp only [Bool.and_eq_true, beq_iff_eq] at hc
        exact ⟨k₀, rfl, .inr ⟨hc.1.1, rfl⟩⟩
      · rw [if_neg hc] at h'
        simp only [List.lookup_cons, hx] at h'
        cases h'
        exact ⟨_, rfl, .inl rfl⟩
    | false =>
      simp only [List.lookup_cons, hx]
      by_cases hc : (k₀ == NameKind.free && sc.kind == .function && sc.names.lookup n == some .cell) = true
      · rw [if_pos hc] at h'
        simp only [List.lookup_cons, hx] at h'
        exact ih h'
      · rw [if_neg hc] at h'
        simp only [List.lookup_cons, hx] at h'
        exact ih h'
/-- the names of a comprehension's block: its own (with their places in N), or captured -/
structure BlkOk (N : List Str) (sc scope : Scope) (own : List (Str × Nat)) : Prop where
  kind : scope.kind = .function
  uniq : ∀ y ∈ scope.names, scope.names.lookup y.1 = some y.2
  ix : ∀ p ∈ own, N[p.2]? = some p.1
  free : ∀ y ∈ scope.names, y.2 = .free → sc.names.lookup y.1 = some .cell ∨ sc.names.lookup y.1 = some .free
  own : ∀ y ∈ scope.names, y.2 = .local ∨ y.2 = .cell → y.1 ∈ own.map (·.1) ∨ y.1 ∉ N
/-- the slots of the block's own names forgotten -/
def wipe (σ : St) : List Nat → St
  | [] => σ
  | v :: vs => (wipe σ vs).set v none
theorem wipe_length (σ : St) : ∀ vs : List Nat, (wipe σ vs).length = σ.length
  | [] => rfl
  | v :: vs => by unfold wipe; rw [List.length_set, wipe_length σ vs]
theorem wipe_some {σ : St} {i : Nat} {x : V} : ∀ {vs : List Nat}, (wipe σ vs)[i]? = some (some x) → σ[i]? = some (some x) ∧ i ∉ vs
  | [], h => ⟨h, by simp⟩
  | v :: vs, h => by
    unfold wipe at h
    by_cases hi : v = i
    · subst hi
      by_cases hv : v < (wipe σ vs).length
      · rw [List.getElem?_set_self hv] at h; cases h
      · rw [List.getElem?_eq_none (by simpa using hv)] at h; cases h
    · rw [List.getElem?_set_ne hi] at h
      obtain ⟨h1, h2⟩ := wipe_some h
      exact ⟨h1, by simp only [List.mem_cons, not_or]; exact ⟨fun e => hi e.symm, h2⟩⟩

/-- the context of a block that starts at s, its iterator's objects at fp -/
abbrev Cx.blk (X : Cx) (s : Shared) (H : Hp) (scope : Scope) (cenv : Env) (fp : List Addr) : Cx := { X with s_0 := s, H_0 := H, env := cenv, outer := X.stack, ex := fp, fn := fun x => scope.names.lookup x == some .cell, pn := [], xe := fun _ _ => False }
section
variable {X : Cx} {pins : List (Addr × Obj)} {σ : St} {H : Hp} {s : Shared}
theorem block_start {scope : Scope} {own : List (Str × Nat)} {fp : List Addr} (I : Inv X pins σ H s) (ok : BlkOk X.N X.env.scope scope own) (hN : X.N.Nodup) (hfp : ∀ b ∈ fp, FpOk X pins H b ∧ b < s.heap.objs.size) :
    Inv (X.blk s H scope (compEnvC scope (cellsFrom (s.heap.objs.size + 1) scope.names (cloFrom X.env.cells scope.names [])) s.heap.objs.size X.env) fp) [] (wipe σ (own.map (·.2))) H { s with heap := pushCells (s.heap.push { cls := .type "dict", data := .dict #[] }) scope.names } := by
  have hfree : ∀ y ∈ scope.names, y.2 = .free → ∃ c, X.env.cells.lookup y.1 = some c := fun y hy e => by
    rcases ok.free y hy e with k | k
    · exact I.ok.has _ (.inl k)
    · exact I.ok.has _ (.inr k)
  generalize hcenv : compEnvC scope (cellsFrom (s.heap.objs.size + 1) scope.names (cloFrom X.env.cells scope.names [])) s.heap.objs.size X.env = cenv
  have kp : ∀ b o, s.heap.get? b = some o → (pushCells (s.heap.push { cls := .type "dict", data := .dict #[] }) scope.names).get? b = some o := fun b o e => pushCells_keeps _ _ _ _ (Heap.get?_push_of_some _ e)
  have hL : cenv.locals = s.heap.objs.size := by rw [← hcenv]; rfl
  have hcl : cenv.cells = cellsFrom (s.heap.objs.size + 1) scope.names (cloFrom X.env.cells scope.names []) := by rw [← hcenv]; rfl
  have hsc : cenv.scope = relS scope X.env.scope := by rw [← hcenv]; rfl
  rw [← Heap.size_push s.heap { cls := .type "dict", data := .dict #[] }] at hcl
  have cm : ∀ {y c}, (y, c) ∈ cloFrom X.env.cells scope.names [] → X.env.cells.lookup y = some c ∧ c < s.heap.objs.size := fun {y c} hm => by
    rcases cloFrom_mem hm with hm | ⟨h1, rfl⟩
    · cases hm
    · obtain ⟨c, hc⟩ := hfree _ h1 rfl
      rw [hc]
      obtain ⟨w, z⟩ := I.cell _ _ hc
      exact ⟨rfl, z.lt⟩
  have mem : ∀ {y c}, cenv.cells.lookup y = some c → (X.env.cells.lookup y = some c ∧ c < s.heap.objs.size) ∨ (s.heap.objs.size + 1 ≤ c ∧ CellAt (pushCells (s.heap.push { cls := .type "dict", data := .dict #[] }) scope.names) c none) := fun {y c} e => by
    rw [hcl] at e
    rcases cells_mem (PySem.mem_of_lookup e) with hm | ⟨_, h2, h3⟩
    · exact .inl (cm hm)
    · rw [Heap.size_push] at h2; exact .inr ⟨h2, h3⟩
  have look : ∀ {y}, scope.names.lookup y = some .free → ∃ c, cenv.cells.lookup y = some c ∧ X.env.cells.lookup y = some c := fun {y} hl => by
    have hy : (y, NameKind.free) ∈ scope.names := PySem.mem_of_lookup hl
    obtain ⟨c', e'⟩ := mem_lookup (cells_acc (names := scope.names) (n := (s.heap.push { cls := .type "dict", data := .dict #[] }).objs.size) (cloFrom_has (cells := X.env.cells) (acc := []) hy))
    rw [← hcl] at e'
    refine ⟨c', e', ?_⟩
    rw [hcl] at e'
    rcases cells_mem (PySem.mem_of_lookup e') with hm | ⟨h1, _, _⟩
    · exact (cm hm).1
    · have := ok.uniq _ h1
      rw [hl] at this; cases this
  have okB : (X.blk s H scope cenv fp).Ok := by
    refine ⟨I.ok.mod, by show cenv.scope.kind = _; rw [hsc]; exact ok.kind, by show cenv.globals = _; rw [← hcenv]; exact I.ok.glob, by show cenv.builtins = _; rw [← hcenv]; exact I.ok.blt, by show s.heap.objs.size ≤ cenv.locals; rw [hL]; exact Nat.le_refl _,
      fun y z c e1 e2 => ?_, fun y hy => ?_, fun y c z e => ?_, I.ok.hd, I.ok.frames, .inl rfl, fun b hb => ⟨?_, fun y c e z => ?_⟩, I.bs, Nat.le_trans I.ok.bsz I.sz, fun b o e hb => ?_, fun b hb z => ?_, I.stack, I.stkFree⟩
    · have e1 : cenv.cells.lookup y = some c := e1
      have e2 : cenv.cells.lookup z = some c := e2
      rw [hcl] at e1 e2
      refine cells_inj (fun p hp => ?_) (fun y z c a b => I.ok.inj y z c (cm a).1 (cm b).1) (PySem.mem_of_lookup e1) (PySem.mem_of_lookup e2)
      rw [Heap.size_push]
      exact Nat.lt_succ_of_lt (cm (y := p.1) (c := p.2) hp).2
    · show ∃ c, cenv.cells.lookup y = some c
      have key : ∀ k, cenv.kindOf y = some k → (k = .cell ∨ k = .free) → ∃ c, cenv.cells.lookup y = some c := fun k hk hk' => by
        unfold Env.kindOf at hk
        rw [hsc] at hk
        obtain ⟨k', e, r⟩ := lookup_relS hk
        have : k' = .cell ∨ k' = .free := by
          rcases r with rfl | ⟨rfl, _⟩
          · exact hk'
          · exact .inr rfl
        rcases this with rfl | rfl
        · obtain ⟨c, hm⟩ := cells_has (n := (s.heap.push { cls := .type "dict", data := .dict #[] }).objs.size) (acc := cloFrom X.env.cells scope.names []) (PySem.mem_of_lookup e)
          obtain ⟨c', e'⟩ := mem_lookup hm
          exact ⟨c', by rw [hcl]; exact e'⟩
        · obtain ⟨c, h1, _⟩ := look e
          exact ⟨c, h1⟩
      rcases hy with hy | hy
      · exact key _ hy (.inl rfl)
      · exact key _ hy (.inr rfl)
    · have z : (scope.names.lookup y == some NameKind.cell) = true := z
      have z : scope.names.lookup y = some .cell := by simpa using z
      have e : cenv.cells.lookup y = some c := e
      rw [hcl] at e
      rcases cells_mem (PySem.mem_of_lookup e) with hm | ⟨_, h2, _⟩
      · rcases cloFrom_mem hm with hm | ⟨h1, _⟩
        · cases hm
        · have q := ok.uniq _ h1
          rw [z] at q; cases q
      · rw [Heap.size_push] at h2
        exact Nat.le_of_succ_le h2
    · show b ≠ cenv.locals
      rw [hL]; exact Nat.ne_of_lt (hfp b hb).2
    · have e : cenv.cells.lookup y = some c := e
      rcases mem e with ⟨h1, _⟩ | ⟨h1, _⟩
      · exact (hfp b hb).1.2.2.2.2.1 y c h1 z
      · have h2 : s.heap.objs.size + 1 ≤ b := by rw [← z]; exact h1
        exact absurd (Nat.lt_of_lt_of_le (hfp b hb).2 (Nat.le_of_succ_le h2)) (Nat.lt_irrefl _)
    · rcases (hfp b hb).1.2.2.2.1 with z | z
      · exact I.ok.noex b o e z
      · exact absurd (Nat.lt_of_lt_of_le (Heap.lt_size e) (Nat.le_trans I.ok.bsz z)) (Nat.lt_irrefl _)
    · rcases List.mem_cons.mp (I.stkSub b z) with z | z
      · exact (hfp b hb).1.2.1 z
      · exact (hfp b hb).1.2.2.1 z
  refine ⟨okB, rfl, I.bare, Un.kept kp, ⟨fun _ => none, ?_, fun i y av e1 e2 e3 => ?_⟩, fun y c e => ?_, ?_, fun y c e => ?_, fun p hp => ?_, I.hok.kept kp, by rw [wipe_length]; exact I.len⟩
  · show Heap.Ns _ cenv.locals _
    rw [hL]
    exact Heap.Ns.keeps (Heap.Ns.new ..) fun b o e => pushCells_keeps _ _ _ _ e
  · obtain ⟨e2, hne⟩ := wipe_some e2
    have hfr : scope.names.lookup y = some .free ∧ (cenv.kindOf y = some .cell ∨ cenv.kindOf y = some .free) := by
      have key : ∀ k, cenv.scope.names.lookup y = some k → k = .local ∨ k = .cell ∨ k = .free → scope.names.lookup y = some .free ∧ (cenv.kindOf y = some .cell ∨ cenv.kindOf y = some .free) := fun k hk hk' => by
        have hk0 := hk
        rw [hsc] at hk
        obtain ⟨k', e, r⟩ := lookup_relS hk
        have no : ¬ (k' = .local ∨ k' = .cell) := fun hh => by
          rcases ok.own _ (PySem.mem_of_lookup e) hh with e' | e'
          · obtain ⟨p, hp, hpy⟩ := List.mem_map.mp e'
            have e3 := ok.ix p hp
            have : p.1 = y := hpy
            rw [this] at e3
            exact hne (List.mem_map.mpr ⟨p, hp, nodup_ix hN e3 e1⟩)
          · exact e' (List.mem_of_getElem? e1)
        rcases r with rfl | ⟨rfl, rfl⟩
        · rcases hk' with rfl | rfl | rfl
          · exact absurd (.inl rfl) no
          · exact absurd (.inr rfl) no
          · exact ⟨e, .inr hk0⟩
        · exact ⟨e, .inl hk0⟩
      have e3 : Vis cenv.scope y := e3
      rcases e3 with e3 | e3 | e3
      · exact key _ e3 (.inl rfl)
      · exact key _ e3 (.inr (.inl rfl))
      · exact key _ e3 (.inr (.inr rfl))
    obtain ⟨m, hn, hl⟩ := I.loc
    have hvis : Vis X.env.scope y := (ok.free _ (PySem.mem_of_lookup hfr.1) rfl).elim (fun k => .inr (.inl k)) (fun k => .inr (.inr k))
    obtain ⟨w, r, q⟩ := hl i y av e1 e2 hvis
    refine ⟨w, r, .inr ⟨hfr.2, ?_⟩⟩
    obtain ⟨c, h1, h2⟩ := look hfr.1
    rcases q with ⟨k, _⟩ | ⟨_, c', e', z⟩
    · have k : X.env.scope.names.lookup y = some .local := k
      rcases ok.free _ (PySem.mem_of_lookup hfr.1) rfl with k' | k' <;> rw [show X.env.scope.names.lookup y = _ from k'] at k <;> cases k
    · rw [h2] at e'; cases e'
      exact ⟨c, h1, z.keeps kp⟩
  · have e : cenv.cells.lookup y = some c := e
    rcases mem e with ⟨h1, _⟩ | ⟨_, z⟩
    · obtain ⟨w, z⟩ := I.cell y c h1
      exact ⟨w, z.keeps kp⟩
    · exact ⟨_, z⟩
  · show H cenv.locals = none
    rw [hL]; exact I.hok.fresh (Nat.le_refl _)
  · have e : cenv.cells.lookup y = some c := e
    rcases mem e with ⟨h1, _⟩ | ⟨h1, _⟩
    · exact I.freeC y c h1
    · exact I.hok.fresh (Nat.le_of_succ_le h1)
  · exact absurd (show p ∈ ([] : List (Addr × Obj)) ++ [] from hp) (by simp)

/-- an item appended to a tracked list -/
theorem app_ok {E : Value → Shared → Prop} {D : Addr} {xs : List V} {y : V} {v : Value} {Q : Value → Shared → Prop} (I : Inv X pins σ H s) (hD : H D = some (.lst xs)) (hz : xs.length < sizeLine) (r : RelV y v)
    (h : ∀ s', Inv X pins σ (upd H D (.lst (xs ++ [y]))) s' → Q .none s') : wpAny (model X.prog X.w) X.A (call (.builtin "list.append") [.ref D, v]) Q E s := by
  obtain ⟨hz', its, n, ri, e⟩ := I.hok D _ hD
  have hl := ri.length
  refine append_at (hsz := by rw [List.size_toArray]; omega) e fun h' sb ho' => ?_
  refine h { s with heap := h' } (I.write (t' := s.toks) (by rw [hD]; trivial) (.inl rfl) (fun b u hb q => (sb.2 b hb).trans q) ⟨_, ho'⟩ ⟨by rw [List.length_append]; exact hz, its ++ [v], n + 1, ri.append (.cons r .nil), ?_⟩)
  rw [ho']
  simp

/-- a clause's tests -/
def PTs (X : Cx) (ifs : List Expr) (t : TT) : Prop :=
  ∀ (pins : List (Addr × Obj)) (s : Shared) (σ : St) (H : Hp) (Q : Bool → Hp → Prop), Inv X pins σ H s → t σ H Q →
    wpAny (model X.prog X.w) X.A (forIn ifs true fun c r => if r = true then do let ok ← isTrue c X.env (eval c X.env); pure (ForInStep.yield ok) else pure (ForInStep.yield r)) (TP X pins σ Q) X.xe s
def tYes : TT := fun _ H Q => Q true H
theorem pts_nil : PTs X [] tYes := fun _ _ _ H _ I h => wpAny_tests_nil ⟨H, I, h⟩
theorem pts_one {c : Expr} {t : TT} (h : PT X c t) : PTs X [c] t := fun pins s σ H Q I hw => wpAny_tests_one (h pins s σ H Q I hw)
end

theorem thnF {α : Type} {t : Sem α} {Q Q' : α → Shared → Prop} {M : Model} {A : Around} {E : Value → Shared → Prop} {s : Shared} (h : wpAny M A t Q (fun _ _ => False) s) (hQ : ∀ a s, Q a s → Q' a s) : wpAny M A t Q' E s := wpAny_mono h hQ fun _ _ z => False.elim z

/-- the loop of a list comprehension's block, the target of any form (codeAny_compLoop_tests asks a target that no tuple goes to; statement and proof follow it, PyProof/CompMap.lean:41-61, with the step letOwnedTupleGo kept) -/
theorem compLoop_any {prog : Program} {w : World} {A : Around} {R : Result → Shared → Prop} {s : Shared} {elt target iter : Expr} {ifs : List Expr} {scope : Scope} {pos : Pos} {it acc : Value} {env : Env} (I : Nat → Shared → Prop)
    (turn : ∀ n s, I n s → wpAny (model prog w) A (pyNext it) (fun r s₁ => match r with
      | none => R (.ok .next) s₁
      | some v => wpAny (model prog w) A (letOwnedTupleGo target it v) (fun _ s₁' => wpAny (model prog w) A (assign target env v) (fun _ s₂ =>
          wpAny (model prog w) A (forIn ifs true fun c r => if r = true then do let ok ← isTrue c env (eval c env); pure (ForInStep.yield ok) else pure (ForInStep.yield r)) (fun ok s₃ =>
            if ok = true then wpAny (model prog w) A (eval elt env) (fun x s₄ =>
              wpAny (model prog w) A (call (.builtin "list.append") [acc, x]) (fun _ s₅ => ∃ m, m < n ∧ I m s₅) (notedBy (model prog w) A env fun e s' => R (.error e) s') s₄) (notedBy (model prog w) A env fun e s' => R (.error e) s') s₃
            else ∃ m, m < n ∧ I m s₃) (notedBy (model prog w) A env fun e s' => R (.error e) s') s₂) (notedBy (model prog w) A env fun e s' => R (.error e) s') s₁') (notedBy (model prog w) A env fun e s' => R (.error e) s') s₁) (notedBy (model prog w) A env fun e s' => R (.error e) s') s)
    (n : Nat) (h : I n s) :
    codeAny (model prog w) A (.compLoop (.ListComp elt [⟨target, iter, ifs, 0⟩] scope pos) 0 it acc env) R s := by
  refine codeAny_loop rfl I (fun n s hI => ?_) n h
  show wpAny _ A ((compTurn (.ListComp elt [⟨target, iter, ifs, 0⟩] scope pos) 0 it acc env).onRaise (fun x => do noteFrame x env; theTreesLotGoes x)) _ _ s
  refine wpAny_noted ?_
  rw [compTurn_list]
  refine wpAny_bind (wpAny_standAt (wpAny_bind (wpAny_mono (turn n s hI) (fun r s₁ h₁ => ?_) fun _ _ h' => h')))
  cases r with
  | none => exact wpAny_pure h₁
  | some v =>
    refine wpAny_bind (wpAny_mono h₁ (fun _ s₁' h₁' => ?_) fun _ _ h' => h')
    refine wpAny_bind (wpAny_mono h₁' (fun _ s₂ h₂ => wpAny_bind (wpAny_mono h₂ (fun ok s₃ h₃ => ?_) fun _ _ h' => h')) fun _ _ h' => h')
    cases ok with
    | false => exact wpAny_pure ⟨rfl, h₃⟩
    | true =>
      exact wpAny_bind (wpAny_bind (wpAny_mono h₃ (fun x s₄ h₄ => wpAny_bind (wpAny_mono h₄ (fun _ s₅ h₅ => wpAny_pure (wpAny_pure ⟨rfl, h₅⟩)) fun _ _ h' => h')) fun _ _ h' => h'))

section
variable {X : Cx}
/-- [elt for target in iter if ..]: D the new list; W by the turn and a measure, Nx what a turn is to reach -/
def tLc (wi : TI) (g : TG) (tt : TT) (te : TE) (vs : List Nat) : TE := fun σ H Q => wi σ H fun J H1 => ∀ D, H1 D = none → ∃ W : Nat → Nat → Hp → Prop, (∃ m, W 0 m (upd H1 D (.lst []))) ∧ ∀ i m H, W i m H →
  (J.stop i H ∧ Q (.ref D) H) ∨ (J.go i H ∧ ∃ Nx : Hp → Prop, (∀ H', Nx H' → ∃ m', m' < m ∧ W (i + 1) m' H') ∧ ∀ x H', J.yld i H x H' → g x (wipe σ vs) H' fun σ2 H2 => wipe σ2 vs = wipe σ vs ∧ tt σ2 H2 fun b H3 =>
    if b = true then te σ2 H3 fun y H4 => ∃ acc, H4 D = some (.lst acc) ∧ acc.length < sizeLine ∧ Nx (upd H4 D (.lst (acc ++ [y]))) else Nx H3)
theorem lc_core {pins : List (Addr × Obj)} {s : Shared} {σ : St} {H : Hp} {Q : VK} {elt tg iter : Expr} {ifs : List Expr} {scope : Scope} {own : List (Str × Nat)} {pos pos' : Pos} {wi : TI} {g : TG} {tt : TT} {te : TE} {use : Option (Value → Sem Unit)} {Qf : Value → Shared → Prop}
    (hc : X.calm = true) (hN : X.N.Nodup) (I : Inv X pins σ H s) (hi : PI X tg iter wi) (ok : BlkOk X.N X.env.scope scope own)
    (hg : ∀ (s : Shared) (H : Hp) (C : Addr) (cl : List (Str × Addr)) (fp : List Addr), PG (X.blk s H scope (compEnvC scope cl C X.env) fp) tg g) (ht : ∀ (s : Shared) (H : Hp) (C : Addr) (cl : List (Str × Addr)) (fp : List Addr), PTs (X.blk s H scope (compEnvC scope cl C X.env) fp) ifs tt)
    (he : ∀ (s : Shared) (H : Hp) (C : Addr) (cl : List (Str × Addr)) (fp : List Addr), PE (X.blk s H scope (compEnvC scope cl C X.env) fp) elt te) (hs : ∀ x, foldedSetIterable iter X.env x = pure x)
    (h : tLc wi g tt te (own.map (·.2)) σ H Q)
    (hRR : ∀ D C s' m H', Inv X pins σ H' s' → Q (.ref D) H' → s'.heap.Ns C m → FpOk X pins H' C → compPost (model X.prog X.w) X.A X.xe use Qf (.ref D) C (.ok .next) s') :
    wpAny (model X.prog X.w) X.A (comprehension (.ListComp elt [⟨tg, iter, ifs, 0⟩] scope pos) scope X.env pos' (newList []) false (eval iter X.env) use) Qf X.xe s := by
  have hfree : ∀ y ∈ scope.names, y.2 = .free → ∃ c, X.env.cells.lookup y.1 = some c := fun y hy e => by
    rcases ok.free y hy e with k | k
    · exact I.ok.has _ (.inl k)
    · exact I.ok.has _ (.inr k)
  refine wpAny_comprehension_free (use := use) rfl hs (closure_ok hfree) ok.kind (fun y hy e => by rw [ok.uniq y hy, e])
    (thn (hi pins s σ H _ I h) fun xv s1 hx => thn hx fun itv s2 h2 => ?_)
  obtain ⟨it, fp, tn, J, H2, e, I2, T, st2, f2, q⟩ := h2
  subst e
  refine wpAny_newObj_type (newEnv_comp ?_) (by show 0 ≤ sizeLine; decide)
  generalize hD : s2.heap.objs.size = D
  have hDn : H2 D = none := I2.hok.fresh (Nat.le_of_eq hD)
  obtain ⟨W, ⟨m0, w0⟩, turn⟩ := q D hDn
  -- the new list
  generalize hs3 : ({ s2 with heap := s2.heap.push { cls := .type "list", data := .seq ([] : List Value).toArray } } : Shared) = s3
  have I3 : Inv X pins σ (upd H2 D (.lst [])) s3 := by
    rw [← hs3]
    refine I2.laid (t' := s2.toks) (fun b o e => Heap.get?_push_of_some _ e) (Nat.le_of_eq hD) ⟨Nat.zero_le _, [], 0, .nil, ?_⟩
    rw [← hD]
    exact Heap.get?_push_size _ rfl
  have h3 : s3.heap = s2.heap.push { cls := .type "list", data := .seq ([] : List Value).toArray } := by rw [← hs3]
  have sz : ∀ b ∈ fp, b < s2.heap.objs.size := fun b hb => by
    obtain ⟨o, e, _⟩ := T.obj _ _ st2 b hb
    exact Heap.lt_size e
  have f3 : ∀ b ∈ fp, FpOk X pins (upd H2 D (.lst [])) b ∧ b < s3.heap.objs.size := fun b hb => by
    have hlt := sz b hb
    refine ⟨⟨?_, (f2 b hb).2⟩, by rw [h3, Heap.size_push]; exact Nat.lt_succ_of_lt hlt⟩
    rw [upd_ne (by rw [← hD]; exact Nat.ne_of_lt hlt)]
    exact (f2 b hb).1
  have st3 : tn 0 s3.heap := T.keep _ _ _ st2 fun b _ o e => by rw [h3]; exact Heap.get?_push_of_some _ e
  have I4 := block_start I3 ok hN f3
  have pg := hg s3 (upd H2 D (.lst [])) s3.heap.objs.size (cellsFrom (s3.heap.objs.size + 1) scope.names (cloFrom X.env.cells scope.names [])) fp
  have pt := ht s3 (upd H2 D (.lst [])) s3.heap.objs.size (cellsFrom (s3.heap.objs.size + 1) scope.names (cloFrom X.env.cells scope.names [])) fp
  have pe := he s3 (upd H2 D (.lst [])) s3.heap.objs.size (cellsFrom (s3.heap.objs.size + 1) scope.names (cloFrom X.env.cells scope.names [])) fp
  show codeAny _ _ (.compStart (.ListComp elt [⟨tg, iter, ifs, 0⟩] scope pos) 0 (.ref it) (.ref D) (compEnvC scope (cellsFrom (s3.heap.objs.size + 1) scope.names (cloFrom X.env.cells scope.names [])) s3.heap.objs.size X.env)) (compPost (model X.prog X.w) X.A X.xe use Qf (.ref D) s3.heap.objs.size) { s3 with heap := pushCells (s3.heap.push { cls := .type "dict", data := .dict #[] }) scope.names }
  have nfp : ∀ b ∈ fp, (upd H2 D (.lst [])) b = none := fun b hb => (f3 b hb).1.1
  generalize hce : compEnvC scope (cellsFrom (s3.heap.objs.size + 1) scope.names (cloFrom X.env.cells scope.names [])) s3.heap.objs.size X.env = ce at I4 pg pt pe ⊢
  have cL : ce.locals = s3.heap.objs.size := by subst hce; rfl
  generalize hH3 : upd H2 D (.lst []) = H3 at I3 I4 pg pt pe w0 nfp f3
  generalize hs4 : ({ s3 with heap := pushCells (s3.heap.push { cls := .type "dict", data := .dict #[] }) scope.names } : Shared) = s4 at I4 ⊢
  have st4 : tn 0 s4.heap := T.keep _ _ _ st3 fun b _ o e => by rw [← hs4]; exact pushCells_keeps _ _ _ _ (Heap.get?_push_of_some _ e)
  have stat : ∀ {σ' : St} {H' : Hp} {s' : Shared}, Inv (X.blk s3 H3 scope ce fp) [] σ' H' s' → (∀ b ∈ fp, H' b = none) → ∀ b ∈ fp, FpOk (X.blk s3 H3 scope ce fp) [] H' b := fun {σ' H' s'} I' hn b hb =>
    ⟨hn b hb, (I'.ok.exf b hb).1, I'.ok.exfs b hb, .inl hb, fun x c e => (I'.ok.exf b hb).2 x c e, fun p hp => absurd (show p ∈ ([] : List (Addr × Obj)) ++ [] from hp) (by simp)⟩
  have loop : codeAny (model X.prog X.w) X.A (.compLoop (.ListComp elt [⟨tg, iter, ifs, 0⟩] scope pos) 0 (.ref it) (.ref D) ce) (compPost (model X.prog X.w) X.A X.xe use Qf (.ref D) s3.heap.objs.size) s4 := by
    refine compLoop_any (fun n s' => ∃ i H', Inv (X.blk s3 H3 scope ce fp) [] (wipe σ (own.map (·.2))) H' s' ∧ tn i s'.heap ∧ (∀ b ∈ fp, H' b = none) ∧ W i n H') ?_ m0 ⟨0, H3, I4, st4, nfp, w0⟩
    rintro n s5 ⟨i, H5, I5, st5, n5, w5⟩
    rcases turn i n H5 w5 with ⟨stop, qq⟩ | ⟨go, Nx, hNx, step⟩
    · have td := T.done (X.blk s3 H3 scope ce fp) rfl rfl rfl hc i [] s5 _ H5 (fun _ _ => False) I5 (stat I5 n5) st5 stop
      refine thnF td fun r s6 ⟨hr, I6⟩ => ?_
      subst hr
      -- back in the def's context
      have I7 : Inv X pins σ H5 s6 := I3.call' (ch := fp) I6.os I6.base I6.hok I6.bare fun b hb => ⟨(f3 b hb).1.2.2.2.1, (f3 b hb).1.2.1, (f3 b hb).1.2.2.2.2.1, (f3 b hb).1.2.2.2.2.2⟩
      have nC : H5 s3.heap.objs.size = none := by
        have z : H5 ce.locals = none := I6.free
        rw [cL] at z
        exact z
      obtain ⟨m, hn, _⟩ := I6.loc
      have hn : s6.heap.Ns ce.locals m := hn
      rw [cL] at hn
      exact hRR D s3.heap.objs.size s6 m H5 I7 qq hn (I3.fpOk (Nat.le_refl _) nC)
    · have ti := T.item (X.blk s3 H3 scope ce fp) rfl rfl rfl hc i [] s5 _ H5 (fun _ _ => False) I5 (stat I5 n5) st5 go
      refine thnF ti fun r s6 ⟨u, hr, h6⟩ => ?_
      subst hr
      refine thnF h6 fun _ s7 ⟨x, H7, I7, r7, y7, st7, n7⟩ => ?_
      have I7' := I7.pinned (stat I7 n7) (T.obj _ _ st7)
      refine thnF (pg _ s7 _ H7 x u _ I7' r7 (step x H7 y7)) fun _ s8 ⟨σ8, H8, I8, hw8, q8⟩ => ?_
      refine thnF (pt _ s8 σ8 H8 _ I8 q8) fun b s9 ⟨H9, I9, q9⟩ => ?_
      -- the turn's end
      have fin : ∀ {s' : Shared} {H' : Hp}, Inv (X.blk s3 H3 scope ce fp) ([] ++ pinsAt fp s7.heap) σ8 H' s' → Nx H' → ∃ m, m < n ∧ ∃ i H', Inv (X.blk s3 H3 scope ce fp) [] (wipe σ (own.map (·.2))) H' s' ∧ tn i s'.heap ∧ (∀ b ∈ fp, H' b = none) ∧ W i m H' := fun {s' H'} I' nx => by
        obtain ⟨m', hm, w'⟩ := hNx H' nx
        have pin' : ∀ b ∈ fp, ∀ o, s7.heap.get? b = some o → s'.heap.get? b = some o ∧ H' b = none := fun b hb o e =>
          let z := I'.pin (b, o) (List.mem_append_right _ (List.mem_append_right _ (mem_pinsAt hb e)))
          ⟨z.1, z.2.1⟩
        have hl : (wipe σ (own.map (·.2))).length = σ8.length := by rw [← hw8, wipe_length]
        refine ⟨m', hm, i + 1, H', (I'.unpinned (pins := [])).weak hl (fun j v e => ?_), T.keep _ _ _ st7 fun b hb o e => (pin' b hb o e).1, fun b hb => ?_, w'⟩
        · rw [← hw8] at e
          exact (wipe_some e).1
        · obtain ⟨o, e, _⟩ := T.obj _ _ st7 b hb
          exact (pin' b hb o e).2
      cases b with
      | false =>
        simp only [Bool.false_eq_true, if_false] at q9 ⊢
        exact fin I9 q9
      | true =>
        simp only [if_true] at q9 ⊢
        refine thnF (pe _ s9 σ8 H9 _ I9 q9) fun z s10 ⟨yv, H10, I10, r10, acc, hD10, hz10, nx⟩ => ?_
        exact app_ok (X := X.blk s3 H3 scope ce fp) I10 hD10 hz10 r10 fun s11 I11 => fin I11 nx
  exact codeAny_compStart_list loop (T.self X.A 0 _ _ _ st4 loop)
/-- as a value -/
theorem pe_lc {elt tg iter : Expr} {ifs : List Expr} {scope : Scope} {own : List (Str × Nat)} {pos : Pos} {wi : TI} {g : TG} {tt : TT} {te : TE} (hc : X.calm = true) (hN : X.N.Nodup) (hi : PI X tg iter wi) (ok : BlkOk X.N X.env.scope scope own)
    (hg : ∀ (s : Shared) (H : Hp) (C : Addr) (cl : List (Str × Addr)) (fp : List Addr), PG (X.blk s H scope (compEnvC scope cl C X.env) fp) tg g) (ht : ∀ (s : Shared) (H : Hp) (C : Addr) (cl : List (Str × Addr)) (fp : List Addr), PTs (X.blk s H scope (compEnvC scope cl C X.env) fp) ifs tt)
    (he : ∀ (s : Shared) (H : Hp) (C : Addr) (cl : List (Str × Addr)) (fp : List Addr), PE (X.blk s H scope (compEnvC scope cl C X.env) fp) elt te) (hs : ∀ x, foldedSetIterable iter X.env x = pure x := by intro _; rfl) :
    PE X (.ListComp elt [⟨tg, iter, ifs, 0⟩] scope pos) (tLc wi g tt te (own.map (·.2))) := by
  intro pins s σ H Q I h
  rw [eval_ListComp]
  refine lc_core hc hN I hi ok hg ht he hs h fun D C s' m H' I' q hn f => ⟨m, hn, fun h'' sb => ?_⟩
  obtain ⟨f0, f1, f2, f3, f4, f5⟩ := f
  exact ⟨.ref D, H', I'.turned (t' := s'.toks) (fun b o hb e => (sb.2 b hb).trans e) f0 f1 f3 f4 f5, rfl, q⟩
/-- name = [..] on one line, the name a local -/
theorem ps_setLc {i : Nat} {y : Str} {py : Pos} {elt tg iter : Expr} {ifs : List Expr} {scope : Scope} {own : List (Str × Nat)} {pos spos : Pos} {wi : TI} {g : TG} {tt : TT} {te : TE} (hc : X.calm = true) (hN : X.N.Nodup) (hy : X.N[i]? = some y) (hyl : X.env.scope.names.lookup y = some .local)
    (hsw : swapsWith (.ListComp elt [⟨tg, iter, ifs, 0⟩] scope pos) (some (.Name y py)) spos.line X.env = pure true) (hi : PI X tg iter wi) (ok : BlkOk X.N X.env.scope scope own)
    (hg : ∀ (s : Shared) (H : Hp) (C : Addr) (cl : List (Str × Addr)) (fp : List Addr), PG (X.blk s H scope (compEnvC scope cl C X.env) fp) tg g) (ht : ∀ (s : Shared) (H : Hp) (C : Addr) (cl : List (Str × Addr)) (fp : List Addr), PTs (X.blk s H scope (compEnvC scope cl C X.env) fp) ifs tt)
    (he : ∀ (s : Shared) (H : Hp) (C : Addr) (cl : List (Str × Addr)) (fp : List Addr), PE (X.blk s H scope (compEnvC scope cl C X.env) fp) elt te) (hs : ∀ x, foldedSetIterable iter X.env x = pure x := by intro _; rfl) :
    PS X (.Assign [.Name y py] (.ListComp elt [⟨tg, iter, ifs, 0⟩] scope pos) spos) (tAsg (tLc wi g tt te (own.map (·.2))) (gName i)) := by
  intro pins s σ H D I h
  rw [exec_Assign_Name_used _ _ _ _ hsw]
  refine wpAny_bind (wpAny_standAt (wpAny_bind ?_))
  show wpAny _ X.A (do let _ ← comprehension (.ListComp elt [⟨tg, iter, ifs, 0⟩] scope pos) scope X.env (firstIterPos [⟨tg, iter, ifs, 0⟩] pos) (newList []) false (eval iter X.env) (some (assign (.Name y py) X.env))) _ _ s
  have h : tLc wi g tt te (own.map (·.2)) σ H (fun x H1 => gName i x σ H1 D.nx) := h
  refine wpAny_bind (thn (lc_core (Qf := fun _ s' => SP X pins D .next s') hc hN I hi ok hg ht he hs h fun L C s' m H' I' q hn f => ?_) fun _ s' hq => wpAny_pure (wpAny_pure hq))
  show wpAny _ _ (assign (.Name y py) X.env (.ref L)) _ _ _
  refine wpAny_assign_Name (store_ok2 (v := V.ref L) I' hN hy (.inl hyl) rfl (fun s2 I2 ⟨a, sb, ha⟩ => ?_) (.inr hyl))
  obtain ⟨f0, f1, f2, f3, f4, f5⟩ := f
  have haC : C ≠ a := by
    rcases ha with z | z
    · rw [z]; exact f1
    · exact fun e => f4 y a z e.symm
  refine ⟨m, hn.sameBut sb haC, fun h3 sb3 => ?_⟩
  exact ⟨_, H', I2.turned (t' := s2.toks) (fun b o hb e => (sb3.2 b hb).trans e) f0 f1 f3 f4 f5, q⟩
theorem sw_true {elt : Expr} {gs : List Comprehension} {scope : Scope} {pos py : Pos} {y : Str} {l : Nat} {env : Env} (hk : env.scope.kind = .function) (hy : env.scope.names.lookup y = some .local) (hl : (py.line == pos.line) = true)
    (ha : (scope.names.any fun (n, k) => n == y && (k == .local || k == .cell)) = false) : swapsWith (.ListComp elt gs scope pos) (some (.Name y py)) l env = pure true := by
  have ky : env.kindOf y = some .local := hy
  have hb : env.blockKind = .function := by unfold Env.blockKind; rw [hk]; rfl
  unfold swapsWith
  simp only [hb, ky, ha, Expr.pos, hl]
  rfl
end

def blkC (N : List Str) (sc scope : Scope) (own : List (Str × Nat)) : Bool :=
  (match scope.kind with | .function => true | _ => false) && (scope.names.all fun y => decide (scope.names.lookup y.1 = some y.2)) && (own.all fun p => decide (N[p.2]? = some p.1)) &&
    (scope.names.all fun y => match y.2 with
      | .free => (match sc.names.lookup y.1 with | some .cell => true | some .free => true | _ => false)
      | .local => decide (y.1 ∈ own.map (·.1)) || decide (y.1 ∉ N)
      | .cell => decide (y.1 ∈ own.map (·.1)) || decide (y.1 ∉ N)
      | _ => true)
theorem blkOk_by {N : List Str} {sc scope : Scope} {own : List (Str × Nat)} (h : blkC N sc scope own = true) : BlkOk N sc scope own := by
  unfold blkC at h
  simp only [Bool.and_eq_true, List.all_eq_true, decide_eq_true_eq] at h
  obtain ⟨⟨⟨h1, h2⟩, h3⟩, h4⟩ := h
  refine ⟨?_, h2, h3, fun y hy e => ?_, fun y hy e => ?_⟩
  · split at h1
    · assumption
    · cases h1
  · have q := h4 y hy
    simp only [e] at q
    split at q <;> first | exact .inl (by assumption) | exact .inr (by assumption) | cases q
  · have q := h4 y hy
    rcases e with e | e <;> (simp only [e, Bool.or_eq_true, decide_eq_true_eq] at q; exact q)
end L2

namespace L2
open PySem PySem.Spec PyProof.Rows

section
variable {prog : Program} {w : World} {A : Around} {R : Result → Shared → Prop} {s : Shared} {elt t0 i0 t1 i1 : Expr} {ifs0 ifs1 : List Expr} {scope : Scope} {pos : Pos} {it acc : Value} {env : Env}
end

section
variable {X : Cx}
end
end L2

namespace L2
open PySem PySem.Spec PyProof.Rows

section
variable {κ : Type} [DecidableEq κ]
def valV (kvs : List (κ × V)) (k : κ) : Option V := (kvs.find? fun kv => decide (kv.1 = k)).map (·.2)
/-- in its place, or at the end -/
def putK (kvs : List (κ × V)) (k : κ) (v : V) : List (κ × V) :=
  if (kvs.any fun kv => decide (kv.1 = k)) = true then kvs.map (fun kv => if kv.1 = k then (kv.1, v) else kv) else kvs ++ [(k, v)]
def dropK (kvs : List (κ × V)) (k : κ) : List (κ × V) := kvs.filter fun kv => decide (kv.1 ≠ k)

theorem valV_pos {p : κ × V} {r : List (κ × V)} {k : κ} (e : p.1 = k) : valV (p :: r) k = some p.2 := by simp [valV, List.find?_cons, e]
theorem valV_neg {p : κ × V} {r : List (κ × V)} {k : κ} (e : ¬ p.1 = k) : valV (p :: r) k = valV r k := by simp [valV, List.find?_cons, e]
theorem valV_any (k : κ) : ∀ kvs : List (κ × V), (kvs.any fun kv => decide (kv.1 = k)) = (valV kvs k).isSome
  | [] => rfl
  | p :: r => by
    rw [List.any_cons]
    by_cases e : p.1 = k
    · simp only [valV_pos e, decide_eq_true e, Bool.true_or, Option.isSome_some]
    · rw [valV_neg e, decide_eq_false e, Bool.false_or]; exact valV_any k r
theorem length_putK (kvs : List (κ × V)) (k : κ) (v : V) : (putK kvs k v).length ≤ kvs.length + 1 := by
  unfold putK
  split
  · rw [List.length_map]; omega
  · rw [List.length_append, List.length_cons, List.length_nil]; omega
theorem RelO.isSome_eq {o : Option V} {u : Option Value} (r : RelO o u) : o.isSome = u.isSome := by
  cases o with
  | none => cases u with
    | none => rfl
    | some _ => exact (show False from r).elim
  | some _ => cases u with
    | none => exact (show False from r).elim
    | some _ => rfl
theorem RelO.getD {o : Option V} {u : Option Value} {d : V} {d' : Value} (r : RelO o u) (rd : RelV d d') : RelV (o.getD d) (u.getD d') := by
  cases o with
  | none => cases u with
    | none => exact rd
    | some _ => exact (show False from r).elim
  | some _ => cases u with
    | none => exact (show False from r).elim
    | some _ => exact r

/-- raw tables of the same keys -/
theorem KV.val {kvs : List (κ × V)} {vs : List (κ × Value)} (r : KV kvs vs) (k : κ) : RelO (valV kvs k) (valueAt vs k) := by
  unfold KV at r
  induction r with
  | nil => exact True.intro
  | @cons p q ps qs h t ih =>
    obtain ⟨h1, h2⟩ := h
    by_cases e : p.1 = k
    · have e' : q.1 = k := h1.symm.trans e
      have b : valueAt (q :: qs) k = some q.2 := by simp [valueAt, List.find?_cons, e']
      rw [valV_pos e, b]; exact h2
    · have e' : ¬ q.1 = k := fun z => e (h1.trans z)
      have b : valueAt (q :: qs) k = valueAt qs k := by simp [valueAt, List.find?_cons, e']
      rw [valV_neg e, b]; exact ih
theorem KV.any {kvs : List (κ × V)} {vs : List (κ × Value)} (r : KV kvs vs) (k : κ) : (kvs.any fun kv => decide (kv.1 = k)) = vs.any fun kv => decide (kv.1 = k) := by
  unfold KV at r
  induction r with
  | nil => rfl
  | cons h t ih => rw [List.any_cons, List.any_cons, ih, h.1]
theorem KV.repl {kvs : List (κ × V)} {vs : List (κ × Value)} (r : KV kvs vs) (k : κ) {y : V} {u : Value} (ry : RelV y u) :
    KV (kvs.map fun kv => if kv.1 = k then (kv.1, y) else kv) (vs.map fun kv => if kv.1 = k then (kv.1, u) else kv) := by
  unfold KV at r ⊢
  induction r with
  | nil => exact .nil
  | @cons p q ps qs h t ih =>
    rw [List.map_cons, List.map_cons]
    refine .cons ?_ ih
    obtain ⟨h1, h2⟩ := h
    by_cases e : p.1 = k
    · rw [if_pos e, if_pos (h1.symm.trans e)]; exact ⟨h1, ry⟩
    · rw [if_neg e, if_neg (fun z => e (h1.trans z))]; exact ⟨h1, h2⟩
theorem KV.put {kvs : List (κ × V)} {vs : List (κ × Value)} (r : KV kvs vs) (k : κ) {y : V} {u : Value} (ry : RelV y u) : KV (putK kvs k y) (stored vs k u) := by
  unfold putK stored
  rw [r.any k]
  by_cases e : (vs.any fun kv => decide (kv.1 = k)) = true
  · rw [if_pos e, if_pos e]; exact r.repl k ry
  · rw [if_neg e, if_neg e]; exact Paired.snoc r ⟨rfl, ry⟩
theorem KV.drop {kvs : List (κ × V)} {vs : List (κ × Value)} (r : KV kvs vs) (k : κ) : KV (dropK kvs k) (without vs k) := by
  unfold KV at r ⊢
  unfold dropK without
  induction r with
  | nil => exact .nil
  | @cons p q ps qs h t ih =>
    obtain ⟨h1, h2⟩ := h
    rw [List.filter_cons, List.filter_cons]
    by_cases e : p.1 = k
    · have a : ¬ decide (p.1 ≠ k) = true := by simp [e]
      have b : ¬ decide (q.1 ≠ k) = true := by simp [h1.symm.trans e]
      rw [if_neg a, if_neg b]; exact ih
    · have e' : ¬ q.1 = k := fun z => e (h1.trans z)
      have a : decide (p.1 ≠ k) = true := by simp [e]
      have b : decide (q.1 ≠ k) = true := by simp [e']
      rw [if_pos a, if_pos b]; exact .cons ⟨h1, h2⟩ ih
theorem KV.length {kvs : List (κ × V)} {vs : List (κ × Value)} (r : KV kvs vs) : kvs.length = vs.length := Paired.length r
end


theorem kV_is {P : Program} {w : World} {k : Key} {u : Value} (r : RelV (kV k) u) : (mixKind P w).is k u = true := by
  cases k with
  | inl i => obtain ⟨t, e⟩ := (show ∃ t, u = Value.int i t from r); subst e; exact mixKind_int P w i t
  | inr x => obtain ⟨t, e⟩ := (show ∃ t, u = Value.str x t from r); subst e; exact mixKind_str P w x t
theorem items_are {P : Program} {w : World} : ∀ {ks : List Key} {us : List Value}, Vals (ks.map kV) us → ItemsAre (mixKind P w) ks us
  | [], _, r => by rw [List.map_nil] at r; cases r; exact .nil
  | k :: ks, _, r => by
    rw [List.map_cons] at r
    cases r with
    | cons h t => exact .cons (kV_is h) (items_are t)

/-- raw entries of a dict with tuple keys -/
abbrev KT (H : Hp) : List (List Key × V) → List (List Key × Addr × Value) → Prop := Paired fun p q => p.1 = q.1 ∧ H q.2.1 = some (.tup (p.1.map kV)) ∧ RelV p.2 q.2.2
theorem KT.val {H : Hp} {kvs : List (List Key × V)} {xs : List (List Key × Addr × Value)} (r : KT H kvs xs) (k : List Key) : RelO (valV kvs k) ((atKey xs k).map (·.2)) := by
  induction r with
  | nil => exact True.intro
  | @cons p q ps qs h t ih =>
    obtain ⟨h1, _, h2⟩ := h
    by_cases e : p.1 = k
    · have e' : q.1 = k := h1.symm.trans e
      have b : atKey (q :: qs) k = some q.2 := by simp [atKey, List.find?_cons, e']
      rw [valV_pos e, b]; exact h2
    · have e' : ¬ q.1 = k := fun z => e (h1.trans z)
      have b : atKey (q :: qs) k = atKey qs k := by simp [atKey, List.find?_cons, e']
      rw [valV_neg e, b]; exact ih
theorem KT.repl {H : Hp} {kvs : List (List Key × V)} {xs : List (List Key × Addr × Value)} (r : KT H kvs xs) (k : List Key) {y : V} {u : Value} (ry : RelV y u) :
    KT H (kvs.map fun kv => if kv.1 = k then (kv.1, y) else kv) (xs.map (putAt k u)) := by
  induction r with
  | nil => exact .nil
  | @cons p q ps qs h t ih =>
    rw [List.map_cons, List.map_cons]
    refine .cons ?_ ih
    obtain ⟨h1, h2, h3⟩ := h
    unfold putAt
    by_cases e : p.1 = k
    · rw [if_pos e, if_pos (h1.symm.trans e)]; exact ⟨h1, h2, ry⟩
    · rw [if_neg e, if_neg (fun z => e (h1.trans z))]; exact ⟨h1, h2, h3⟩
theorem KT.put {H : Hp} {kvs : List (List Key × V)} {xs : List (List Key × Addr × Value)} (r : KT H kvs xs) (k : List Key) {b : Addr} {y : V} {u : Value} (hb : H b = some (.tup (k.map kV))) (ry : RelV y u) :
    KT H (putK kvs k y) (storedH xs k b u) := by
  have e : (kvs.any fun kv => decide (kv.1 = k)) = (atKey xs k).isSome := by
    rw [valV_any, (r.val k).isSome_eq, Option.isSome_map]
  unfold putK storedH
  rw [e]
  by_cases q : (atKey xs k).isSome = true
  · rw [if_pos q, if_pos q]; exact r.repl k ry
  · rw [if_neg q, if_neg q]; exact Paired.snoc r ⟨rfl, hb, ry⟩
theorem KT.keeps {H H' : Hp} {kvs : List (List Key × V)} {xs : List (List Key × Addr × Value)} (r : KT H kvs xs) (ht : ∀ b ys, H b = some (.tup ys) → H' b = some (.tup ys)) : KT H' kvs xs :=
  Paired.mapP r fun _ _ z => ⟨z.1, ht _ _ z.2.1, z.2.2⟩

section
variable {P : Program} {w : World} {H : Hp} {h : Heap} {a : Addr}
theorem rd_of {u : HO} (ok : HOk P w H h) (e : Rd H a u) : ObjOk P w H h a u := e.ok ok
theorem dk_rd {kvs : List (Key × V)} (ok : HOk P w H h) (e : Rd H a (.dK kvs)) : kvs.length ≤ sizeLine ∧ (a == sysModules) = false ∧ ∃ vs, KV kvs vs ∧ h.DictOf (mixKind P w) a vs :=
  show ObjOk P w H h a (.dK kvs) from rd_of ok e
theorem dk_of {kvs : List (Key × V)} (ok : HOk P w H h) (e : H a = some (.dK kvs)) : kvs.length ≤ sizeLine ∧ (a == sysModules) = false ∧ ∃ vs, KV kvs vs ∧ h.DictOf (mixKind P w) a vs := dk_rd ok (.inl e)
/-- a tracked tuple of ints and texts is a key -/
theorem key_of {ks : List Key} (ok : HOk P w H h) (e : H a = some (.tup (ks.map kV))) : (tupleKind (mixKind P w)).is h ks a := by
  obtain ⟨_, its, r, o, h1, h2, n, h3⟩ := (show ObjOk P w H h a (.tup (ks.map kV)) from ok a _ e)
  exact ⟨o, its.toArray, n, h1, h2, h3, by simpa using items_are r⟩
theorem dt_rd {kvs : List (List Key × V)} (ok : HOk P w H h) (e : Rd H a (.dT kvs)) : kvs.length ≤ sizeLine ∧ (a == sysModules) = false ∧
    ∃ xs, KT H kvs xs ∧ h.DictOfH (tupleKind (mixKind P w)) a xs := by
  obtain ⟨z, y, xs, r, o, es, ep, h1, h2, h3, h4, h5⟩ := (show ObjOk P w H h a (.dT kvs) from rd_of ok e)
  refine ⟨z, y, xs, r, o, es, ep, h1, h2, h3, h4, fun x hx => ?_, h5⟩
  have all : ∀ {l : List (List Key × V)} {m : List (List Key × Addr × Value)}, KT H l m → ∀ x ∈ m, (tupleKind (mixKind P w)).is h x.1 x.2.1 := by
    intro l m q
    induction q with
    | nil => intro x hx; exact nomatch hx
    | @cons p q ps qs hq t ih =>
      intro x hx
      rcases List.mem_cons.mp hx with e | hx
      · subst e
        exact key_of ok (by rw [← hq.1]; exact hq.2.1)
      · exact ih x hx
  exact all r x hx
theorem dt_of {kvs : List (List Key × V)} (ok : HOk P w H h) (e : H a = some (.dT kvs)) : kvs.length ≤ sizeLine ∧ (a == sysModules) = false ∧
    ∃ xs, KT H kvs xs ∧ h.DictOfH (tupleKind (mixKind P w)) a xs := dt_rd ok (.inl e)
end

/-- what the dict at a holds at the key y -/
def DGet (H : Hp) (a : Addr) (y : V) (r : Option V) : Prop :=
  (∃ kvs k, Rd H a (.dK kvs) ∧ y = kV k ∧ r = valV kvs k) ∨ ∃ kvs k b, Rd H a (.dT kvs) ∧ y = .ref b ∧ H b = some (.tup (k.map kV)) ∧ r = valV kvs k
/-- the heap behind a[y] = v -/
def DPut (H : Hp) (a : Addr) (y v : V) (H' : Hp) : Prop :=
  (∃ kvs k, H a = some (.dK kvs) ∧ y = kV k ∧ kvs.length < sizeLine ∧ H' = upd H a (.dK (putK kvs k v))) ∨
  ∃ kvs k b, H a = some (.dT kvs) ∧ y = .ref b ∧ H b = some (.tup (k.map kV)) ∧ kvs.length < sizeLine ∧ H' = upd H a (.dT (putK kvs k v))
section
variable {X : Cx} {pins : List (Addr × Obj)} {σ : St} {H : Hp} {s : Shared} {a : Addr} {y v : V} {u r : Value} {o : Option V} {A : Around} {E : Value → Shared → Prop}

theorem Inv.big (I : Inv X pins σ H s) : sysModules < s.heap.objs.size := by
  have h : mainGlobals < s.heap.objs.size := (I.mod.glob.keeps I.bk).lt
  exact Nat.lt_trans (by decide) h

/-- d[y], there -/
theorem d_getItem {Q : Value → Shared → Prop} (hu : A.units + 1 < cLine) (I : Inv X pins σ H s) (g : DGet H a y (some v)) (ry : RelV y u) (h : ∀ w' s', Inv X pins σ H s' → RelV v w' → Q w' s') :
    wpAny (model X.prog X.w) A (getItem (.ref a) u) Q E s := by
  rcases g with ⟨kvs, k, e, ey, l⟩ | ⟨kvs, k, b, e, ey, eb, l⟩
  · subst ey
    obtain ⟨z, hd, vs, rel, dd⟩ := dk_rd I.hok e
    obtain ⟨w', hw, rw'⟩ := RelO.some_of (v := v) (o := valueAt vs k) (by rw [l]; exact rel.val k)
    exact wpAny_getItem_of (kV_is ry) dd.mapOf hw (h w' _ (I.tok _) rw')
  · subst ey
    cases (show u = Value.ref b from ry)
    obtain ⟨z, hd, xs, rel, dd⟩ := dt_rd I.hok e
    obtain ⟨w', hw, rw'⟩ := RelO.some_of (v := v) (o := (atKey xs k).map (·.2)) (by rw [l]; exact rel.val k)
    obtain ⟨p, hp, hp2⟩ := Option.map_eq_some_iff.mp hw
    refine wpAny_getItem_heap (tupleKind_room_in1 hu) (key_of I.hok eb) dd hp ?_
    rw [hp2]
    exact h w' _ (I.tok _) rw'
/-- a dict's object is replaced -/
theorem d_write {h' : Heap} {t' : Nat} {ob : HO} (I : Inv X pins σ H s) (mu : Mut (H a)) (hs : Heap.SameBut a s.heap h') (he : ∃ q, h'.get? a = some q) (new : ObjOk X.prog X.w (upd H a ob) h' a ob) :
    Inv X pins σ (upd H a ob) { s with heap := h', toks := t' } :=
  I.write (x := a) (e := a) mu (.inl rfl) (fun b q hb z => (hs.2 b hb).trans z) he new
theorem dk_new {P : Program} {w : World} {H' : Hp} {h' : Heap} {kvs : List (Key × V)} {vs : List (Key × Value)} (z : kvs.length ≤ sizeLine) (hd : (a == sysModules) = false) (rel : KV kvs vs) (dd : h'.DictOf (mixKind P w) a vs) :
    ObjOk P w H' h' a (.dK kvs) := ⟨z, hd, vs, rel, dd⟩
/-- d[y] = v -/
theorem d_setItem {H' : Hp} {Q : Unit → Shared → Prop} (hu : A.units + 1 < cLine) (I : Inv X pins σ H s) (g : DPut H a y v H') (ry : RelV y u) (rv : RelV v r) (h : ∀ s', Inv X pins σ H' s' → Q () s') :
    wpAny (model X.prog X.w) A (setItem (.ref a) u r) Q E s := by
  rcases g with ⟨kvs, k, e, ey, l, eH⟩ | ⟨kvs, k, b, e, ey, eb, l, eH⟩
  · subst ey eH
    obtain ⟨z, hd, vs, rel, dd⟩ := dk_of I.hok e
    have hz : vs.length ≤ sizeLine := by rw [← rel.length]; exact z
    have hl : (putK kvs k v).length ≤ sizeLine := by have := length_putK kvs k v; omega
    refine wpAny_setItem_pairs (hsz := hz) (kV_is ry) dd fun h' dd' hs => h _ ?_
    have he : ∃ q, h'.get? a = some q := let ⟨q, _, _, hq, _⟩ := dd'; ⟨q, hq⟩
    exact d_write I (by rw [e]; exact True.intro) hs he (dk_new hl hd (rel.put k rv) dd')
  · subst ey eH
    cases (show u = Value.ref b from ry)
    obtain ⟨z, hd, xs, rel, dd⟩ := dt_of I.hok e
    have hz : xs.length ≤ sizeLine := by rw [← Paired.length rel]; exact z
    have hl : (putK kvs k v).length ≤ sizeLine := by have := length_putK kvs k v; omega
    refine wpAny_setItem_heap (hsz := hz) (tupleKind_room_in1 hu) (key_of I.hok eb) dd fun h' dd' hs => h _ ?_
    obtain ⟨q, es, ep, hq, h2, h3, h4, _, h5⟩ := dd'
    refine d_write I (by rw [e]; exact True.intro) hs ⟨q, hq⟩ ⟨hl, hd, _, (rel.put k eb rv).keeps fun c ys ec => ?_, q, es, ep, hq, h2, h3, h4, h5⟩
    rw [upd_ne (ne_of ec e (fun z => nomatch z))]
    exact ec
end

section
variable {X : Cx} {pins : List (Addr × Obj)} {σ : St} {H : Hp} {s : Shared} {a : Addr} {kvs : List (Key × V)} {k : Key} {u : Value} {A : Around} {E : Value → Shared → Prop}
end


/-- the element of a subscription, not a slice -/
def NoSl (i : Expr) : Prop := ∀ ov iv, subscripted i false ov iv = operate [ov, iv] (getItem ov iv)
theorem subD_of {prog : Program} {w : World} {A : Around} {E : Value → Shared → Prop} {s : Shared} {env : Env} {value slice : Expr} {pos : Pos} {T id : String} {Q : Value → Shared → Prop}
    (hl : typeLookup (.type T) "__getitem__" = pure (some (.builtin id))) (hs : NoSl slice)
    (h : wpAny (model prog w) A (eval value env) (fun o s₁ => wpAny (model prog w) A (eval slice env) (fun i s₂ => s₂.TypeIs o T ∧ wpAny (model prog w) A (getItem o i) Q E s₂) E s₁) E s) :
    wpAny (model prog w) A (eval (.Subscript value slice pos) env) Q E s := by
  refine Subscript_ (wpAny_mono h (fun o s₁ h₁ => wpAny_mono h₁ (fun i s₂ h₂ => ?_) fun _ _ x => x) fun _ _ x => x)
  obtain ⟨hT, h₂⟩ := h₂
  unfold subscriptTail
  refine wpAny_bind ?_
  rw [getitemInPython_of_ne hT.not_modules]
  refine wpAny_bind (wpAny_specialOf hT hl ?_)
  have fin : wpAny (model prog w) A (subscripted slice false o i) (fun r s₃ => wpAny (model prog w) A (letTemporaryGo value o r >>= fun _ => pure r) Q E s₃) E s₂ := by
    rw [hs o i]
    exact wpAny_operating (wpAny_mono h₂ (fun r s₃ h₃ => wpAny_bind (wpAny_letTemporaryGo (wpAny_pure h₃))) fun _ _ x => x)
  first
    | exact wpAny_pure (wpAny_bind fin)
    | exact wpAny_bind (wpAny_pure (wpAny_bind fin))
    | exact wpAny_bind fin

theorem dict_typeIs {X : Cx} {pins : List (Addr × Obj)} {σ : St} {H : Hp} {s : Shared} {a : Addr} {y : V} {o : Option V} (I : Inv X pins σ H s) (g : DGet H a y o) : s.TypeIs (.ref a) "dict" := by
  rcases g with ⟨kvs, k, e, _, _⟩ | ⟨kvs, k, b, e, _, _, _⟩
  · obtain ⟨_, _, vs, _, dd⟩ := dk_rd I.hok e
    exact dd.typeIs
  · obtain ⟨_, _, xs, _, dd⟩ := dt_rd I.hok e
    exact dd.typeIs
/-- d[y] -/
def tDGet (td ty : TE) : TE := fun σ H Q => td σ H fun x H1 => ty σ H1 fun y H2 => ∃ a v, x = .ref a ∧ DGet H2 a y (some v) ∧ Q v H2
/-- d[y] = v -/
def sDPut (td ty tv : TE) : TS := fun D σ H => tv σ H fun v H1 => td σ H1 fun x H2 => ty σ H2 fun y H3 => ∃ a H4, x = .ref a ∧ DPut H3 a y v H4 ∧ D.nx σ H4
section
variable {X : Cx} {o i e value : Expr} {pos pos' tpos : Pos} {td ty tv : TE}
theorem pe_dget (hu : X.A.units + 1 < cLine) (ho : PE X o td) (hi : PE X i ty) (hs : NoSl i) : PE X (.Subscript o i pos) (tDGet td ty) := by
  intro pins s σ H Q I h
  refine subD_of PySem.F.slot_dict_getitem.lookup hs (thn (ho pins s σ H _ I h) fun u s1 ⟨x, H1, I1, rx, q1⟩ => thn (hi pins s1 σ H1 _ I1 q1) fun iv s2 ⟨y, H2, I2, ry, a, v, ex, g, q2⟩ => ?_)
  subst ex
  obtain rfl : u = Value.ref a := rx
  exact ⟨dict_typeIs I2 g, d_getItem hu I2 g ry fun w' s3 I3 rw' => ⟨v, H2, I3, rw', q2⟩⟩
theorem ps_dput (hu : X.A.units + 1 < cLine) (ho : PE X o td) (hi : PE X i ty) (hv : PE X value tv) (hs : swapsWith value (some (.Subscript o i pos')) pos.line X.env = pure false) :
    PS X (.Assign [.Subscript o i pos'] value pos) (sDPut td ty tv) := by
  intro pins s σ H D I h
  refine wpAny_Assign_Subscript (thn (hv pins s σ H _ I h) fun r s1 ⟨v, H1, I1, rv, q1⟩ => thn (ho pins s1 σ H1 _ I1 q1) fun u s2 ⟨x, H2, I2, rx, q2⟩ => thn (hi pins s2 σ H2 _ I2 q2) fun iv s3 ⟨y, H3, I3, ry, a, H4, ex, g, q3⟩ => ?_) hs
  subst ex
  obtain rfl : u = Value.ref a := rx
  exact d_setItem hu I3 g ry rv fun s4 I4 => ⟨σ, H4, I4, q3⟩
end


theorem dk_empty {P : Program} {w : World} {H : Hp} (h : Heap) (hb : sysModules < h.objs.size) : ObjOk P w H (h.push { cls := .type "dict", data := .dict #[] }) h.objs.size (.dK []) :=
  ⟨Nat.zero_le _, beq_eq_false_iff_ne.mpr (Ne.symm (Nat.ne_of_lt hb)), [], .nil, Heap.DictOf.new h⟩
/-- {}, to be a dict of the kind that is wanted -/
def tDNewK : TE := fun _ H Q => ∀ p, H p = none → Q (.ref p) (upd H p (.dK []))
section
variable {X : Cx} {pos : Pos}
theorem pe_dnewK : PE X (.Dict [] [] pos) tDNewK := fun pins s σ H Q I h =>
  wpAny_Dict_empty ⟨.ref s.heap.objs.size, _, I.laid (a := s.heap.objs.size) (o := .dK []) (t' := s.toks) (fun _ _ q => Heap.get?_push_of_some _ q) (Nat.le_refl _) (dk_empty s.heap I.big), rfl, h _ (I.hok.fresh (Nat.le_refl _))⟩
end

/-- the pairs of a display, from the left -/
def tPairs : List (TE × TE) → St → Hp → (List (V × V) → Hp → Prop) → Prop
  | [], _, H, Q => Q [] H
  | (tk, tv) :: r, σ, H, Q => tk σ H fun x H1 => tv σ H1 fun y H2 => tPairs r σ H2 fun ps H3 => Q ((x, y) :: ps) H3
abbrev VV : List (V × V) → List (Value × Value) → Prop := Paired fun p q => RelV p.1 q.1 ∧ RelV p.2 q.2
def PPs (X : Cx) (pos : Pos) (keys : List (Option Expr)) (values : List Expr) (trs : List (TE × TE)) : Prop :=
  ∀ (pins : List (Addr × Obj)) (s : Shared) (σ : St) (H : Hp) (Q : List (V × V) → Hp → Prop), Inv X pins σ H s → tPairs trs σ H Q →
    wpAny (model X.prog X.w) X.A (evalPairs (pairTrees keys values X.env pos)) (fun vs s' => ∃ ps H', Inv X pins σ H' s' ∧ VV ps vs ∧ Q ps H') X.xe s
theorem pps_nil {X : Cx} {pos : Pos} : PPs X pos [] [] [] := fun pins s σ H Q I h => pairTrees_nil_walk ⟨[], H, I, .nil, h⟩
theorem pps_cons {X : Cx} {pos : Pos} {k v : Expr} {ks : List (Option Expr)} {vs : List Expr} {tk tv : TE} {trs : List (TE × TE)} (hk : PE X k tk) (hv : PE X v tv) (hr : PPs X pos ks vs trs) :
    PPs X pos (some k :: ks) (v :: vs) ((tk, tv) :: trs) := fun pins s σ H Q I h =>
  pairTrees_cons_walk (thn (hk pins s σ H _ I h) fun u s1 ⟨x, H1, I1, rx, q1⟩ => thn (hv pins s1 σ H1 _ I1 q1) fun w2 s2 ⟨y, H2, I2, ry, q2⟩ =>
    thn (hr pins s2 σ H2 _ I2 q2) fun ws s3 ⟨ps, H3, I3, rel, q3⟩ => ⟨(x, y) :: ps, H3, I3, .cons ⟨rx, ry⟩ rel, q3⟩)

def mergeK (kvs more : List (Key × V)) : List (Key × V) := more.foldl (fun acc kv => putK acc kv.1 kv.2) kvs
theorem KV.merge : ∀ {more : List (Key × V)} {rs : List (Key × Value)} {kvs : List (Key × V)} {vs : List (Key × Value)}, KV more rs → KV kvs vs → KV (mergeK kvs more) (merged vs rs) := by
  intro more rs kvs vs r
  unfold KV at r
  induction r generalizing kvs vs with
  | nil => intro q; exact q
  | @cons p q ps qs h t ih =>
    intro r0
    have e : KV (putK kvs p.1 p.2) (stored vs q.1 q.2) := by
      have := r0.put p.1 h.2
      rw [← h.1]; exact this
    exact ih e
theorem length_mergeK : ∀ (more kvs : List (Key × V)), (mergeK kvs more).length ≤ kvs.length + more.length
  | [], kvs => by show kvs.length ≤ kvs.length + 0; omega
  | p :: r, kvs => by
    have h1 := length_mergeK r (putK kvs p.1 p.2)
    have h2 := length_putK kvs p.1 p.2
    show (mergeK (putK kvs p.1 p.2) r).length ≤ _
    rw [List.length_cons]; omega
theorem carries_of {P : Program} {w : World} : ∀ {kvs : List (Key × V)} {ws : List (Value × Value)}, VV (kvs.map fun kv => (kV kv.1, kv.2)) ws → ∃ rs, Carries (mixKind P w) ws rs ∧ KV kvs rs
  | [], _, r => by rw [List.map_nil] at r; cases r; exact ⟨[], True.intro, .nil⟩
  | p :: kvs, _, r => by
    rw [List.map_cons] at r
    cases r with
    | @cons a b as bs h t =>
      obtain ⟨rs, c, q⟩ := carries_of (P := P) (w := w) t
      obtain ⟨b1, b2⟩ := b
      exact ⟨(p.1, b2) :: rs, ⟨kV_is h.1, rfl, c⟩, .cons ⟨rfl, h.2⟩ q⟩
/-- {k: v, ..} with keys ints and texts; the new dict stands empty while the pairs are made -/
def tDisp (trs : List (TE × TE)) : TE := fun σ H Q => ∀ p, H p = none → tPairs trs σ (upd H p (.dK [])) fun ps H2 => H2 p = some (.dK []) ∧ ∃ kvs : List (Key × V), ps = kvs.map (fun kv => (kV kv.1, kv.2)) ∧ kvs.length ≤ 15 ∧ Q (.ref p) (upd H2 p (.dK (mergeK [] kvs)))
theorem pe_disp {X : Cx} {pos : Pos} {keys : List (Option Expr)} {values : List Expr} {trs : List (TE × TE)} (h : PPs X pos keys values trs) (hall : keys.all (·.isSome) = true) (hl : keys.length = values.length) (h0 : keys ≠ [])
    (h15 : keys.length ≤ 15) : PE X (.Dict keys values pos) (tDisp trs) := by
  intro pins s σ H Q I q
  have hn := I.hok.fresh (Nat.le_refl s.heap.objs.size)
  have I1 := I.laid (a := s.heap.objs.size) (o := .dK []) (h' := s.heap.push { cls := .type "dict", data := .dict #[] }) (t' := s.toks) (fun _ _ q => Heap.get?_push_of_some _ q) (Nat.le_refl _) (dk_empty s.heap I.big)
  refine wpAny_Dict_walk (knd := mixKind X.prog X.w) hall hl h0 h15 (thn (h pins _ σ _ _ I1 (q _ hn)) fun ws s2 ⟨ps, H2, I2, rel, e, kvs, ep, lk, q2⟩ => ?_)
  subst ep
  obtain ⟨rs, c, rk⟩ := carries_of (P := X.prog) (w := X.w) rel
  obtain ⟨z, hd, vs0, r0, dd⟩ := dk_of I2.hok e
  cases r0
  refine ⟨rs, c, dd, fun h' dd' hs => ⟨.ref s.heap.objs.size, _, ?_, rfl, q2⟩⟩
  have hz : (mergeK [] kvs).length ≤ sizeLine := by
    have h1 := length_mergeK kvs []
    rw [List.length_nil] at h1
    rw [sizeLine_eq]; omega
  have he : ∃ q, h'.get? s.heap.objs.size = some q := let ⟨q, _, _, hq, _⟩ := dd'; ⟨q, hq⟩
  exact d_write I2 (by rw [e]; exact True.intro) hs he (dk_new hz hd (rk.merge .nil) dd')


section
variable {X : Cx} {pins : List (Addr × Obj)} {σ : St} {H : Hp} {s : Shared} {a : Addr} {y d : V} {u r : Value} {o : Option V} {A : Around} {E : Value → Shared → Prop}
end

section
variable {X : Cx} {o e f : Expr} {apos cpos : Pos} {td ty tx : TE}
end

section
variable {X : Cx} {pins : List (Addr × Obj)} {σ : St} {H : Hp} {s : Shared} {a : Addr} {kvs : List (Key × V)} {A : Around} {E : Value → Shared → Prop}
end


section
variable {X : Cx} {pins : List (Addr × Obj)} {σ : St} {H : Hp} {s : Shared} {a : Addr} {y : V} {u : Value} {A : Around} {E : Value → Shared → Prop}
end
end L2

namespace L2
open PySem PySem.Spec PyProof.Rows

section
variable {prog : Program} {w : World} {A : Around} {E : Value → Shared → Prop}
end

section
variable {X : Cx}
end
end L2

namespace L2
open PySem PySem.Spec PyProof.Rows

section
variable {X : Cx} {pins : List (Addr × Obj)} {σ : St} {H : Hp} {s : Shared} {h' : Heap}
end
section
variable {X : Cx}
theorem pi_one {tg : Expr} {pins : List (Addr × Obj)} {σ : St} {H : Hp} {s : Shared} {R : It → Hp → Prop} {J : It} {tn : Nat → Heap → Prop} {tk : Nat} (I : Inv X pins σ H s) (o : Obj)
    (T : Turn X.prog X.w X.K tg J [s.heap.objs.size] s.heap.objs.size tn) (st : tn 0 (s.heap.push o)) (q : R J H) : PIE X pins σ tg R (.ref s.heap.objs.size) { s with heap := s.heap.push o, toks := tk } := by
  refine ⟨s.heap.objs.size, [s.heap.objs.size], tn, J, H, rfl, I.kept fun b ob e => Heap.get?_push_of_some _ e, T, st, fun b hb => ?_, q⟩
  have e : b = s.heap.objs.size := by simpa using hb
  subst e
  exact I.fpOk (Nat.le_refl _) (I.hok.fresh (Nat.le_refl _))
end

/-- range(i, j, c): small bounds, n items -/
def RgC (i j c : Int) (n : Nat) : Prop := c ≠ 0 ∧ c.natAbs < 1073741824 ∧ Builtin.Range.small i j c = true ∧ Builtin.Range.rangeSize i j c = n
theorem RgC.neg {i j : Int} (ha : -(2 ^ 62) ≤ i) (ha' : i < 2 ^ 62) (hb : -(2 ^ 62) ≤ j) (hb' : j < 2 ^ 62) : RgC i j (-1) (i - j).toNat :=
  ⟨by decide, by decide, PySem.W.small_down ha ha' hb hb', PySem.W.rangeSize_downNat i j⟩
section
variable {X : Cx} {tg : Expr}
end
section
variable {X : Cx} {tg : Expr}
end

def Its (x : Str) : It := ⟨fun i _ => i < x.cps.size, fun i H v H' => H' = H ∧ ∃ c, x.cps[i]? = some c ∧ v = .str ⟨#[c]⟩, fun i _ => x.cps.size ≤ i⟩
theorem turn_str {P : Program} {w : World} {K : PySem.W.Frag} {tg : Expr} (it : Addr) (x : Str) (t : Tok) (ty : String) (hty : ty = "str_ascii_iterator" ∨ ty = "str_iterator") :
    Turn P w K tg (Its x) [it] it (fun i h => h.IsStrIter it ty x t i) where
  mem := by simp
  obj := fun i h st b hb => by
    have e : b = it := by simpa using hb
    subst e
    obtain ⟨o, e, c, d⟩ := st
    exact ⟨o, e, fun v z => by rw [d] at z; cases z⟩
  keep := fun i h h' st k => let ⟨o, ho, r⟩ := st; ⟨o, k it (by simp) o ho, r⟩
  item := by
    intro X hP hw hK hc i pins s σ H E I hf st hg
    subst hP hw hK
    obtain ⟨f0, f1, f2, f3, f4, f5⟩ := hf it (by simp)
    have W : Walks X.prog X.w X.A it [it] [it] x.cps.size (SignAt x) (fun i h => h.IsStrIter it ty x t i) := by
      rcases hty with e | e
      · rw [e]; exact Walks.strAscii (I.ok.hd hc) it x t
      · rw [e]; exact Walks.strWide (I.ok.hd hc) it x t
    have hno : ["enumerate", "zip", "dict_itemiterator", "dict_reverseitemiterator", "odict_iterator", "itertools.zip_longest", "itertools.pairwise"].contains ty = false := by
      rcases hty with e | e
      · rw [e]; decide
      · rw [e]; decide
    refine W.item i s _ _ hg st fun v h' tk hv st' kk => ?_
    obtain ⟨c, u, hcx, rfl⟩ := hv
    have I1 : Inv X pins σ H { s with heap := h', toks := tk } := I.turned (fun b o hb e => kk b o (by simpa using hb) e) f0 f1 f3 f4 f5
    obtain ⟨oi, e, cc, dd⟩ := id st'
    exact ⟨_, rfl, go_of (s := { s with heap := h', toks := tk }) e cc dd hno ⟨.str ⟨#[c]⟩, H, I1, ⟨u, rfl⟩, ⟨rfl, c, hcx, rfl⟩, st', fun b hb => (hf b hb).1⟩⟩
  done := by
    intro X hP hw hK hc i pins s σ H E I hf st hg
    subst hP hw hK
    obtain ⟨f0, f1, f2, f3, f4, f5⟩ := hf it (by simp)
    have hx : x.cps[i]? = none := Array.getElem?_eq_none hg
    rcases hty with e | e
    · rw [e] at st
      exact wpAny_pyNext_ascii_end (I.ok.hd hc) st hx fun h' eb => ⟨rfl, I.turned (t' := s.toks) (fun b o hb e => eb b o hb e) f0 f1 f3 f4 f5⟩
    · rw [e] at st
      exact wpAny_pyNext_wide_end (I.ok.hd hc) st hx fun h' eb => ⟨rfl, I.turned (t' := s.toks) (fun b o hb e => eb b o hb e) f0 f1 f3 f4 f5⟩
  self := fun A i s Q E st h => by
    rcases hty with e | e
    · rw [e] at st; exact wpAny_pyIter_striter_ascii st h
    · rw [e] at st; exact wpAny_pyIter_striter_wide st h
section
variable {prog : Program} {w : World} {A : Around} {E : Value → Shared → Prop} {s : Shared}
end

section
variable {X : Cx} {pins : List (Addr × Obj)} {σ : St} {H : Hp} {s : Shared} {d : Addr} {o : Obj}
end

section
variable {P : Program} {w : World} {K : PySem.W.Frag} {tg : Expr} {d : Addr} {o : Obj} {es : Array DictEntry} {ep : Nat}
end

section
variable {X : Cx} {tg e : Expr} {td : TE} {apos cpos : Pos}
end

end L2

section 
namespace Bits
open PySem PyProof.Rows

end Bits
end 

section 
namespace TL
open PySem PySem.Builtin PySem.Builtin.Str PySem.StrLaws

abbrev tl (x : Str) : List Nat := x.cps.toList
/-- S stands at the head of l -/
def pre (S l : List Nat) : Bool := l.take S.length == S
/-- what stands before the first S, and behind it -/
def par (S : List Nat) : List Nat → List Nat → Option (List Nat × List Nat)
  | _, [] => none
  | acc, c :: r => if pre S (c :: r) = true then some (acc, (c :: r).drop S.length) else par S (acc ++ [c]) r

end TL
end 

namespace L2
open PySem PySem.Spec PyProof.Rows

section
variable {X : Cx} {pins : List (Addr × Obj)} {σ : St} {H : Hp} {s : Shared} {Q : VK}
end

section
variable {X : Cx}

end

section
variable {X : Cx} {o e : Expr} {to te : TE}
end
end L2

namespace L2
open PySem PySem.Spec PyProof.Rows

section
variable {X : Cx}
/-- one sign in a text -/
theorem op_in_sign : OpR X (compareOp .In) (fun x y H Q => ∃ (c : Nat) (z : Str), x = .str ⟨#[c]⟩ ∧ y = .str z ∧ Q (.bl (decide (c ∈ z.cps.toList))) H) := by
  intro pins s σ H x y v u Q I rx ry h
  obtain ⟨c, z, rfl, rfl, q⟩ := h
  obtain ⟨t, rfl⟩ := rx
  obtain ⟨t', rfl⟩ := ry
  exact PyProof.Rows.in_str (fin_bl I q (PySem.StrLaws.found_one z c).symm)
theorem op_notIn_sign : OpR X (compareOp .NotIn) (fun x y H Q => ∃ (c : Nat) (z : Str), x = .str ⟨#[c]⟩ ∧ y = .str z ∧ Q (.bl (!decide (c ∈ z.cps.toList))) H) := by
  intro pins s σ H x y v u Q I rx ry h
  obtain ⟨c, z, rfl, rfl, q⟩ := h
  obtain ⟨t, rfl⟩ := rx
  obtain ⟨t', rfl⟩ := ry
  exact PyProof.Rows.notIn_str (fin_bl I q (congrArg Bool.not (PySem.StrLaws.found_one z c).symm))
end

theorem IsPart.raw {v : Value} {o : Option Int} (p : IsPart v o) : ∃ l : Option (Int × Tok), v = partValue l ∧ l.map (·.1) = o := by
  cases p with
  | none => exact ⟨none, rfl, rfl⟩
  | int i t => exact ⟨some (i, t), rfl, rfl⟩

/-- a part, clipped, as the text's slice reckons it -/
def clipS (n d : Nat) : Option Int → Int
  | none => (d : Int)
  | some i => max 0 (min (if i < 0 then i + (n : Int) else i) (n : Int))
theorem clipS_eq (n d : Nat) (o : Option Int) : clipS n d o = ((HT.sIx n d o : Nat) : Int) := by
  cases o with
  | none => rfl
  | some v =>
    show max (0 : Int) (min (if v < 0 then v + (n : Int) else v) (n : Int)) = (((if v < 0 then (v + (n : Int)).toNat else min v.toNat n) : Nat) : Int)
    by_cases hv : v < 0
    · simp only [if_pos hv]
      omega
    · simp only [if_neg hv]
      omega
theorem sidx_clip (a b : Option Int) (n : Nat) : Builtin.Str.strSliceIndices a b 1 n = sliceRange (clipS n 0 a) (clipS n n b) 1 := by
  have h1 : ((1 : Int) > 0) = True := by simp
  cases a <;> cases b <;> first
    | rfl
    | (simp only [Builtin.Str.strSliceIndices, clipS, h1, if_true]; rfl)
    | simp [Builtin.Str.strSliceIndices, clipS]
theorem sidx (a b : Option Int) (n : Nat) : Builtin.Str.strSliceIndices a b 1 n = (List.range (HT.sIx n n b - HT.sIx n 0 a)).map (fun k => HT.sIx n 0 a + k) := by
  rw [sidx_clip, clipS_eq, clipS_eq]
  generalize HT.sIx n 0 a = p
  generalize HT.sIx n n b = q
  simp only [sliceRange, show ((1 : Int) > 0) = True from by simp, if_true]
  by_cases hlt : (p : Int) < q
  · have e3 : (((q : Int) - p + 1 - 1) / 1).toNat = q - p := by first | omega | (simp; done) | (simp; omega)
    simp only [hlt, if_true, e3]
    refine List.map_congr_left fun k _ => ?_
    omega
  · have : q - p = 0 := by omega
    simp [hlt, this]

/-- z[lo:hi] -/
def cutS (z : Str) (lo hi : Option Int) : Str :=
  ⟨((z.cps.toList.drop (HT.sIx z.length 0 lo)).take (HT.sIx z.length z.length hi - HT.sIx z.length 0 lo)).toArray⟩
theorem sliceText_cut (z : Str) (lo hi : Option Int) : PySem.StrLaws.sliceText z lo hi = cutS z lo hi := by
  have h1 : HT.sIx z.length 0 lo ≤ z.length := HT.sIx_le _ _ (Nat.zero_le _) _
  have h2 : HT.sIx z.length z.length hi ≤ z.length := HT.sIx_le _ _ (Nat.le_refl _) _
  have hp : HT.sIx z.length 0 lo ≤ max (HT.sIx z.length 0 lo) (HT.sIx z.length z.length hi) := Nat.le_max_left _ _
  have hq : max (HT.sIx z.length 0 lo) (HT.sIx z.length z.length hi) ≤ z.length := Nat.max_le.mpr ⟨h1, h2⟩
  have hd : max (HT.sIx z.length 0 lo) (HT.sIx z.length z.length hi) - HT.sIx z.length 0 lo = HT.sIx z.length z.length hi - HT.sIx z.length 0 lo := by omega
  have e : Builtin.Str.strSliceIndices lo hi 1 z.length =
      Builtin.Str.strSliceIndices (some ((HT.sIx z.length 0 lo : Nat) : Int)) (some ((max (HT.sIx z.length 0 lo) (HT.sIx z.length z.length hi) : Nat) : Int)) 1 z.length := by
    rw [PySem.StrLaws.strSliceIndices_plain hp hq, hd, sidx]
  have e2 : PySem.StrLaws.sliceText z lo hi =
      PySem.StrLaws.sliceText z (some ((HT.sIx z.length 0 lo : Nat) : Int)) (some ((max (HT.sIx z.length 0 lo) (HT.sIx z.length z.length hi) : Nat) : Int)) := by
    unfold PySem.StrLaws.sliceText
    rw [e]
  rw [e2, PySem.StrLaws.sliceText_nat z hp hq, hd]
  rfl
theorem cutS_length (z : Str) (lo hi : Option Int) : (cutS z lo hi).length ≤ z.length := by
  show (((z.cps.toList.drop (HT.sIx z.length 0 lo)).take (HT.sIx z.length z.length hi - HT.sIx z.length 0 lo)).toArray).size ≤ z.cps.size
  rw [List.size_toArray, List.length_take, List.length_drop, Array.length_toList]
  omega
def rSlS : V → Option Int → Option Int → Hp → VK → Prop := fun x lo hi H Q => ∃ z, x = .str z ∧ z.length ≤ sizeLine ∧ Q (.str (cutS z lo hi)) H
theorem sl_str {X : Cx} : SlR X rSlS := by
  intro pins s σ H x v vl vu lo hi sl Q I rx hs pl pu h
  obtain ⟨z, rfl, hz, q⟩ := h
  obtain ⟨t, rfl⟩ := rx
  obtain ⟨os, hos, hcs, hds⟩ := hs
  obtain ⟨l, rfl, rfl⟩ := IsPart.raw pl
  obtain ⟨u, rfl, rfl⟩ := IsPart.raw pu
  refine ⟨"str", _, F.slot_str_getitem.lookup, typeIs_str _ _ _, ?_⟩
  refine wpAny_getItem_str_slice (l := l) (u := u) (st := none) ⟨os, hos, hcs, hds⟩ rfl ?_
  have hl : (PySem.StrLaws.sliceText z (l.map (·.1)) (u.map (·.1))).length ≤ sizeLine := by
    rw [sliceText_cut]
    exact Nat.le_trans (cutS_length z _ _) hz
  rw [← sliceText_cut] at q
  unfold PySem.StrLaws.sliceText at q hl
  show Made.post (if ((1 : Int) == 1 && (Builtin.Str.strSliceIndices (l.map (·.1)) (u.map (·.1)) 1 z.length).length == z.length) = true then Made.val (.str z t)
    else Made.str ⟨((Builtin.Str.strSliceIndices (l.map (·.1)) (u.map (·.1)) 1 z.length).filterMap (z.cps[·]?)).toArray⟩) (EP X pins σ Q) s
  by_cases c : ((1 : Int) == 1 && (Builtin.Str.strSliceIndices (l.map (·.1)) (u.map (·.1)) 1 z.length).length == z.length) = true
  · rw [if_pos c] at q ⊢
    exact ⟨.str z, H, I, ⟨t, rfl⟩, q⟩
  · rw [if_neg c] at q hl ⊢
    exact ⟨hl, .str _, H, I.tok _, ⟨_, rfl⟩, q⟩
end L2

namespace Att
open PySem PySem.W PySem.Calls PyProof.Rows

theorem ints_of_wellAll {P : Params} {h : Heap} : ∀ (ns : List Int) (vs : List Value), WellAll P h vs (ns.map WData.int) → IntsAre vs ns := by
  intro ns
  induction ns with
  | nil =>
    intro vs w
    rw [List.map_nil] at w
    cases w
    exact .nil
  | cons n ns ih =>
    intro vs w
    rw [List.map_cons] at w
    cases w with
    | cons a b =>
      cases a
      exact .cons _ _ (ih _ b)

theorem script_of {l : OpenLaw} {n : Nat} (hn : l.most = some n) {P : Params} {h : Heap} {args : List WData} {vals : List Value}
    (hpre : l.row.toRowW.claim.pre args = true) (hwl : WellAll P h vals args) :
    ∃ a vs ns, vals = [Value.ref a] ∧ args = [WData.list (ns.map WData.int)] ∧ h.get? a = some { cls := .type "list", data := .seq vs.toArray } ∧ IntsAre vs ns ∧ ns.length ≤ n := by
  have hsh : WShape.hasAll [] args [.list .int] = true := (pre_splitW hpre).1
  have hc : l.pre.holds [] { args := args } = true := (pre_splitW hpre).2
  obtain ⟨d, r, rfl, h1, h2⟩ := hasAllW_cons hsh
  obtain rfl := hasAllW_nil h2
  obtain ⟨xs, rfl, h3⟩ := hasW_list h1
  obtain ⟨ns, rfl⟩ := items_int h3
  have hlen : ns.length ≤ n := by
    unfold OpenLaw.pre at hc
    have h4 : (WTm.not (.lt (.lit (.int (n : Int))) (.len (.arg 0)))).holds [] { args := [.list (ns.map .int)] } = true := by
      have h4 := (holds_andW hc).1
      rw [hn] at h4
      exact h4
    have h5 := condW_of h4 (w_not (w_lt w_lit (w_len_list (w_arg rfl))))
    rw [List.length_map] at h5
    refine Nat.le_of_not_lt fun q => ?_
    have q' : (n : Int) < ((ns.length : Nat) : Int) := by omega
    first
      | (rw [decide_eq_true q'] at h5; exact absurd h5 (by decide))
      | (simp at h5; omega)
  cases hwl with
  | cons w1 w2 =>
    cases w2
    cases w1 with
    | list ho hall => exact ⟨_, _, ns, rfl, rfl, ho, ints_of_wellAll ns _ hall, hlen⟩

theorem post_true (l : OpenLaw) (args : List WData) : l.row.toRowW.claim.post args (.bool true) args = true :=
  postW_of (r := l.row.toRowW) (X := (true == true))
    (show WShape.has [] (.bool true) .bool = true by first | rfl | decide | simp [WShape.has, WShape.arms, WShape.armsAll])
    (show (WTm.eq .res (.lit (.bool true))).value [] { args := args, res := some (.bool true), after := args } = some (.bool (true == true)) from w_eq_bool (w_res rfl) w_lit) rfl

/-- the same from a codeAny of the CALL (for a layer whose function contracts speak of calls) -/
theorem attach_call {l : OpenLaw} {n : Nat} {q : Program} {loose : List Str} {XP : (Str → Option Value) → Heap → Prop} {YP : World → Heap → Prop} {d : DefRec}
    (hn : l.most = some n) (hdf : d.params.defaults = [])
    (call : ∀ (w : World) (s₀ s₁ : Shared) (mg mb : Str → Option Value) (fa : Addr) (o : Obj) (pm cd doc : Value) (a : Addr) (vs : List Value) (ns : List Int),
      Ground q loose [] XP w s₀ mg mb s₁.heap → YP w s₁.heap →
      s₁.heap.get? fa = some o → o.data = .func (docDef d.name d.params d.body d.scope pm cd doc) → s₁.heap.CodeRec cd d.name → mg d.name = some (.ref fa) →
      s₁.heap.get? a = some { cls := .type "list", data := .seq vs.toArray } → IntsAre vs ns → ns.length ≤ n → s₁.gens = #[] →
      codeAny (model l.prog w) callerA (.call (.ref fa) ⟨[.ref a], []⟩) (fun r s' => r = .ok (.ret (.bool true)) ∧ OldK s₁.heap s'.heap ∧ s'.os = s₁.os ∧ AllBare s'.gens) s₁) :
    WalkO q loose XP YP l.row.toRowW d [] (fun f vs => PySem.call f vs) := by
  intro w s₀ s₁ mg mb G Y fa o pm cd doc dV kV ho hd hcd hD hmg hg args vals as hpre hlay hrd hwl hlo
  obtain rfl : dV = .none := Dflts.none hD hdf
  obtain rfl : kV = .none := Dflts.noKw hD
  obtain ⟨a, vs, ns, rfl, rfl, hobj, hints, hlen⟩ := script_of hn hpre hwl
  refine enter_call (codeAny_mono (call w s₀ s₁ mg mb fa o pm cd doc a vs ns G Y ho (fd_plain hd) hcd hmg hobj hints hlen hg) fun r s' hq => ?_)
  obtain ⟨rfl, h2, h3, h4⟩ := hq
  exact ⟨.inl ⟨.bool true, .bool true, [], rfl, fun _ => rfl, .bool true, post_true l _, fun _ => ⟨List.Pairwise.nil, fun _ hm => (nomatch hm)⟩⟩, h2, h3, h4⟩

section
variable {prog : Program} {w : World} {A : Around} {E : Value → Shared → Prop} {s : Shared} {K : Frag}

end
end Att

namespace L2
open PySem PySem.Spec PyProof.Rows

theorem vals_ints : ∀ {vs : List Value} {ns : List Int}, IntsAre vs ns → Vals (ns.map V.int) vs
  | _, _, .nil => .nil
  | _, _, .cons n t h => .cons ⟨t, rfl⟩ (vals_ints h)

/-- nothing is tracked but the script, known to the object (or it is an object of the module) -/
def Only (H : Hp) : Prop := ∀ b, H b = none ∨ ∃ o xs, H b = some (.frz o (.lst xs))

/-- THE HEAD: the law's promise, at the heap behind the top. F, the promise of the law's def, may use that base is part of the heap (so K.In base, base.Ns mainGlobals mg stand in Mod) -/
theorem law_call {P : Program} {w : World} {K : PySem.W.Frag} {mg mb : Str → Option Value} {CX : CXT} {k : Nat} {fa a : Addr} {fd : FuncData} {x : Str} {sp : Sp} {s₁ : Shared} {vs : List Value} {ns : List Int}
    (KX : K.In s₁.heap) (hns : s₁.heap.Ns mainGlobals mg) (hb : s₁.heap.Ns builtinsNs mb) (hbb : ∀ x : Str, x ≠ "__name__" → mb x = bootBuiltins x) (hlim : s₁.heap.NoLimit) (hsy : ∃ mm, s₁.heap.Ns sysModules mm) (hg : s₁.gens = #[])
    (ha : s₁.heap.get? a = some { cls := .type "list", data := .seq vs.toArray }) (hi : IntsAre vs ns) (hl : ns.length ≤ sizeLine) (hr : Room k callerA)
    (F : ∀ base : Heap, K.In base → base.Ns mainGlobals mg → FnOk P w K mg base CX k fa fd [x] sp) (hbind : ∀ (s : Shared) (u : Value), BindsTo s fd ⟨[u], []⟩ [(x, u)])
    (hsp : ∀ H : Hp, Only H → SqL K H a (ns.map V.int) → sp [.ref a] H (fun v _ => v = .bl true) fun _ _ _ => False)
    (hCX : ∀ H e s', CX [] H s₁ (fun _ _ _ => False) e s' → False) :
    codeAny (model P w) callerA (.call (.ref fa) ⟨[.ref a], []⟩) (fun r s' => r = .ok (.ret (.bool true)) ∧ OldK s₁.heap s'.heap ∧ s'.os = s₁.os ∧ AllBare s'.gens) s₁ := by
  have rv := vals_ints hi
  have lenV := hi.length
  -- from an abstract heap in which nothing but the script may be tracked
  have core : ∀ H : Hp, Only H → SqL K H a (ns.map V.int) → HOk P w H s₁.heap → (∀ b, H b ≠ none → b = a) → (H a ≠ none → K.lookup a = none) →
      codeAny (model P w) callerA (.call (.ref fa) ⟨[.ref a], []⟩) (fun r s' => r = .ok (.ret (.bool true)) ∧ OldK s₁.heap s'.heap ∧ s'.os = s₁.os ∧ AllBare s'.gens) s₁ := by
    intro H hO hS hok hA hK
    have base_of : ∀ {b : Addr} {o : Obj}, s₁.heap.get? b = some o → H b = none → (hidT s₁.heap H).get? b = some o := fun e n => hidT_get e n
    have noA : ∀ {b : Addr} {o : Obj} {es : Array DictEntry} {ep : Nat}, s₁.heap.get? b = some o → o.data = .dict es ep → H b = none := fun {b o es ep} e d => by
      cases q : H b with
      | none => rfl
      | some u =>
        have e' : b = a := hA b (by rw [q]; simp)
        subst e'
        rw [ha] at e; cases e
        have d' : Data.seq vs.toArray _ = Data.dict es ep := d
        cases d'
    have nsK : ∀ {b : Addr} {m : Str → Option Value}, s₁.heap.Ns b m → (hidT s₁.heap H).Ns b m := fun {b m} ⟨o, es, ep, e, d, r⟩ => ⟨o, es, ep, base_of e (noA e d), d, r⟩
    have hKb : K.In (hidT s₁.heap H) := fun b o e => base_of (KX b o e) (by
      cases q : H b with
      | none => rfl
      | some u =>
        have e' : b = a := hA b (by rw [q]; simp)
        subst e'
        rw [hK (by rw [q]; simp)] at e; cases e)
    have hM : Mod K mg (hidT s₁.heap H) := ⟨hKb, nsK hns, ⟨mb, nsK hb, hbb⟩, let ⟨mc, h1, h2⟩ := hlim; ⟨mc, nsK h1, h2⟩, let ⟨mm, h1⟩ := hsy; ⟨mm, nsK h1⟩⟩
    have e0 : Env0 P w K mg (hidT s₁.heap H) callerA [] s₁ H := ⟨rfl, hM, fun b o e => of_hidT e, Nat.le_of_eq (hidT_size _ _), trivial, fun b hb => absurd (show b ∈ ([] : List Addr) from hb) (by simp), hok, .of_eq hg⟩
    refine codeAny_mono ((F _ hKb (nsK hns)).run callerA [] s₁ H ⟨[.ref a], []⟩ [.ref a] [.ref a] _ _ hr e0 (hbind s₁ (.ref a)) (.cons rfl .nil) (hsp H hO hS)) fun r s' h => ?_
    cases r with
    | error e => exact (hCX H e s' h).elim
    | ok fl =>
      cases fl with
      | next => exact False.elim h
      | brk => exact False.elim h
      | cont => exact False.elim h
      | ret u =>
        obtain ⟨v, H', os, bare, un, hok', r', q⟩ := h
        have q' : v = .bl true := q
        subst q'
        obtain rfl : u = Value.bool true := r'
        refine ⟨rfl, OldK.of_keep fun b o e => ?_, os, bare⟩
        cases q : H b with
        | none => exact un.keep b o e q (by intro z; exact absurd (show b ∈ ([] : List Addr) from z) (by simp)) (by simp)
        | some u =>
          rcases hO b with z | ⟨ob, xs, z⟩
          · rw [q] at z; cases z
          · have z2 := un.frzs b ob _ z
            obtain ⟨e1, _⟩ := hok b _ z
            obtain ⟨e2, _⟩ := hok' b _ z2
            rw [e] at e1; cases e1
            exact e2
  cases hk : K.lookup a with
  | some o =>
    -- the script is one of the module's own objects
    have e := KX a o hk
    rw [ha] at e
    cases e
    refine core (fun _ => none) (fun _ => .inl rfl) (.inr ⟨_, vs.toArray, _, hk, rfl, rfl, rfl, by rw [List.size_toArray, lenV]; exact hl, by simpa using rv⟩) (fun b u z => by have z' : (none : Option HO) = some u := z; cases z') (fun b z => absurd rfl z) fun z => absurd rfl z
  | none =>
    refine core (fun b => if b = a then some (.frz { cls := .type "list", data := .seq vs.toArray } (.lst (ns.map V.int))) else none) (fun b => ?_) (.inl (.inr ⟨{ cls := .type "list", data := .seq vs.toArray }, if_pos rfl⟩)) (fun b u z => ?_) (fun b z => ?_) fun _ => hk
    · by_cases hb : b = a
      · exact .inr ⟨_, _, if_pos hb⟩
      · exact .inl (if_neg hb)
    · by_cases hb : b = a
      · have z' := (if_pos hb).symm.trans z
        cases z'
        subst hb
        exact ⟨ha, by rw [List.length_map]; exact hl, vs, _, rv, ha⟩
      · have z' := (if_neg hb).symm.trans z
        cases z'
    · by_cases hb : b = a
      · exact hb
      · exact absurd (if_neg hb) z
end L2

namespace L2
open PySem PySem.Spec PyProof.Rows

abbrev KOf {K : PySem.W.Frag} {h : Heap} (_ : K.In h) : PySem.W.Frag := K

/-- the goal that k_head leaves (case hc), from the law's promise. F gives the function object fd (K's own) once, then the promise over every base -/
theorem walk_of {l : PySem.W.OpenLaw} {n k : Nat} {q : Program} {loose : List Str} {XP : (Str → Option Value) → Heap → Prop} {YP : World → Heap → Prop} {d : DefRec} {K : Params → PySem.W.Frag} {CX : World → CXT} {sp : World → Sp} {x : Str}
    (himp : importsNone q = true) (hn : l.most = some n) (hn2 : n ≤ sizeLine) (hdf : d.params.defaults = []) (hr : Room k callerA)
    (hY : ∀ (w : World) (h : Heap), YP w h → (K w.params).In h)
    (F : ∀ (w : World) (mg : Str → Option Value) (fa : Addr) (h : Heap), (K w.params).In h → h.Ns mainGlobals mg → mg d.name = some (.ref fa) →
      ∃ fd : FuncData, (∀ (s : Shared) (u : Value), BindsTo s fd ⟨[u], []⟩ [(x, u)]) ∧
        ∀ base : Heap, (K w.params).In base → base.Ns mainGlobals mg → FnOk l.prog w (K w.params) mg base (CX w) k fa fd [x] (sp w))
    (hsp : ∀ (w : World) (H : Hp) (a : Addr) (ns : List Int), ns.length ≤ n → Only H → SqL (K w.params) H a (ns.map V.int) → sp w [.ref a] H (fun v _ => v = .bl true) fun _ _ _ => False)
    (hCX : ∀ (w : World) (H : Hp) (s : Shared) (e : Value) (s' : Shared), CX w [] H s (fun _ _ _ => False) e s' → False) :
    PySem.W.WalkO q loose XP YP l.row.toRowW d [] (fun f vs => PySem.call f vs) := by
  refine Att.attach_call hn hdf fun w s₀ s₁ mg mb fa o pm cd doc a vs ns G Y ho hd hcd hmg hobj hints hlen hg => ?_
  have KX := hY w _ Y
  obtain ⟨fd, hb, hF⟩ := F w mg fa _ KX G.T.g hmg
  exact law_call KX G.T.g G.T.b G.T.builtins G.T.nolimit (let ⟨mm, a, _⟩ := (G.T.seer himp).mods; ⟨mm, a⟩) hg hobj hints (Nat.le_trans hlen hn2) hr hF hb (fun H hO hS => hsp w H a ns hlen hO hS) fun H e s' => hCX w H s₁ e s'
end L2

namespace L2
open PySem PySem.Spec PyProof.Rows

def defArgs (s : Stmt) : Arguments := match s with
  | .FunctionDef _ a _ _ _ _ _ _ _ _ => a
  | _ => { posonlyargs := [], args := [], vararg := none, kwonlyargs := [], kw_defaults := [], kwarg := none, defaults := [] }
def defBody (s : Stmt) : List Stmt := match s with
  | .FunctionDef _ _ b _ _ _ _ _ _ _ => b
  | _ => []
def defScope (s : Stmt) : Scope := match s with
  | .FunctionDef _ _ _ _ _ _ sc _ _ _ => sc
  | _ => { kind := .function, names := [], isGenerator := false, isCoroutine := false }

abbrev CX0 : CXT := fun _ _ _ _ _ _ => False
abbrev E0 : XK := fun _ _ _ => False
theorem pass0 {X : Cx} : Passes CX0 X E0 := fun _ _ _ _ _ _ _ h => h.elim

structure Fun (K : PySem.W.Frag) (x qual : Str) (st : Stmt) (f : Addr) (fd : FuncData) : Prop where
  ex : ∃ (oc : Value) (od : Option Addr) (kV doc pm : Value) (an : Option Addr) (cdv ct : Value) (osl : Array (Option Value)),
    fd = PySem.W.fnOf x qual (defArgs st) (defBody st) (defScope st) .none kV doc pm an cdv ct ∧ K.lookup f = some ⟨oc, od, .func fd, osl⟩ ∧ PySem.W.codeIn K cdv qual = true
  kp : PySem.W.keepIn K (.ref f) = true
section
variable {P : Program} {w : World} {K : PySem.W.Frag} {mg : Str → Option Value} {base : Heap}
/-- THE RULE for a def: its body as a term of rules, and the reading of that term -/
theorem Fun.ok {x qual : Str} {st : Stmt} {f : Addr} {fd : FuncData} {N ps : List Str} {k : Nat} {sp : Sp} (F : Fun K x qual st f fd) (S : FnScope N ps (defScope st)) (len : ∀ vs H Q E, sp vs H Q E → vs.length = ps.length)
    (hbody : ∀ (cdv : Value) (A : Around) (outer : List Env) (s : Shared) (H : Hp) (vs : List V) (Q : VK) (E : XK), Room k (A.deeper (envOfC qual (defScope st) s.heap.objs.size f cdv)) → sp vs H Q E →
      ∃ t, PSs (cxOf CX0 P w K mg base N qual (defScope st) f cdv A outer s H E).nox (defBody st) t ∧ t { nx := fun _ H' => Q .non H', rt := Q } (start N vs) H) : FnOk P w K mg base CX0 (k + 1) f fd ps sp := by
  obtain ⟨oc, od, kV, doc, pm, an, cdv, ct, osl, rfl, lk, hcd⟩ := F.ex
  refine fn_of lk hcd S len fun A outer s H vs Q E hr hsp => ?_
  obtain ⟨t, h, q⟩ := hbody cdv A outer s H vs Q E hr hsp
  exact ⟨t, h.nox, q⟩
/-- how its arguments bind (no defaults): h is «fun _ _ _ _ _ _ us hl => match us, hl with | [_, _], _ => rfl», one _ a parameter -/
theorem Fun.binds {x qual : Str} {st : Stmt} {f : Addr} {fd : FuncData} {ps : List Str} (F : Fun K x qual st f fd)
    (h : ∀ (kV doc pm : Value) (an : Option Addr) (cdv ct : Value) (us : List Value), us.length = ps.length → bindArgs (PySem.W.fnOf x qual (defArgs st) (defBody st) (defScope st) .none kV doc pm an cdv ct) ⟨us, []⟩ = pure (ps.zip us)) : Binds K fd ps [] := by
  obtain ⟨oc, od, kV, doc, pm, an, cdv, ct, osl, rfl, lk, hcd⟩ := F.ex
  exact .all (h kV doc pm an cdv ct)
theorem fun_mk {x qual : Str} {st : Stmt} {f : Addr} {oc : Value} {od an : Option Addr} {osl : Array (Option Value)} {kV doc pm cdv ct : Value} (l : K.lookup f = some ⟨oc, od, .func (PySem.W.fnOf x qual (defArgs st) (defBody st) (defScope st) .none kV doc pm an cdv ct), osl⟩)
    (c : PySem.W.codeIn K cdv qual = true) (k : PySem.W.keepIn K (.ref f) = true) : Fun K x qual st f (PySem.W.fnOf x qual (defArgs st) (defBody st) (defScope st) .none kV doc pm an cdv ct) := ⟨⟨oc, od, kV, doc, pm, an, cdv, ct, osl, rfl, l, c⟩, k⟩
end
theorem hu_of {A : Around} {k : Nat} (hr : Room k A) : A.units + 1 < cLine := Nat.lt_of_le_of_lt (Nat.add_le_add_left (by decide : 1 ≤ 64) _) hr.units
section
variable {X : Cx}
theorem pv (i : Nat) {x : Str} {pos : Pos} (hN : X.N[i]? = some x := by rfl) (hv : Vis X.env.scope x := by first | exact Or.inl rfl | exact Or.inr (Or.inl rfl) | exact Or.inr (Or.inr rfl)) (hd : (x == ("__debug__" : Str)) = false := by decide)
    (hcd : (x == ("__classdict__" : Str)) = false := by decide) : PE X (.Name x pos) (tVar i) := pe_var hN hv hd hcd
end

theorem iteF {A B : Prop} (h : B) : if false = true then A else B := by
  rw [if_neg Bool.false_ne_true]
  exact h
theorem ite2 {c A B : Prop} [Decidable c] (h1 : c → A) (h2 : ¬ c → B) : if c then A else B := by
  by_cases h : c
  · rw [if_pos h]
    exact h1 h
  · rw [if_neg h]
    exact h2 h
/-- all that was tracked is as it was -/
def Same (H H' : Hp) : Prop := ∀ b o, H b = some o → H' b = some o
theorem Same.refl (H : Hp) : Same H H := fun _ _ h => h
theorem Same.trans {H H1 H2 : Hp} (a : Same H H1) (b : Same H1 H2) : Same H H2 := fun c o h => b c o (a c o h)
theorem Same.free {H H' : Hp} (e : Same H H') {l : Addr} (h : H' l = Option.none) : H l = Option.none := by
  cases q : H l with
  | none => rfl
  | some o =>
    rw [e l o q] at h
    cases h
theorem Same.seq {K : PySem.W.Frag} {H H' : Hp} {a : Addr} {xs : List V} (e : Same H H') (h : SqL K H a xs) : SqL K H' a xs := by
  rcases h with (h | ⟨o, h⟩) | h
  · exact .inl (.inl (e _ _ h))
  · exact .inl (.inr ⟨o, e _ _ h⟩)
  · exact .inr h

section
variable {κ : Type} [DecidableEq κ]
end
end L2

namespace Gg
open PySem
section
variable {prog : Program} {w : World} {A : Around} {E : Value → Shared → Prop} {s : Shared}

end

section
variable {prog : Program} {w : World} {A : Around} {E : Value → Shared → Prop} {s : Shared}
variable {z TI TO i1 i2 : Addr} {f1 f2 : List Addr} {n1 n2 k : Nat} {P1 P2 : Nat → Value → Prop} {S1 S2 : Nat → Heap → Prop} {a b : Value}

end

section
variable {prog : Program} {w : World} {A : Around} {E : Value → Shared → Prop} {s : Shared}
end
end Gg

namespace Gg
open PySem PySem.Spec PyProof.Rows L2

def rCatA (K : PySem.W.Frag) : R2 := fun x y H Q => ∃ a b xs ys, x = .ref a ∧ y = .ref b ∧ SqT K H a xs ∧ SqT K H b ys ∧ xs.length + ys.length ≤ sizeLine ∧
  (xs = [] → Q (.ref b) H) ∧ (xs ≠ [] → ys = [] → Q (.ref a) H) ∧ (xs ≠ [] → ys ≠ [] → ∀ p, H p = none → Q (.ref p) (upd H p (.tup (xs ++ ys))))
theorem op_catA {X : Cx} : OpR X (binaryOp .Add) (rCatA X.K) := by
  intro pins s σ H x y v u Q I rx ry h
  obtain ⟨a, b, xs, ys, ex, ey, ha, hb, hz, q0, q1, q2⟩ := h
  by_cases hx : xs = []
  · subst ex ey
    cases rx
    cases ry
    obtain ⟨its, r1, p1, _⟩ := I.tuple ha
    obtain ⟨its2, r2, p2, _⟩ := I.tuple hb
    have e : its = [] := r1.nil_iff.mpr hx
    obtain ⟨⟨cls, dd, data, sl⟩, ho, hc, n, hd⟩ := id p1
    obtain ⟨⟨cls2, dd2, data2, sl2⟩, ho2, hc2, n2, hd2⟩ := id p2
    simp only at hc hd hc2 hd2
    subst hc hd hc2 hd2
    exact concat_meets ⟨_, ho, rfl⟩ ⟨_, ho2, rfl⟩ noFill_tuple_add seq_tuple_add PySem.F.slot_tuple_add PySem.F.entry_tuple_add (PySem.F.args_tuple_add_2 _ _)
      (tuple_addW0 a b its.toArray its2.toArray n n2 dd dd2 sl sl2 (by simp [e])) ⟨ho, ho2, ⟨.ref b, H, I, rfl, q0 hx⟩⟩
  · exact op_catT pins s σ H x y v u Q I rx ry ⟨a, b, xs, ys, ex, ey, ha, hb, hx, hz, q1 hx, q2 hx⟩

section
variable {prog : Program} {w : World} {A : Around} {E : Value → Shared → Prop} {s : Shared} {l : Addr} {its : List Value} {ns : List Int} {Q : Value → Shared → Prop}
theorem iterTup {ys : Array Value} {Q : Value → Shared → Prop} (hl : s.heap.IsTuple l ys)
    (h : ∀ s₂ : Shared, s₂ = { s with heap := s.heap.push { cls := .type "tuple_iterator", data := .fields #[.ref l, .int 0 0] } } →
      (s₂.heap.IsTupleIter s.heap.objs.size l 0 ∧ s₂.heap.IsTuple l ys) → (∀ b ∈ [s.heap.objs.size, l], b < s₂.heap.objs.size) → l ≠ s.heap.objs.size → Q (.ref s.heap.objs.size) s₂) :
    wpAny (model prog w) A (pyIter (.ref l)) Q E s := by
  have lt : l < s.heap.objs.size := by obtain ⟨_, e, _⟩ := hl; exact Heap.lt_size e
  refine wpAny_pyIter_tuple hl (h _ rfl ⟨⟨_, Heap.get?_push_size _ rfl, rfl, rfl⟩, hl.push _⟩ (fun b hb => ?_) (Nat.ne_of_lt lt))
  show b < (s.heap.push _).objs.size
  rw [Heap.size_push]
  have e : b = s.heap.objs.size ∨ b = l := by simpa using hb
  rcases e with e | e <;> rw [e]
  · exact Nat.lt_succ_self _
  · exact Nat.lt_succ_of_lt lt
theorem kept1 {o : Obj} {h' : Heap} (hk : ∀ b u, b ∉ [s.heap.objs.size] → (s.heap.push o).get? b = some u → h'.get? b = some u) : ∀ b u, s.heap.get? b = some u → h'.get? b = some u := fun b u e =>
  hk b u (by simp; exact Nat.ne_of_lt (Heap.lt_size e)) (Heap.get?_push_of_some _ e)
theorem maxT_raw (hh : A.handled = none) (hl : s.heap.IsTuple l its.toArray) (hi : IntsAre its ns) (hne : 0 < ns.length)
    (h : ∀ h' tk M t', (∀ b o, s.heap.get? b = some o → h'.get? b = some o) → M ∈ ns → (∀ a, a ∈ ns → a ≤ M) → Q (.int M t') { s with heap := h', toks := tk }) : wpAny (model prog w) A (call (.builtin "max") [.ref l]) Q E s := by
  obtain ⟨xs, e⟩ := hi.allInts.items
  have hn : numsOf (intItems xs).toList = ns := by rw [← e]; exact hi.numsOf
  rw [nums_intItems] at hn
  subst hn
  rw [e] at hl
  have hsz : 0 < xs.size := by simpa using hne
  refine call_max_walk (iterTup hl fun s₂ es st hfp hlI => ?_)
  subst es
  refine ⟨_, _, _, _, _, _, _, rfl, Walks.tuple (A := A.in1) hh _ l hlI (intItems xs), st, hfp, by simpa [intItems] using hsz, CmpOf.ints_gt (numAt xs) (fun _ _ => intItems_at), fun v h' tk hP hk => ?_⟩
  have hv : (intItems xs)[argBest (fun i j => decide (numAt xs i > numAt xs j)) (xs.size - 1)]? = some v := by simpa [intItems] using hP
  obtain ⟨t, rfl⟩ := intItems_at hv
  obtain ⟨h1, h2⟩ := argBest_gt (numAt xs) (xs.size - 1)
  refine h h' tk _ t (kept1 hk) ?_ fun a ha => ?_
  · rw [numAt_eq]; exact PySem.getD_mem (by rw [List.length_map, Array.length_toList]; omega)
  · obtain ⟨j, hj, rfl⟩ := mem_getD ha
    rw [List.length_map, Array.length_toList] at hj
    rw [← numAt_eq]; exact h2 j (by omega)
theorem minT_raw (hh : A.handled = none) (hl : s.heap.IsTuple l its.toArray) (hi : IntsAre its ns) (hne : 0 < ns.length)
    (h : ∀ h' tk M t', (∀ b o, s.heap.get? b = some o → h'.get? b = some o) → M ∈ ns → (∀ a, a ∈ ns → M ≤ a) → Q (.int M t') { s with heap := h', toks := tk }) : wpAny (model prog w) A (call (.builtin "min") [.ref l]) Q E s := by
  obtain ⟨xs, e⟩ := hi.allInts.items
  have hn : numsOf (intItems xs).toList = ns := by rw [← e]; exact hi.numsOf
  rw [nums_intItems] at hn
  subst hn
  rw [e] at hl
  have hsz : 0 < xs.size := by simpa using hne
  refine call_min_walk (iterTup hl fun s₂ es st hfp hlI => ?_)
  subst es
  refine ⟨_, _, _, _, _, _, _, rfl, Walks.tuple (A := A.in1) hh _ l hlI (intItems xs), st, hfp, by simpa [intItems] using hsz, CmpOf.ints_lt (numAt xs) (fun _ _ => intItems_at), fun v h' tk hP hk => ?_⟩
  have hv : (intItems xs)[argBest (fun i j => decide (numAt xs i < numAt xs j)) (xs.size - 1)]? = some v := by simpa [intItems] using hP
  obtain ⟨t, rfl⟩ := intItems_at hv
  obtain ⟨h1, h2⟩ := argBest_lt (numAt xs) (xs.size - 1)
  refine h h' tk _ t (kept1 hk) ?_ fun a ha => ?_
  · rw [numAt_eq]; exact PySem.getD_mem (by rw [List.length_map, Array.length_toList]; omega)
  · obtain ⟨j, hj, rfl⟩ := mem_getD ha
    rw [List.length_map, Array.length_toList] at hj
    rw [← numAt_eq]; exact h2 j (by omega)
end
section
variable {X : Cx}
def rMaxT (K : PySem.W.Frag) : List V → Hp → VK → Prop := fun vs H Q => ∃ (a : Addr) (ns : List Int), vs = [V.ref a] ∧ SqT K H a (ns.map V.int) ∧ 0 < ns.length ∧ ∀ m, m ∈ ns → (∀ y, y ∈ ns → y ≤ m) → Q (.int m) H
def rMinT (K : PySem.W.Frag) : List V → Hp → VK → Prop := fun vs H Q => ∃ (a : Addr) (ns : List Int), vs = [V.ref a] ∧ SqT K H a (ns.map V.int) ∧ 0 < ns.length ∧ ∀ m, m ∈ ns → (∀ y, y ∈ ns → m ≤ y) → Q (.int m) H
theorem cr_maxT (hc : X.calm = true) : CallR X (.builtin "max") (rMaxT X.K) := by
  intro pins s σ H vs us Q I r h
  obtain ⟨a, ns, rfl, hs, hne, q⟩ := h
  obtain ⟨its, rv, hl, _⟩ := I.tuple hs
  rw [Vals.ref1 r]
  exact maxT_raw (I.ok.hd hc) hl rv.ints hne fun h' tk m t' hk h1 h2 => ⟨.int _, H, I.kept hk, ⟨_, rfl⟩, q m h1 h2⟩
theorem cr_minT (hc : X.calm = true) : CallR X (.builtin "min") (rMinT X.K) := by
  intro pins s σ H vs us Q I r h
  obtain ⟨a, ns, rfl, hs, hne, q⟩ := h
  obtain ⟨its, rv, hl, _⟩ := I.tuple hs
  rw [Vals.ref1 r]
  exact minT_raw (I.ok.hd hc) hl rv.ints hne fun h' tk m t' hk h1 h2 => ⟨.int _, H, I.kept hk, ⟨_, rfl⟩, q m h1 h2⟩

end
end Gg
namespace Gg
open PySem PySem.Spec PyProof.Rows L2
section
variable {X : Cx} {K : PySem.W.Frag}
theorem ix_listK (h : X.K = K := by rfl) : IxR X (rIxL K) := by subst h; exact ix_list
theorem sl_listK (h : X.K = K := by rfl) : SlR X (rSlL K) := by subst h; exact sl_list
theorem op_neDK (hu : X.A.units + 64 < cLine) (h : X.K = K := by rfl) : OpR X (compareOp .NotEq) (rNeD K) := by subst h; exact op_neD hu
def rLenS (K : PySem.W.Frag) : List V → Hp → VK → Prop := fun xs H Q => ∃ p ys, xs = [.ref p] ∧ (SqL K H p ys ∨ SqT K H p ys) ∧ Q (.int ys.length) H
theorem call_lenK (h : X.K = K := by rfl) : CallR X (.builtin "len") (rLenS K) := by subst h; exact call_len_seq
def rListOf (K : PySem.W.Frag) : List V → Hp → VK → Prop := fun xs H Q => ∃ p ys, xs = [.ref p] ∧ (SqL K H p ys ∨ SqT K H p ys) ∧ ∀ l, H l = none → Q (.ref l) (upd H l (.lst ys))
theorem call_listK (h : X.K = K := by rfl) : CallR X (.type "list") (rListOf K) := by subst h; exact call_list_of
end
end Gg

namespace Gg
open PySem PySem.Spec PyProof.Rows L2

mutual
def wt : PyData → Nat
  | .none => 4
  | .bool _ => 5
  | .int i => i.natAbs.log2 + 2
  | .str x => 10 * x.length + 2
  | .list xs => wtAll xs + 3
  | .tuple xs => wtAll xs + 3
  | .dict _ => 0
def wtAll : List PyData → Nat
  | [] => 0
  | x :: xs => wt x + 2 + wtAll xs
end
mutual
def fine : PyData → Bool
  | .none => true
  | .bool _ => true
  | .int i => decide (i.natAbs.log2 < 1920)
  | .str x => PyData.strOk x
  | .list xs => fineAll xs
  | .tuple xs => fineAll xs
  | .dict _ => false
def fineAll : List PyData → Bool
  | [] => true
  | x :: xs => fine x && fineAll xs
end
mutual
theorem shown_wt : ∀ d : PyData, fine d = true → d.shown.length ≤ wt d ∧ d.showable = true
  | .none, _ => ⟨by rw [PyData.shown_none, wt]; decide, by rw [PyData.showable]⟩
  | .bool b, _ => ⟨by rw [PyData.shown_bool, wt]; cases b <;> decide, by rw [PyData.showable]⟩
  | .int i, h => by
    rw [fine] at h
    have h' := of_decide_eq_true h
    refine ⟨?_, by rw [PyData.showable]; exact h⟩
    rw [PyData.shown_int, wt]
    have e := int_text_length_le (a := i) (k := i.natAbs.log2 + 1) (by omega) (by omega)
    show (Str.ofString (toString i)).length ≤ i.natAbs.log2 + 2
    rw [PySem.ofString_length]
    exact e
  | .str x, h => by
    rw [fine] at h
    refine ⟨?_, by rw [PyData.showable]⟩
    rw [PyData.shown_str, wt]
    refine StrLaws.reprText_len x fun c hc => ?_
    have q : x.cps.all (· < 0x110000) = true := h
    rw [Array.all_eq_true_iff_forall_mem] at q
    have q2 := q c (by simpa using hc)
    have q3 : c < 0x110000 := by simpa using q2
    omega
  | .list xs, h => by
    rw [fine] at h
    obtain ⟨h1, h2⟩ := shownAll_wt xs h
    refine ⟨?_, by rw [PyData.showable]; exact h2⟩
    have e := listText_len_le (PyData.shownAll xs)
    rw [PyData.shownAll_length] at e
    rw [PyData.shown, wt]
    omega
  | .tuple xs, h => by
    rw [fine] at h
    obtain ⟨h1, h2⟩ := shownAll_wt xs h
    refine ⟨?_, by rw [PyData.showable]; exact h2⟩
    have e := tupleText_len_le (PyData.shownAll xs)
    rw [PyData.shownAll_length] at e
    rw [PyData.shown, wt]
    omega
  | .dict _, h => by rw [fine] at h; cases h
theorem shownAll_wt : ∀ xs : List PyData, fineAll xs = true → ((PyData.shownAll xs).map (·.length)).sum + 2 * xs.length ≤ wtAll xs ∧ PyData.showableAll xs = true
  | [], _ => ⟨by simp [PyData.shownAll, wtAll], by rw [PyData.showableAll]⟩
  | x :: xs, h => by
    rw [fineAll, Bool.and_eq_true] at h
    obtain ⟨a1, a2⟩ := shown_wt x h.1
    obtain ⟨b1, b2⟩ := shownAll_wt xs h.2
    refine ⟨?_, by rw [PyData.showableAll, a2, b2]; rfl⟩
    rw [PyData.shownAll, wtAll, List.map_cons, List.sum_cons, List.length_cons]
    omega
end
mutual
theorem canLay_fine : ∀ d : PyData, fine d = true → d.canLay0 = true
  | .none, _ => by rw [PyData.canLay0]
  | .bool b, _ => by rw [PyData.canLay0]
  | .int i, h => by rw [PyData.canLay0]
  | .str x, h => by rw [PyData.canLay0]; rw [fine] at h; exact h
  | .list xs, h => by rw [PyData.canLay0]; rw [fine] at h; exact canLayAll_fine xs h
  | .tuple xs, h => by rw [PyData.canLay0]; rw [fine] at h; exact canLayAll_fine xs h
  | .dict _, h => by rw [fine] at h; cases h
theorem canLayAll_fine : ∀ xs : List PyData, fineAll xs = true → PyData.canLayAll0 xs = true
  | [], _ => by rw [PyData.canLayAll0]
  | x :: xs, h => by
    rw [fineAll, Bool.and_eq_true] at h
    rw [PyData.canLayAll0, canLay_fine x h.1, canLayAll_fine xs h.2]; rfl
end
/-- good data: it may be shown and compared -/
structure Good (d : PyData) : Prop where
  fine : fine d = true
  wt : wt d ≤ 10000000
  dp : d.depth ≤ 60
theorem Good.shaped {d : PyData} (g : Good d) : SeqAt.shaped d = true := by
  unfold SeqAt.shaped
  rw [canLay_fine d g.fine]
  exact decide_eq_true (Nat.le_trans g.dp (by decide))
theorem Good.shown {d : PyData} (g : Good d) : d.showable = true ∧ d.shown.length ≤ sizeLine ∧ d.depth ≤ 60 :=
  ⟨(shown_wt d g.fine).2, Nat.le_trans (shown_wt d g.fine).1 (Nat.le_trans g.wt (by decide)), g.dp⟩

theorem dp_ints {K : PySem.W.Frag} {H : Hp} : ∀ ns : List Int, DpAll K H (ns.map V.int) (ns.map PyData.int)
  | [] => .nil
  | n :: ns => .cons (.int n) (dp_ints ns)
theorem depth_ints : ∀ ns : List Int, PyData.depthAll (ns.map PyData.int) = 0
  | [] => rfl
  | n :: ns => by rw [List.map_cons, PyData.depthAll, depth_ints ns]; rfl
def tVia (t : TS) : TS := fun D σ H => ∃ J : L2.St → Hp → Prop, t { D with nx := J } σ H ∧ ∀ σ' H', J σ' H' → D.nx σ' H'
theorem ps_via {X : Cx} {st : Stmt} {t : TS} (h : PS X st t) : PS X st (tVia t) := by
  intro pins s σ H D I q
  obtain ⟨J, q1, q2⟩ := q
  refine thn (h pins s σ H { D with nx := J } I q1) fun f s' z => ?_
  cases f with
  | next => obtain ⟨σ', H', I', j⟩ := z; exact ⟨σ', H', I', q2 σ' H' j⟩
  | brk => exact z
  | cont => exact z
  | ret u => exact z
/-- all but the pen's dict is as it was -/
def Kp (p : Addr) (H H' : Hp) : Prop := ∀ b o, b ≠ p → H b = some o → H' b = some o
theorem Kp.refl {p : Addr} {H : Hp} : Kp p H H := fun _ _ _ h => h
theorem Kp.trans {p : Addr} {H H1 H2 : Hp} (a : Kp p H H1) (b : Kp p H1 H2) : Kp p H H2 := fun c o n h => b c o n (a c o n h)
theorem Kp.new {p a : Addr} {H : Hp} {o : HO} (h : H a = none) : Kp p H (upd H a o) := fun b u _ e => by rw [upd_ne (ne_of_none e h)]; exact e
theorem Kp.pen {p : Addr} {H : Hp} {o : HO} : Kp p H (upd H p o) := fun b u n e => by rw [upd_ne n]; exact e
theorem Kp.of_same {p : Addr} {H H' : Hp} (h : Same H H') : Kp p H H' := fun b o _ e => h b o e
theorem same_new {H : Hp} {p : Addr} (h : H p = none) (o : HO) : Same H (upd H p o) := fun b u q => by rw [upd_ne (ne_of_none q h)]; exact q
/-- a list that grows: all but it is as it was -/
theorem same_put {H H' : Hp} {D : Addr} {o : HO} (s : Same H H') (n : H D = none) : Same H (upd H' D o) := fun b u q => by rw [upd_ne (ne_of_none q n)]; exact s b u q

abbrev penL (c : Addr) (turn rest : Int) : List (Key × V) := [(Sum.inr "cells", .ref c), (Sum.inr "turn", .int turn), (Sum.inr "rest", .int rest)]
theorem k1 : ¬ ((Sum.inr ("cells" : Str) : Key) = Sum.inr ("turn" : Str)) := by decide
theorem k2 : ¬ ((Sum.inr ("cells" : Str) : Key) = Sum.inr ("rest" : Str)) := by decide
theorem k3 : ¬ ((Sum.inr ("turn" : Str) : Key) = Sum.inr ("rest" : Str)) := by decide
theorem k4 : ¬ ((Sum.inr ("rest" : Str) : Key) = Sum.inr ("turn" : Str)) := by decide
theorem pen_cells {c : Addr} {t r : Int} : valV (penL c t r) (Sum.inr "cells") = some (.ref c) := valV_pos rfl
theorem pen_turn {c : Addr} {t r : Int} : valV (penL c t r) (Sum.inr "turn") = some (.int t) := (valV_neg k1).trans (valV_pos rfl)
theorem pen_rest {c : Addr} {t r : Int} : valV (penL c t r) (Sum.inr "rest") = some (.int r) := (valV_neg k2).trans ((valV_neg k3).trans (valV_pos rfl))
theorem put_turn {c : Addr} {t r u : Int} : putK (penL c t r) (Sum.inr "turn") (.int u) = penL c u r := by
  unfold putK
  rw [if_pos (by rw [valV_any, pen_turn]; rfl)]
  simp only [List.map_cons, List.map_nil, if_neg k1, if_neg k4, if_true]
theorem put_rest {c : Addr} {t r u : Int} : putK (penL c t r) (Sum.inr "rest") (.int u) = penL c t u := by
  unfold putK
  rw [if_pos (by rw [valV_any, pen_rest]; rfl)]
  simp only [List.map_cons, List.map_nil, if_neg k2, if_neg k3, if_true]
section
variable {H : Hp} {p c : Addr} {t r u : Int}
theorem get_cells (e : H p = some (.dK (penL c t r))) : DGet H p (.str "cells") (some (.ref c)) := .inl ⟨_, Sum.inr "cells", .inl e, rfl, pen_cells.symm⟩
theorem get_turn (e : H p = some (.dK (penL c t r))) : DGet H p (.str "turn") (some (.int t)) := .inl ⟨_, Sum.inr "turn", .inl e, rfl, pen_turn.symm⟩
theorem get_rest (e : H p = some (.dK (penL c t r))) : DGet H p (.str "rest") (some (.int r)) := .inl ⟨_, Sum.inr "rest", .inl e, rfl, pen_rest.symm⟩
theorem dput_turn (e : H p = some (.dK (penL c t r))) : DPut H p (.str "turn") (.int u) (upd H p (.dK (penL c u r))) := .inl ⟨_, Sum.inr "turn", e, rfl, by show 3 < sizeLine; decide, by rw [put_turn]⟩
theorem dput_rest (e : H p = some (.dK (penL c t r))) : DPut H p (.str "rest") (.int u) (upd H p (.dK (penL c t u))) := .inl ⟨_, Sum.inr "rest", e, rfl, by show 3 < sizeLine; decide, by rw [put_rest]⟩
end
/-- a pen at p, its cells at c, at most B turns old -/
def Pen (H : Hp) (p c : Addr) (B : Nat) : Prop := ∃ (cells : List Int) (turn rest : Int), H p = some (.dK (penL c turn rest)) ∧ H c = some (.lst (cells.map V.int)) ∧ cells.length ≤ 63 ∧ 0 ≤ turn ∧ turn ≤ B ∧ 0 ≤ rest
section
variable {H H' : Hp} {p c a D : Addr} {B C : Nat} {o : HO} {xs : List V} {K : PySem.W.Frag}
theorem Pen.mono (h : Pen H p c B) (l : B ≤ C) : Pen H p c C := by
  obtain ⟨cells, turn, rest, a, b, d, e, f, g⟩ := h
  exact ⟨cells, turn, rest, a, b, d, e, by omega, g⟩
theorem Pen.keep (h : Pen H p c B) (s : Same H H') : Pen H' p c B := by
  obtain ⟨cells, turn, rest, a, b, d, e, f, g⟩ := h
  exact ⟨cells, turn, rest, s _ _ a, s _ _ b, d, e, f, g⟩
theorem Pen.atp (h : Pen H p c B) : ∃ kvs, H p = some (.dK kvs) := by
  obtain ⟨cells, turn, rest, a, _⟩ := h
  exact ⟨_, a⟩
theorem Pen.atc (h : Pen H p c B) : ∃ xs, H c = some (.lst xs) := by
  obtain ⟨cells, turn, rest, a, b, _⟩ := h
  exact ⟨_, b⟩
theorem Pen.newp (h : Pen H p c B) (n : H D = none) : D ≠ p := by
  obtain ⟨_, e⟩ := h.atp
  exact (ne_of_none e n).symm
theorem Pen.newc (h : Pen H p c B) (n : H D = none) : D ≠ c := by
  obtain ⟨_, e⟩ := h.atc
  exact (ne_of_none e n).symm
theorem Pen.upd (h : Pen H p c B) (n1 : D ≠ p) (n2 : D ≠ c) : Pen (L2.upd H D o) p c B := by
  obtain ⟨cells, turn, rest, a, b, d, e, f, g⟩ := h
  exact ⟨cells, turn, rest, by rw [upd_ne n1.symm]; exact a, by rw [upd_ne n2.symm]; exact b, d, e, f, g⟩
/-- what is no dict isn't the pen -/
theorem Pen.ne (h : Pen H p c B) (e : H a = some o) (n : ∀ kvs, o ≠ .dK kvs) : a ≠ p := by
  obtain ⟨kvs, q⟩ := h.atp
  exact ne_of e q (n kvs)
theorem Kp.get (k : Kp p H H') (h : Pen H p c B) (e : H a = some o) (n : ∀ kvs, o ≠ .dK kvs) : H' a = some o := k a o (h.ne e n) e
theorem Kp.tup (k : Kp p H H') (h : Pen H p c B) (e : H a = some (.tup xs)) : H' a = some (.tup xs) := k.get h e (fun _ z => by cases z)
theorem Kp.lst (k : Kp p H H') (h : Pen H p c B) (e : H a = some (.lst xs)) : H' a = some (.lst xs) := k.get h e (fun _ z => by cases z)
theorem Kp.put {o : HO} (k : Kp p H H') (n : H D = none) : Kp p H (L2.upd H' D o) := fun b u nb e => by rw [upd_ne (ne_of_none e n)]; exact k b u nb e
theorem Kp.seqL (k : Kp p H H') (h : Pen H p c B) (e : SqL K H a xs) : SqL K H' a xs := by
  rcases e with (e | ⟨o, e⟩) | e
  · exact .inl (.inl (k.lst h e))
  · exact .inl (.inr ⟨o, k.get h e (fun _ z => by cases z)⟩)
  · exact .inr e
theorem Kp.seqT (k : Kp p H H') (h : Pen H p c B) (e : SqT K H a xs) : SqT K H' a xs := by
  rcases e with (e | ⟨o, e⟩) | e
  · exact .inl (.inl (k.tup h e))
  · exact .inl (.inr ⟨o, k.get h e (fun _ z => by cases z)⟩)
  · exact .inr e
theorem Same.seqT (e : Same H H') (h : SqT K H a xs) : SqT K H' a xs := by
  rcases h with (h | ⟨o, h⟩) | h
  · exact .inl (.inl (e _ _ h))
  · exact .inl (.inr ⟨o, e _ _ h⟩)
  · exact .inr h
theorem sqT (h : H a = some (.tup xs)) : SqT K H a xs := .inl (.inl h)
theorem sqL (h : H a = some (.lst xs)) : SqL K H a xs := .inl (.inl h)
end
theorem hu65 {A : Around} {k : Nat} (hr : Room k A) : A.units + 65 < cLine := by have := hr.un; omega

/-- an own def as callers see it -/
structure Ow (P : Program) (w : World) (K : PySem.W.Frag) (mg : Str → Option Value) (base : Heap) (x : Str) (k : Nat) (ps : List Str) (sp : Sp) where
  f : Addr
  fd : FuncData
  G : FnOk P w K mg base CX0 k f fd ps sp
  M : mg x = some (.ref f)
  kp : PySem.W.keepIn K (.ref f) = true
  b : Binds K fd ps []

def spPen (K : PySem.W.Frag) : Sp := fun vs H Q _ => ∃ (a : Addr) (ns : List Int), vs = [.ref a] ∧ SqL K H a (ns.map V.int) ∧ ns.length ≤ 63 ∧ ∀ p c H', Same H H' → Pen H' p c 0 → Q (.ref p) H'
def spDraw : Sp := fun vs H Q _ => ∃ (p c : Addr) (B : Nat) (many : Int), vs = [.ref p, .int many] ∧ Pen H p c B ∧ B ≤ 1000000000 ∧ 0 < many ∧ many < 1073741824 ∧
  ∀ (d : Int) H', 0 ≤ d → d < many → Kp p H H' → Pen H' p c (B + 1) → Q (.int d) H'
theorem prime_at {k : Int} (h0 : 0 ≤ k) (h5 : k < 5) : ∃ q : Int, atI [V.int 2147483647, .int 2147483629, .int 2147483587, .int 2147483579, .int 2147483563] k = some (.int q) ∧ 0 < q ∧ q ≤ 2147483647 := by
  have e : k = 0 ∨ k = 1 ∨ k = 2 ∨ k = 3 ∨ k = 4 := by omega
  rcases e with e | e | e | e | e <;> subst e
  · exact ⟨_, rfl, by decide, by decide⟩
  · exact ⟨_, rfl, by decide, by decide⟩
  · exact ⟨_, rfl, by decide, by decide⟩
  · exact ⟨_, rfl, by decide, by decide⟩
  · exact ⟨_, rfl, by decide, by decide⟩
theorem at_int {ns : List Int} {k : Int} (h0 : 0 ≤ k) (h : k < (ns.length : Int)) : ∃ v : Int, atI (ns.map V.int) k = some (.int v) ∧ v ∈ ns ∧ ns[k.toNat]? = some v := by
  have hk : k.toNat < ns.length := by omega
  have ek : k = ((k.toNat : Nat) : Int) := by omega
  refine ⟨ns[k.toNat], ?_, List.getElem_mem hk, List.getElem?_eq_getElem hk⟩
  have q : atI (ns.map V.int) ((k.toNat : Nat) : Int) = some (.int ns[k.toNat]) := atI_nat (by rw [List.getElem?_map, List.getElem?_eq_getElem hk] <;> rfl)
  rw [← ek] at q
  exact q
theorem merge_pen {c : Addr} {t r : Int} : mergeK [] (penL c t r) = penL c t r := rfl
theorem cut63 {ns : List Int} (h : ns.length ≤ 63) : cutV (ns.map V.int) none (some 63) = ns.map V.int := by
  unfold cutV
  have e : HT.sIx (ns.map V.int).length (ns.map V.int).length (some 63) = ns.length := by
    rw [show (some 63 : Option Int) = some ((63 : Nat) : Int) from rfl, HT.sIx_nat, List.length_map]
    omega
  rw [e, HT.sIx_none, List.drop_zero, List.take_of_length_le (by rw [List.length_map]; omega)]
end Gg
namespace Gg
open PySem PySem.Spec PyProof.Rows L2
def spLaw (K : PySem.W.Frag) : Sp := fun vs H Q _ => ∃ (a : Addr) (ns : List Int), vs = [.ref a] ∧ SqL K H a (ns.map V.int) ∧ ns.length ≤ 63 ∧ ∀ H', Q (.bl true) H'
end Gg

namespace Gg
open PySem PySem.Spec PyProof.Rows L2
def mn (i j : Int) : Int := if j < i then j else i
def mx (i j : Int) : Int := if j > i then j else i
end Gg
namespace Gg
open PySem PySem.Spec PyProof.Rows L2
section
variable {lo : Int} {n k : Nat} {te : TE} {vs : List Nat} {σ : L2.St} {H1 : Hp} {D : Addr} {Qd : Hp → Prop}
end
/-- all measures lie between 0 and m -/
def Ms (m : Int) (ns : List Int) : Prop := ∀ n ∈ ns, 0 ≤ n ∧ n ≤ m
theorem Ms.mono {m m' : Int} {ns : List Int} (h : Ms m ns) (l : m ≤ m') : Ms m' ns := fun n hn => ⟨(h n hn).1, by have := (h n hn).2; omega⟩
theorem ms_zip {g : Int → Int → Int} {m : Int} (hg : ∀ x y, 0 ≤ x → x ≤ m → 0 ≤ y → y ≤ m → 0 ≤ g x y ∧ g x y ≤ m) : ∀ xs ys : List Int, Ms m xs → Ms m ys → Ms m (List.zipWith g xs ys)
  | [], _, _, _ => by cases ‹List Int› <;> exact fun _ z => nomatch z
  | _ :: _, [], _, _ => fun _ z => nomatch z
  | x :: xs, y :: ys, h1, h2 => fun n hn => by
    rw [List.zipWith_cons_cons] at hn
    rcases List.mem_cons.mp hn with e | e
    · subst e
      exact hg x y (h1 x (by simp)).1 (h1 x (by simp)).2 (h2 y (by simp)).1 (h2 y (by simp)).2
    · exact ms_zip hg xs ys (fun n z => h1 n (by simp [z])) (fun n z => h2 n (by simp [z])) n e
theorem ms_mn {m : Int} {xs ys : List Int} (h1 : Ms m xs) (h2 : Ms m ys) : Ms m (List.zipWith mn xs ys) := ms_zip (fun x y a b c d => by unfold mn; split <;> omega) xs ys h1 h2
end Gg

namespace Gg
open PySem PySem.Spec PyProof.Rows L2
open PySem.AutoSeq1 (wpAny_loadPart')
theorem nofill_tmul : fillsNumberSlot (.type "tuple") "mul" = pure false := PySem.fillsNumberSlot_seq (id := "tuple.__mul__") (r := some (.builtin "tuple.__rmul__")) F.slot_tuple_mul.lookup (by decide +kernel) F.slot_tuple_rmul.lookup (by decide +kernel)
theorem repeat_tup : seqRepeat? (.type "tuple") = pure (some (.builtin "tuple.__mul__")) := by
  unfold seqRepeat?
  rw [PySem.seqSlot_of (T := "tuple") (name := "__mul__") (id := "tuple.__mul__") F.slot_tuple_mul.lookup (by decide +kernel), PySem.seqSlot_of (T := "tuple") (name := "__rmul__") (id := "tuple.__rmul__") F.slot_tuple_rmul.lookup (by decide +kernel)]; rfl
theorem int_rmul_tup (a : Int) (t : Tok) (l : Addr) (items : Array Value) (n : Nat) (dd : Option Addr) (sl : Array (Option Value)) :
    Meets (Builtin.«int.__rmul__» ⟨[.int a t, .ref l], []⟩) (fun _ R s => s.heap.get? l = some { cls := .type "tuple", dict := dd, data := .seq items n, slots := sl } ∧ R (.ok (.ret Value.notImplemented)) s) :=
  .of_wp fun prog w A R s h => by obtain ⟨hp, g, d, tk, os⟩ := s; obtain ⟨T, h⟩ := h; wp_walk using wpAny_loadPart' T; exact ⟨_, rfl, h⟩
theorem tmul_one (l : Addr) (items : Array Value) (n : Nat) (u : Tok) (dd : Option Addr) (sl : Array (Option Value)) :
    Meets (Builtin.«tuple.__mul__» ⟨[.ref l, .int 1 u], []⟩) (fun _ R s => s.heap.get? l = some { cls := .type "tuple", dict := dd, data := .seq items n, slots := sl } ∧ R (.ok (.ret (.ref l))) s) :=
  .of_wp fun prog w A R s h => by obtain ⟨hp, g, d, tk, os⟩ := s; obtain ⟨T, h⟩ := h; have f1 := AutoSeq1.idx_int; have f2 := AutoSeq1.sub_tuple_tuple; wp_walk using wpAny_loadPart' T; exact ⟨_, rfl, h⟩
theorem tmul_more (l : Addr) (items : Array Value) (n : Nat) (k : Int) (u : Tok) (dd : Option Addr) (sl : Array (Option Value)) (b1 : 1 < k) (b2 : k < 1000000) (b3 : 0 < items.size) (b4 : (items.size : Int) * k ≤ 1000000) (h6 : (List.foldl (fun x1 x2 => x1 ++ x2) #[] (List.replicate k.toNat items)).size ≤ sizeLine) :
    Meets (Builtin.«tuple.__mul__» ⟨[.ref l, .int k u], []⟩) (fun _ R s => s.heap.get? l = some { cls := .type "tuple", dict := dd, data := .seq items n, slots := sl } ∧
      R (.ok (.ret (.ref s.heap.objs.size))) { s with heap := s.heap.push { cls := .type "tuple", data := .seq (List.foldl (fun x1 x2 => x1 ++ x2) #[] (List.replicate k.toNat items)) } }) :=
  .of_wp fun prog w A R s h => by
    obtain ⟨hp, g, d, tk, os⟩ := s; obtain ⟨T, h⟩ := h
    have f1 := AutoSeq1.idx_int; have f2 := AutoSeq1.sub_tuple_tuple
    have e0 : items.isEmpty = false := by cases q : items.isEmpty with | false => rfl | true => rw [Array.isEmpty_iff] at q; subst q; simp at b3
    have c1 : ¬(decide (k < -2 ^ 63) || decide (k ≥ 2 ^ 63)) = true := by simp; omega
    have c2 : ¬(items.isEmpty || k == 1) = true := by rw [e0]; simp; omega
    have c3 : ¬(decide (k ≤ 0) || items.isEmpty) = true := by rw [e0]; simp; omega
    have c4 : ¬ (items.size : Int) * k > (2 ^ 63 - 1) / 8 := by omega
    have c5 : ¬ Builtin.Tuple.tupleTooMany ((items.size : Int) * k) = true := by
      unfold Builtin.Tuple.tupleTooMany
      have z : ((sizeLine : Nat) : Int) = 16777216 := by decide
      rw [z]; simp; omega
    wp_walk using wpAny_loadPart' T
    refine wpAny_ite_false (decide_eq_false c1) ?_
    wp_walk using wpAny_loadPart' T
    refine wpAny_ite_false (decide_eq_false c2) ?_
    refine wpAny_ite_false (decide_eq_false c3) ?_
    refine wpAny_ite_false (decide_eq_false c4) ?_
    refine wpAny_ite_false (decide_eq_false c5) ?_
    unfold Builtin.Tuple.tupleExact
    refine wpAny_bind (wpAny_newObj_type ?_ h6)
    exact wpAny_pure ⟨_, rfl, h⟩
theorem rep_toArray (its : List Value) : ∀ m : Nat, List.foldl (fun x1 x2 => x1 ++ x2) #[] (List.replicate m its.toArray) = (List.replicate m its).flatten.toArray := fun m => by
  have q := foldl_rep its m []
  rw [List.nil_append] at q
  exact q
section
variable {prog : Program} {w : World} {A : Around} {E : Value → Shared → Prop} {s : Shared}
end
end Gg
namespace Gg
open PySem PySem.Spec PyProof.Rows L2
end Gg

namespace Gg
open PySem PySem.Spec PyProof.Rows L2
inductive Tw where
  | add | lesser | greater
def Tw.word : Tw → Str
  | .add => "add"
  | .lesser => "lesser"
  | .greater => "greater"
def Tw.of : Tw → Int → Int → Int
  | .add, i, j => i + j
  | .lesser, i, j => mn i j
  | .greater, i, j => mx i j
inductive Sc where
  | sum (ws : List Int)
  | times
  | low
  | high
  | two (t : Tw) (a b : Sc)
def Sc.deep : Sc → Nat
  | .two _ a b => max a.deep b.deep + 1
  | _ => 1
theorem Sc.deep_pos : ∀ s : Sc, 1 ≤ s.deep
  | .two _ a b => by rw [Sc.deep]; omega
  | .sum _ => Nat.le_refl 1
  | .times => Nat.le_refl 1
  | .low => Nat.le_refl 1
  | .high => Nat.le_refl 1
/-- the weights are as many, from 0 to 1000 -/
def Sc.Ok (n : Nat) : Sc → Prop
  | .sum ws => ws.length = n ∧ Ms 1000 ws
  | .two _ a b => a.Ok n ∧ b.Ok n
  | _ => True
def Sc.data : Sc → PyData
  | .sum ws => .tuple [.str "sum", .tuple (ws.map PyData.int)]
  | .times => .tuple [.str "times"]
  | .low => .tuple [.str "low"]
  | .high => .tuple [.str "high"]
  | .two t a b => .tuple [.str t.word, a.data, b.data]
/-- the scale stands at a -/
def ScAt (K : PySem.W.Frag) (H : Hp) : Addr → Sc → Prop
  | a, .sum ws => ∃ b, SqT K H a [.str "sum", .ref b] ∧ SqT K H b (ws.map V.int)
  | a, .times => SqT K H a [.str "times"]
  | a, .low => SqT K H a [.str "low"]
  | a, .high => SqT K H a [.str "high"]
  | a, .two t x y => ∃ b c, SqT K H a [.str t.word, .ref b, .ref c] ∧ ScAt K H b x ∧ ScAt K H c y
section
variable {K : PySem.W.Frag} {H H' : Hp}
theorem ScAt.via (k : ∀ a xs, SqT K H a xs → SqT K H' a xs) : ∀ {s : Sc} {a : Addr}, ScAt K H a s → ScAt K H' a s
  | .sum ws, a, ⟨b, h1, h2⟩ => ⟨b, k _ _ h1, k _ _ h2⟩
  | .times, a, h => k _ _ h
  | .low, a, h => k _ _ h
  | .high, a, h => k _ _ h
  | .two t x y, a, ⟨b, c, h1, h2, h3⟩ => ⟨b, c, k _ _ h1, ScAt.via k h2, ScAt.via k h3⟩
theorem ScAt.keep (s : Same H H') {a : Addr} {sc : Sc} (h : ScAt K H a sc) : ScAt K H' a sc := h.via fun _ _ => Same.seqT s
theorem ScAt.kp {p c a : Addr} {B : Nat} {sc : Sc} (k : Kp p H H') (pn : Pen H p c B) (h : ScAt K H a sc) : ScAt K H' a sc := h.via fun _ _ => k.seqT pn
theorem ScAt.dp : ∀ {s : Sc} {a : Addr}, ScAt K H a s → Dp K H (.ref a) s.data
  | .sum ws, a, ⟨b, h1, h2⟩ => .tup h1 (.cons (.str _) (.cons (.tup h2 (dp_ints ws)) .nil))
  | .times, a, h => .tup h (.cons (.str _) .nil)
  | .low, a, h => .tup h (.cons (.str _) .nil)
  | .high, a, h => .tup h (.cons (.str _) .nil)
  | .two t x y, a, ⟨b, c, h1, h2, h3⟩ => .tup h1 (.cons (.str _) (.cons (ScAt.dp h2) (.cons (ScAt.dp h3) .nil)))
end
theorem Tw.fine (t : Tw) : PyData.strOk t.word = true ∧ t.word.length ≤ 7 := by cases t <;> exact ⟨by decide +kernel, by decide +kernel⟩
def least : List Int → Int
  | [] => 0
  | [x] => x
  | x :: r => min x (least r)
def most : List Int → Int
  | [] => 0
  | [x] => x
  | x :: r => max x (most r)
theorem least_le : ∀ (xs : List Int) (y : Int), y ∈ xs → least xs ≤ y
  | [x], y, h => by simp at h; subst h; exact Int.le_refl _
  | x :: z :: r, y, h => by
    rw [least]
    · rcases List.mem_cons.mp h with e | e
      · subst e; omega
      · have := least_le (z :: r) y e; omega
    · nofun
theorem least_mem : ∀ xs : List Int, xs ≠ [] → least xs ∈ xs
  | [x], _ => by simp [least]
  | x :: z :: r, _ => by
    have ih := least_mem (z :: r) (by simp)
    rw [least]
    · by_cases e : x ≤ least (z :: r)
      · rw [Int.min_eq_left e]; simp
      · rw [Int.min_eq_right (by omega)]; exact List.mem_cons_of_mem _ ih
    · nofun
theorem most_ge : ∀ (xs : List Int) (y : Int), y ∈ xs → y ≤ most xs
  | [x], y, h => by simp at h; subst h; exact Int.le_refl _
  | x :: z :: r, y, h => by
    rw [most]
    · rcases List.mem_cons.mp h with e | e
      · subst e; omega
      · have := most_ge (z :: r) y e; omega
    · nofun
theorem most_mem : ∀ xs : List Int, xs ≠ [] → most xs ∈ xs
  | [x], _ => by simp [most]
  | x :: z :: r, _ => by
    have ih := most_mem (z :: r) (by simp)
    rw [most]
    · by_cases e : most (z :: r) ≤ x
      · rw [Int.max_eq_left e]; simp
      · rw [Int.max_eq_right (by omega)]; exact List.mem_cons_of_mem _ ih
    · nofun
theorem least_is {xs : List Int} {m : Int} (h1 : m ∈ xs) (h2 : ∀ y, y ∈ xs → m ≤ y) : m = least xs := by
  have a := least_le xs m h1
  have b := h2 _ (least_mem xs (by intro e; subst e; cases h1))
  omega
theorem most_is {xs : List Int} {m : Int} (h1 : m ∈ xs) (h2 : ∀ y, y ∈ xs → y ≤ m) : m = most xs := by
  have a := most_ge xs m h1
  have b := h2 _ (most_mem xs (by intro e; subst e; cases h1))
  omega
def worthI : Sc → List Int → Int
  | .sum ws, xs => (List.zipWith (fun w x => w * x) ws xs).sum
  | .times, xs => xs.foldl (fun p x => p * x) 1
  | .low, xs => least xs
  | .high, xs => most xs
  | .two t a b, xs => t.of (worthI a xs) (worthI b xs)
theorem prod_ms : ∀ (xs : List Int) (p : Int) (k : Nat), 0 ≤ p → p ≤ 1000000000 ^ k → Ms 1000000000 xs → 0 ≤ xs.foldl (fun p x => p * x) p ∧ xs.foldl (fun p x => p * x) p ≤ 1000000000 ^ (k + xs.length)
  | [], p, k, h0, h1, _ => ⟨h0, h1⟩
  | x :: r, p, k, h0, h1, h => by
    have hx := h x (by simp)
    have q := prod_ms r (p * x) (k + 1) (Int.mul_nonneg h0 hx.1) (by rw [Int.pow_succ]; exact Int.mul_le_mul h1 hx.2 hx.1 (Int.pow_nonneg (by decide))) (fun n hn => h n (by simp [hn]))
    rw [show k + 1 + r.length = k + (x :: r).length by rw [List.length_cons]; omega] at q
    exact q
theorem sum_ms : ∀ ws xs : List Int, Ms 1000 ws → Ms 1000000000 xs → 0 ≤ (List.zipWith (fun w x => w * x) ws xs).sum ∧ (List.zipWith (fun w x => w * x) ws xs).sum ≤ 1000000000000 * (xs.length : Int)
  | [], xs, _, _ => by simp; omega
  | _ :: _, [], _, _ => by simp
  | w :: ws, x :: xs, h1, h2 => by
    have ih := sum_ms ws xs (fun n hn => h1 n (by simp [hn])) (fun n hn => h2 n (by simp [hn]))
    have a := h1 w (by simp)
    have b := h2 x (by simp)
    have c : 0 ≤ w * x := Int.mul_nonneg a.1 b.1
    have d : w * x ≤ 1000 * 1000000000 := Int.mul_le_mul a.2 b.2 b.1 (by decide)
    rw [List.zipWith_cons_cons, List.sum_cons, List.length_cons]
    omega
theorem worth_ms {n : Nat} {xs : List Int} (hx : Ms 1000000000 xs) (hl : xs.length ≤ 8) (h0 : 0 < xs.length) : ∀ s : Sc, s.Ok n → 0 ≤ worthI s xs ∧ worthI s xs ≤ 10 ^ 72 * 2 ^ s.deep
  | .sum ws, h => by
    obtain ⟨a, b⟩ := sum_ms ws xs h.2 hx
    have e : (Sc.sum ws).deep = 1 := rfl
    rw [e]
    exact ⟨a, by rw [worthI]; omega⟩
  | .times, _ => by
    obtain ⟨a, b⟩ := prod_ms xs 1 0 (by decide) (by decide) hx
    have e : Sc.times.deep = 1 := rfl
    have c : (1000000000 : Int) ^ (0 + xs.length) ≤ 1000000000 ^ 8 := by
      have gen : ∀ a b : Nat, a ≤ b → (1000000000 : Int) ^ a ≤ 1000000000 ^ b := fun a b h => by
        induction h with
        | refl => exact Int.le_refl _
        | step _ ih =>
          rename_i m _
          have z : 0 ≤ (1000000000 : Int) ^ m := Int.pow_nonneg (by decide)
          rw [Int.pow_succ]
          omega
      exact gen _ _ (by omega)
    rw [e]
    exact ⟨a, by rw [worthI]; omega⟩
  | .low, _ => by
    have m := hx _ (least_mem xs (by intro e; subst e; cases h0))
    have e : Sc.low.deep = 1 := rfl
    rw [e, worthI]
    exact ⟨m.1, by omega⟩
  | .high, _ => by
    have m := hx _ (most_mem xs (by intro e; subst e; cases h0))
    have e : Sc.high.deep = 1 := rfl
    rw [e, worthI]
    exact ⟨m.1, by omega⟩
  | .two t a b, h => by
    obtain ⟨a1, a2⟩ := worth_ms hx hl h0 a h.1
    obtain ⟨b1, b2⟩ := worth_ms hx hl h0 b h.2
    have e1 : (2 : Int) ^ a.deep ≤ 2 ^ max a.deep b.deep := by exact_mod_cast Nat.pow_le_pow_right (show 0 < 2 by decide) (Nat.le_max_left a.deep b.deep)
    have e2 : (2 : Int) ^ b.deep ≤ 2 ^ max a.deep b.deep := by exact_mod_cast Nat.pow_le_pow_right (show 0 < 2 by decide) (Nat.le_max_right a.deep b.deep)
    rw [worthI, Sc.deep, Int.pow_succ]
    cases t
    · rw [Tw.of]; omega
    · rw [Tw.of]; unfold mn; split <;> omega
    · rw [Tw.of]; unfold mx; split <;> omega
end Gg
namespace Gg
open PySem PySem.Spec PyProof.Rows L2
end Gg
namespace Gg
open PySem PySem.Spec PyProof.Rows L2
end Gg
namespace Gg
open PySem PySem.Spec PyProof.Rows L2
end Gg

namespace Gg
open PySem PySem.Spec PyProof.Rows L2
inductive Ru where
  | size (k : Nat) (m : Int)
  | worth (s : Sc) (m : Int)
  | all (rs : List Ru)
  | any (rs : List Ru)
mutual
def Ru.deep : Ru → Nat
  | .size _ _ => 1
  | .worth _ _ => 1
  | .all rs => deepAll rs + 1
  | .any rs => deepAll rs + 1
def deepAll : List Ru → Nat
  | [] => 0
  | r :: rs => max r.deep (deepAll rs)
end
theorem Ru.deep_pos : ∀ r : Ru, 1 ≤ r.deep
  | .size _ _ => by rw [Ru.deep]; decide
  | .worth _ _ => by rw [Ru.deep]; decide
  | .all rs => by rw [Ru.deep]; omega
  | .any rs => by rw [Ru.deep]; omega
mutual
def Ru.Ok (n : Nat) : Ru → Prop
  | .size k m => k < n ∧ 0 ≤ m ∧ m < 10 ^ 79
  | .worth s m => s.Ok n ∧ s.deep ≤ 4 ∧ 0 ≤ m ∧ m < 10 ^ 79
  | .all rs => rs.length ≤ 5 ∧ OkAll n rs
  | .any rs => rs.length ≤ 5 ∧ OkAll n rs
def OkAll (n : Nat) : List Ru → Prop
  | [] => True
  | r :: rs => r.Ok n ∧ OkAll n rs
end
mutual
def Ru.data : Ru → PyData
  | .size k m => .tuple [.str "size", .int (k : Int), .int m]
  | .worth s m => .tuple [.str "worth", s.data, .int m]
  | .all rs => .tuple (.str "all" :: datas rs)
  | .any rs => .tuple (.str "any" :: datas rs)
def datas : List Ru → List PyData
  | [] => []
  | r :: rs => r.data :: datas rs
end
mutual
/-- the rule stands at a -/
def RuAt (K : PySem.W.Frag) (H : Hp) : Addr → Ru → Prop
  | a, .size k m => SqT K H a [.str "size", .int (k : Int), .int m]
  | a, .worth s m => ∃ b, SqT K H a [.str "worth", .ref b, .int m] ∧ ScAt K H b s
  | a, .all rs => ∃ bs : List Addr, SqT K H a (.str "all" :: bs.map V.ref) ∧ RusAt K H bs rs
  | a, .any rs => ∃ bs : List Addr, SqT K H a (.str "any" :: bs.map V.ref) ∧ RusAt K H bs rs
def RusAt (K : PySem.W.Frag) (H : Hp) : List Addr → List Ru → Prop
  | [], [] => True
  | b :: bs, r :: rs => RuAt K H b r ∧ RusAt K H bs rs
  | [], _ :: _ => False
  | _ :: _, [] => False
end
section
variable {K : PySem.W.Frag} {H H' : Hp}
mutual
theorem RuAt.via (k : ∀ a xs, SqT K H a xs → SqT K H' a xs) : ∀ (r : Ru) (a : Addr), RuAt K H a r → RuAt K H' a r
  | .size _ _, a, h => by rw [RuAt] at h ⊢; exact k _ _ h
  | .worth s m, a, h => by
    rw [RuAt] at h ⊢
    obtain ⟨b, h1, h2⟩ := h
    exact ⟨b, k _ _ h1, h2.via k⟩
  | .all rs, a, h => by
    rw [RuAt] at h ⊢
    obtain ⟨bs, h1, h2⟩ := h
    exact ⟨bs, k _ _ h1, RusAt.via k rs bs h2⟩
  | .any rs, a, h => by
    rw [RuAt] at h ⊢
    obtain ⟨bs, h1, h2⟩ := h
    exact ⟨bs, k _ _ h1, RusAt.via k rs bs h2⟩
theorem RusAt.via (k : ∀ a xs, SqT K H a xs → SqT K H' a xs) : ∀ (rs : List Ru) (bs : List Addr), RusAt K H bs rs → RusAt K H' bs rs
  | [], [], _ => by rw [RusAt]; trivial
  | [], _ :: _, h => by rw [RusAt] at h; cases h
  | _ :: _, [], h => by rw [RusAt] at h; cases h
  | r :: rs, b :: bs, h => by
    rw [RusAt] at h ⊢
    exact ⟨RuAt.via k r b h.1, RusAt.via k rs bs h.2⟩
end
mutual
theorem RuAt.dp : ∀ (r : Ru) (a : Addr), RuAt K H a r → Dp K H (.ref a) r.data
  | .size _ _, a, h => by rw [RuAt] at h; rw [Ru.data]; exact .tup h (.cons (.str _) (.cons (.int _) (.cons (.int _) .nil)))
  | .worth s m, a, h => by
    rw [RuAt] at h
    rw [Ru.data]
    obtain ⟨b, h1, h2⟩ := h
    exact .tup h1 (.cons (.str _) (.cons h2.dp (.cons (.int _) .nil)))
  | .all rs, a, h => by
    rw [RuAt] at h
    rw [Ru.data]
    obtain ⟨bs, h1, h2⟩ := h
    exact .tup h1 (.cons (.str _) (RusAt.dp rs bs h2))
  | .any rs, a, h => by
    rw [RuAt] at h
    rw [Ru.data]
    obtain ⟨bs, h1, h2⟩ := h
    exact .tup h1 (.cons (.str _) (RusAt.dp rs bs h2))
theorem RusAt.dp : ∀ (rs : List Ru) (bs : List Addr), RusAt K H bs rs → DpAll K H (bs.map V.ref) (datas rs)
  | [], [], _ => by rw [datas]; exact .nil
  | [], _ :: _, h => by rw [RusAt] at h; cases h
  | _ :: _, [], h => by rw [RusAt] at h; cases h
  | r :: rs, b :: bs, h => by
    rw [RusAt] at h
    rw [datas]
    exact .cons (RuAt.dp r b h.1) (RusAt.dp rs bs h.2)
end
theorem RuAt.keep (s : Same H H') {a : Addr} {r : Ru} (h : RuAt K H a r) : RuAt K H' a r := RuAt.via (fun _ _ => Same.seqT s) r a h
theorem RuAt.kp {p c a : Addr} {B : Nat} {r : Ru} (k : Kp p H H') (pn : Pen H p c B) (h : RuAt K H a r) : RuAt K H' a r := RuAt.via (fun _ _ => k.seqT pn) r a h
theorem RusAt.keep (s : Same H H') {bs : List Addr} {rs : List Ru} (h : RusAt K H bs rs) : RusAt K H' bs rs := RusAt.via (fun _ _ => Same.seqT s) rs bs h
theorem RusAt.kp {p c : Addr} {B : Nat} {bs : List Addr} {rs : List Ru} (k : Kp p H H') (pn : Pen H p c B) (h : RusAt K H bs rs) : RusAt K H' bs rs := RusAt.via (fun _ _ => k.seqT pn) rs bs h
theorem RusAt.length : ∀ {bs : List Addr} {rs : List Ru}, RusAt K H bs rs → bs.length = rs.length
  | [], [], _ => rfl
  | [], _ :: _, h => by rw [RusAt] at h; cases h
  | _ :: _, [], h => by rw [RusAt] at h; cases h
  | b :: bs, r :: rs, h => by rw [RusAt] at h; rw [List.length_cons, List.length_cons, RusAt.length h.2]
theorem RusAt.get : ∀ {bs : List Addr} {rs : List Ru} {i : Nat} {b : Addr}, RusAt K H bs rs → bs[i]? = some b → ∃ r, rs[i]? = some r ∧ RuAt K H b r
  | [], _, _, _, _, e => by simp at e
  | _ :: _, [], _, _, h, _ => by rw [RusAt] at h; cases h
  | b :: bs, r :: rs, 0, _, h, e => by rw [RusAt] at h; simp at e; subst e; exact ⟨r, rfl, h.1⟩
  | b :: bs, r :: rs, i + 1, b', h, e => by
    rw [RusAt] at h
    obtain ⟨r', e1, e2⟩ := RusAt.get (i := i) (b := b') h.2 (by simpa using e)
    exact ⟨r', by simpa using e1, e2⟩
end
theorem OkAll.get {n : Nat} : ∀ {rs : List Ru} {i : Nat} {r : Ru}, OkAll n rs → rs[i]? = some r → r.Ok n
  | [], _, _, _, e => by simp at e
  | r :: rs, 0, _, h, e => by rw [OkAll] at h; simp at e; subst e; exact h.1
  | r :: rs, i + 1, r', h, e => by rw [OkAll] at h; exact OkAll.get (i := i) h.2 (by simpa using e)
mutual
def keepsB : Ru → List Int → Bool
  | .size k m, xs => decide (m ≤ xs.getD k 0)
  | .worth s m, xs => decide (m ≤ worthI s xs)
  | .all rs, xs => (keepsAll rs xs).all id
  | .any rs, xs => (keepsAll rs xs).any id
def keepsAll : List Ru → List Int → List Bool
  | [], _ => []
  | r :: rs, xs => keepsB r xs :: keepsAll rs xs
end
theorem keepsAll_map : ∀ (rs : List Ru) (xs : List Int), keepsAll rs xs = rs.map fun r => keepsB r xs
  | [], _ => by rw [keepsAll]; rfl
  | r :: rs, xs => by rw [keepsAll, keepsAll_map rs xs]; rfl
end Gg

namespace Gg
open PySem PySem.Spec PyProof.Rows L2
section
variable {n k : Nat} {te : TE} {vs : List Nat} {σ : L2.St} {H1 : Hp} {D : Addr} {Qd : Hp → Prop}
end
/-- the value is a rule of this depth, for n measures -/
def IsRu (K : PySem.W.Frag) (n d : Nat) (H : Hp) (v : V) : Prop := ∃ (a : Addr) (r : Ru), v = .ref a ∧ RuAt K H a r ∧ r.deep ≤ d ∧ r.Ok n
theorem IsRu.keep {K : PySem.W.Frag} {n d : Nat} {H H' : Hp} {v : V} (s : Same H H') (h : IsRu K n d H v) : IsRu K n d H' v := by
  obtain ⟨a, r, e, h1, h2, h3⟩ := h
  exact ⟨a, r, e, h1.keep s, h2, h3⟩
mutual
theorem Dp.kp {K : PySem.W.Frag} {H H' : Hp} {p c : Addr} {B : Nat} (k : Kp p H H') (pn : Pen H p c B) : ∀ (d : PyData) (v : V), Dp K H v d → Dp K H' v d
  | .none, _, h => by cases h; exact .non
  | .bool b, _, h => by cases h; exact .bl b
  | .int i, _, h => by cases h; exact .int i
  | .str x, _, h => by cases h; exact .str x
  | .list ds, _, h => by
    cases h with
    | lst hs ha => exact .lst (k.seqL pn hs) (DpAll.kp k pn ds _ ha)
  | .tuple ds, _, h => by
    cases h with
    | tup hs ha => exact .tup (k.seqT pn hs) (DpAll.kp k pn ds _ ha)
  | .dict _, _, h => by cases h
theorem DpAll.kp {K : PySem.W.Frag} {H H' : Hp} {p c : Addr} {B : Nat} (k : Kp p H H') (pn : Pen H p c B) : ∀ (ds : List PyData) (vs : List V), DpAll K H vs ds → DpAll K H' vs ds
  | [], _, h => by cases h; exact .nil
  | d :: ds, _, h => by
    cases h with
    | cons h1 h2 => exact .cons (Dp.kp k pn d _ h1) (DpAll.kp k pn ds _ h2)
end
end Gg
namespace Gg
open PySem PySem.Spec PyProof.Rows L2
end Gg
namespace Gg
open PySem PySem.Spec PyProof.Rows L2
end Gg
namespace Gg
open PySem PySem.Spec PyProof.Rows L2
end Gg

namespace Gg
open PySem PySem.Spec PyProof.Rows L2

mutual
inductive Dx (H : Hp) (B : List Addr) : V → PyData → Prop
  | non : Dx H B .non .none
  | bl (b : Bool) : Dx H B (.bl b) (.bool b)
  | int (i : Int) : Dx H B (.int i) (.int i)
  | str (x : Str) : Dx H B (.str x) (.str x)
  | lst {a : Addr} {xs : List V} {ds : List PyData} : H a = some (.lst xs) → a ∉ B → DxAll H B xs ds → Dx H B (.ref a) (.list ds)
  | tup {a : Addr} {xs : List V} {ds : List PyData} : H a = some (.tup xs) → DxAll H B xs ds → Dx H B (.ref a) (.tuple ds)
  | emp {a : Addr} : H a = some (.dK []) → a ∉ B → Dx H B (.ref a) (.dict [])
inductive DxAll (H : Hp) (B : List Addr) : List V → List PyData → Prop
  | nil : DxAll H B [] []
  | cons {v : V} {vs : List V} {d : PyData} {ds : List PyData} : Dx H B v d → DxAll H B vs ds → DxAll H B (v :: vs) (d :: ds)
end
mutual
/-- what changes leave data as they are -/
theorem Dx.keep {H H' : Hp} {B B' : List Addr} (kl : ∀ a xs, H a = some (.lst xs) → a ∉ B → H' a = some (.lst xs) ∧ a ∉ B') (kt : ∀ a xs, H a = some (.tup xs) → H' a = some (.tup xs)) (ke : ∀ a, H a = some (.dK []) → a ∉ B → H' a = some (.dK []) ∧ a ∉ B') : ∀ (d : PyData) (v : V), Dx H B v d → Dx H' B' v d
  | .none, _, h => by cases h; exact .non
  | .bool _, _, h => by cases h; exact .bl _
  | .int _, _, h => by cases h; exact .int _
  | .str _, _, h => by cases h; exact .str _
  | .list ds, _, h => by
    cases h with
    | lst e n ha => exact .lst (kl _ _ e n).1 (kl _ _ e n).2 (Dx.keepAll kl kt ke ds _ ha)
  | .tuple ds, _, h => by
    cases h with
    | tup e ha => exact .tup (kt _ _ e) (Dx.keepAll kl kt ke ds _ ha)
  | .dict _, _, h => by
    cases h with
    | emp e n => exact .emp (ke _ e n).1 (ke _ e n).2
theorem Dx.keepAll {H H' : Hp} {B B' : List Addr} (kl : ∀ a xs, H a = some (.lst xs) → a ∉ B → H' a = some (.lst xs) ∧ a ∉ B') (kt : ∀ a xs, H a = some (.tup xs) → H' a = some (.tup xs)) (ke : ∀ a, H a = some (.dK []) → a ∉ B → H' a = some (.dK []) ∧ a ∉ B') : ∀ (ds : List PyData) (vs : List V), DxAll H B vs ds → DxAll H' B' vs ds
  | [], _, h => by cases h; exact .nil
  | d :: ds, _, h => by
    cases h with
    | cons h1 h2 => exact .cons (Dx.keep kl kt ke d _ h1) (Dx.keepAll kl kt ke ds _ h2)
end
section
variable {X : Cx} {pins : List (Addr × Obj)} {σ : L2.St} {H : Hp} {s : Shared} {B : List Addr}
theorem nosys (I : Inv X pins σ H s) : H sysModules = none := by
  obtain ⟨mm, o, es, ep, e, _⟩ := I.mod.sysm
  exact (I.bs _ _ e).2
mutual
theorem Dx.reads (I : Inv X pins σ H s) : ∀ (d : PyData) (v : V) (u : Value), Dx H B v d → RelV v u → ∃ as, Reads s.heap u d as ∧ sysModules ∉ as
  | .none, _, _, h, r => by
    cases h
    cases r
    exact ⟨_, Reads.none, by simp⟩
  | .bool b, _, _, h, r => by
    cases h
    cases r
    exact ⟨_, Reads.bool b, by simp⟩
  | .int i, _, _, h, r => by
    cases h
    obtain ⟨t, rfl⟩ := r
    exact ⟨_, Reads.int i t, by simp⟩
  | .str x, _, _, h, r => by
    cases h
    obtain ⟨t, rfl⟩ := r
    exact ⟨_, Reads.str x t, by simp⟩
  | .list ds, _, _, h, r => by
    cases h with
    | @lst a xs _ hs nb ha =>
      cases r
      obtain ⟨its, rv, ⟨o, n, ho, hc, _, hd⟩, _⟩ := I.list (SqL.of hs)
      obtain ⟨as, hr, ns⟩ := Dx.readsAll I ds _ its ha rv
      refine ⟨_, Reads.list ho hc hd hr, fun z => ?_⟩
      rcases List.mem_cons.mp z with z | z
      · rw [← z, nosys I] at hs; cases hs
      · exact ns z
  | .tuple ds, _, _, h, r => by
    cases h with
    | tup hs ha =>
      cases r
      obtain ⟨its, rv, ⟨o, ho, hc, n, hd⟩, _⟩ := I.tuple (SqT.of hs)
      obtain ⟨as, hr, ns⟩ := Dx.readsAll I ds _ its ha rv
      exact ⟨_, Reads.tuple ho hc hd hr, ns⟩
  | .dict _, _, _, h, r => by
    cases h with
    | emp hs nb =>
      cases r
      obtain ⟨_, hn, vs, kv, o, es, ep, e, ex, hd, _, hl, _⟩ := dk_of I.hok hs
      cases kv
      have es0 : es = #[] := by
        apply Array.toList_inj.mp
        generalize es.toList = l at hl
        cases hl
        rfl
      subst es0
      refine ⟨_, Reads.dict (kvs := []) e ex.1 hd ReadsAll.nil ReadsAll.nil, fun z => ?_⟩
      rcases List.mem_cons.mp z with z | z
      · rw [← z, nosys I] at hs; cases hs
      · cases z
theorem Dx.readsAll (I : Inv X pins σ H s) : ∀ (ds : List PyData) (vs : List V) (us : List Value), DxAll H B vs ds → Vals vs us → ∃ as, ReadsAll s.heap us ds as ∧ sysModules ∉ as
  | [], _, _, h, r => by
    cases h
    cases r
    exact ⟨_, ReadsAll.nil, by simp⟩
  | d :: ds, _, _, h, r => by
    cases h with
    | cons h1 h2 =>
      cases r with
      | cons r1 r2 =>
        obtain ⟨as, q1, n1⟩ := Dx.reads I d _ _ h1 r1
        obtain ⟨bs, q2, n2⟩ := Dx.readsAll I ds _ _ h2 r2
        exact ⟨_, ReadsAll.cons q1 q2, by rw [List.mem_append]; exact fun z => z.elim n1 n2⟩
end
end
section
variable {X : Cx}
def rReprX : List V → Hp → VK → Prop := fun xs H Q => ∃ v d B, xs = [v] ∧ Dx H B v d ∧ d.showable = true ∧ d.shown.length ≤ sizeLine ∧ d.depth ≤ 60 ∧ Q (.str d.shown) H
theorem cr_reprX (hg : X.A.guards = some []) (hu : X.A.units + 65 < cLine) : CallR X (.builtin "repr") rReprX := by
  intro pins s σ H vs us Q I r h
  obtain ⟨v, d, B, rfl, hd, hs, hz, hdp, q⟩ := h
  obtain ⟨u, rfl, ru⟩ := vals1 r
  obtain ⟨as, rd, ns⟩ := Dx.reads I d v u hd ru
  cases hd with
  | non => cases ru; exact PySem.P.repr_of_none ⟨.str "None", H, I.tok _, ⟨_, rfl⟩, q⟩
  | bl b => cases ru; exact PySem.P.repr_of_bool ⟨.str (if b then "True" else "False"), H, I.tok _, ⟨_, rfl⟩, by simpa [PyData.shown] using q⟩
  | int i => obtain ⟨t, rfl⟩ := ru; exact PySem.P.repr_of_int (by simpa [PyData.showable] using hs) ⟨.str (toString i), H, I.tok _, ⟨_, rfl⟩, by simpa [PyData.shown] using q⟩
  | str x => obtain ⟨t, rfl⟩ := ru; exact PySem.P.repr_of_str ⟨.str (reprText x), H, I.tok _, ⟨_, rfl⟩, by simpa [PyData.shown] using q⟩ (by simpa [PyData.shown] using hz)
  | lst h1 h2 h3 =>
    cases ru
    exact repr_of_reads' rd hs (fun _ => ns) hg (by omega) (fun _ _ e => e) (fun h' u tk hk => ⟨.str _, H, I.kept hk, ⟨_, rfl⟩, q⟩) hz
  | tup h1 h2 =>
    cases ru
    exact repr_of_reads' rd hs (fun _ => ns) hg (by omega) (fun _ _ e => e) (fun h' u tk hk => ⟨.str _, H, I.kept hk, ⟨_, rfl⟩, q⟩) hz
  | emp h1 h2 =>
    cases ru
    exact repr_of_reads' rd hs (fun _ => ns) hg (by omega) (fun _ _ e => e) (fun h' u tk hk => ⟨.str _, H, I.kept hk, ⟨_, rfl⟩, q⟩) hz

def tyD : PyData → String
  | .none => "NoneType"
  | .bool _ => "bool"
  | .int _ => "int"
  | .str _ => "str"
  | .list _ => "list"
  | .tuple _ => "tuple"
  | .dict _ => "dict"
def plainT (n : String) : Bool := n == "int" || n == "bool" || n == "str" || n == "list" || n == "tuple" || n == "dict"
end
section
variable {X : Cx}
end
section
variable {prog : Program} {w : World} {A : Around} {E : Value → Shared → Prop} {s : Shared}
theorem fm_congr {α β : Type} {f g : α → Option β} : ∀ l : List α, (∀ a ∈ l, f a = g a) → l.filterMap f = l.filterMap g
  | [], _ => rfl
  | a :: l, h => by rw [List.filterMap_cons, List.filterMap_cons, h a (List.mem_cons_self ..), fm_congr l fun b hb => h b (List.mem_cons_of_mem _ hb)]
theorem rev_run (xs : List Value) (f : Nat → Nat) (hf : ∀ k, k < xs.length → f k = xs.length - 1 - k) : (List.range xs.length).filterMap (fun k => xs.toArray[f k]?) = xs.reverse := by
  have e : (List.range xs.length).filterMap (fun k => xs.toArray[f k]?) = (List.range xs.length).filterMap (fun k => xs.reverse[k]?) := by
    apply fm_congr
    intro k hk
    have hk' := List.mem_range.mp hk
    rw [hf k hk', List.getElem?_reverse hk', List.getElem?_toArray]
  rw [e]
  have h := pick_run xs.reverse.toArray 0 xs.length
  rw [List.filterMap_map] at h
  have e2 : ((fun x => xs.reverse.toArray[x]?) ∘ fun x => 0 + x) = fun k => xs.reverse[k]? := by
    funext k
    show xs.reverse.toArray[0 + k]? = _
    rw [Nat.zero_add, List.getElem?_toArray]
  rw [e2] at h
  rw [h, List.drop_zero, List.take_of_length_le]
  rw [List.length_reverse]
  exact Nat.le_refl _
theorem sliceApplied_rev {sl : Addr} {t : Tok} {n : Nat} {Q : Int × Int × Nat → Shared → Prop} (hs : s.heap.IsSliceOf sl .none .none (.int (-1) t)) (h : Q ((n : Int) - 1, -1, n) s) :
    wpAny (model prog w) A (Builtin.Slice.sliceApplied (.ref sl) (pure (n : Int))) Q E s := by
  obtain ⟨os, hos, hcs, hds⟩ := id hs
  unfold Builtin.Slice.sliceApplied Builtin.Slice.sliceFields
  refine wpAny_bind (wpAny_bind (wpAny_field hos hds (x := .none) rfl (wpAny_bind (wpAny_field hos hds (x := .none) rfl (wpAny_bind (wpAny_field hos hds (x := .int (-1) t) rfl (wpAny_pure ?_)))))))
  refine wpAny_bind (slicePart_int ?_)
  show wpAny _ _ (if ((-1 : Int) == 0) = true then _ else _) _ _ s
  rw [if_neg (by decide)]
  refine wpAny_bind (slicePart_none (wpAny_bind (slicePart_none (wpAny_bind (wpAny_pure ?_)))))
  have e : Builtin.Slice.slicePlaces ((n : Int) - 1) (-1) (-1) = n := by
    unfold Builtin.Slice.slicePlaces
    rw [if_neg (by decide)]
    split <;> simp <;> omega
  show wpAny _ _ (pure ((n : Int) - 1, (-1 : Int), Builtin.Slice.slicePlaces ((n : Int) - 1) (-1) (-1))) _ _ s
  rw [e]
  exact wpAny_pure h
end
section
variable {prog : Program} {w : World} {A : Around} {E : Value → Shared → Prop} {s : Shared}
theorem getItem_tuple_rev {t sl : Addr} {its : List Value} {tk : Tok} {Q : Value → Shared → Prop} (ht : IsTup s.heap t its.toArray) (hs : s.heap.IsSliceOf sl .none .none (.int (-1) tk))
    (h : Q (.ref s.heap.objs.size) { s with heap := s.heap.push { cls := .type "tuple", data := .seq its.reverse.toArray } })
    (hsz : its.length ≤ sizeLine) : wpAny (model prog w) A (getItem (.ref t) (.ref sl)) Q E s := by
  have htake : sizeOk (.seq its.reverse.toArray) := by
    show its.reverse.toArray.size ≤ sizeLine
    rw [List.size_toArray, List.length_reverse]
    exact hsz
  obtain ⟨os, hos, hcs, hds⟩ := id hs
  have hTs : s.TypeIs (.ref sl) "slice" := ⟨os, hos, hcs⟩
  unfold getItem
  try with_reducible refine wpAny_holding ?_
  first | refine wpAny_bind (wpAny_pure ?_) | skip
  refine wpAny_bind (wpAny_sequenceKey ht.typeIs (by decide) ?_)
  refine wpAny_bind (wpAny_callSpecial?_slot (name := Str.ofString "__getitem__") ht.typeIs PyProof.Rows.slot_tuple_getitem
    (wpAny_call_entry PyProof.Rows.slot_tuple_getitem ht.typeIs entry_tuple_getitem ?_ (args_tuple_getitem _ _)))
  show wpAny _ _ (Builtin.Tuple.tupleItemsOf (.ref t) >>= _) _ _ s
  refine wpAny_bind (tupleItemsOf_ ht ?_)
  refine wpAny_bind (wpAny_typeOf hTs ?_)
  rw [if_pos (by decide)]
  refine wpAny_bind (sliceApplied_rev hs ?_)
  have hno : ¬ ((((its.toArray.size : Nat) : Int) - 1 == 0 && (-1 : Int) == 1 && its.toArray.size == its.toArray.size) = true) := by
    intro q
    rw [Bool.and_eq_true, Bool.and_eq_true] at q
    exact absurd q.1.2 (by decide)
  show wpAny _ _ (if (((its.toArray.size : Nat) : Int) - 1 == 0 && (-1 : Int) == 1 && its.toArray.size == its.toArray.size) = true then _ else _) _ _ s
  rw [if_neg hno]
  have ep : ((List.range its.toArray.size).filterMap fun (m : Nat) => its.toArray[(((its.toArray.size : Nat) : Int) - 1 + (m : Int) * -1).toNat]?).toArray = its.reverse.toArray := by
    rw [List.size_toArray, rev_run its (fun m => ((its.length : Int) - 1 + (m : Int) * -1).toNat) (fun k hk => by omega)]
  rw [ep]
  first
    | exact wpAny_bind (m := Builtin.Tuple.tupleExact _) (wpAny_newObj_type (wpAny_pure ⟨_, rfl, wpAny_pure h⟩) htake)
    | exact wpAny_bind (m := Builtin.Tuple.tupleExact _) (wpAny_newObj_type (wpAny_bind (wpAny_pure (wpAny_pure ⟨_, rfl, wpAny_pure h⟩))) htake)
    | exact wpAny_bind (wpAny_bind (m := Builtin.Tuple.tupleExact _) (wpAny_newObj_type (wpAny_pure (wpAny_pure ⟨_, rfl, wpAny_pure h⟩)) htake))
    | exact wpAny_bind (wpAny_bind (m := Builtin.Tuple.tupleExact _) (wpAny_newObj_type (wpAny_pure ⟨_, rfl, wpAny_pure h⟩) htake))
theorem slicePick_rev (its : List Value) : slicePick its.toArray none none (some (-1)) = its.reverse.toArray := by
  unfold slicePick
  show ((sliceRange ((its.toArray.size : Int) - 1) (-1) (-1)).filterMap (its.toArray[·]?)).toArray = _
  unfold sliceRange
  have e : (if (-1 : Int) > 0 then (if (its.toArray.size : Int) - 1 < -1 then (-1 - ((its.toArray.size : Int) - 1) + -1 - 1) / -1 else 0) else (if (its.toArray.size : Int) - 1 > -1 then ((its.toArray.size : Int) - 1 - -1 - -1 - 1) / (- -1) else 0)).toNat = its.length := by
    rw [if_neg (by decide), List.size_toArray]
    split <;> simp <;> omega
  simp only [e]
  rw [List.filterMap_map]
  have := rev_run its (fun m => ((its.toArray.size : Int) - 1 + -1 * (m : Int)).toNat) (fun k hk => by rw [List.size_toArray]; omega)
  exact congrArg List.toArray this
end
section
variable {X : Cx} {e : Expr} {te : TE} {m : Expr} {tm : TO} {pos p2 : Pos}
/-- what x[::-1] is, by values -/
def RvR (X : Cx) (r : V → Hp → VK → Prop) : Prop :=
  ∀ (pins : List (Addr × Obj)) (s : Shared) (σ : L2.St) (H : Hp) (x : V) (v : Value) (t : Tok) (sl : Addr) (Q : VK), Inv X pins σ H s → RelV x v → s.heap.IsSliceOf sl .none .none (.int (-1) t) → r x H Q →
    ∃ T id, typeLookup (.type T) "__getitem__" = pure (some (.builtin id)) ∧ s.TypeIs v T ∧ wpAny (model X.prog X.w) X.A (getItem v (.ref sl)) (EP X pins σ Q) X.xe s
def tRv (r : V → Hp → VK → Prop) (te : TE) (tm : TO) : TE := fun σ H Q => te σ H fun x H1 => tm σ H1 fun st H2 => st = some (-1) ∧ r x H2 Q
theorem pe_rev {r : V → Hp → VK → Prop} (hr : RvR X r) (he : PE X e te) (hm : PO X (some m) tm) : PE X (.Subscript e (.Slice none none (some m) p2) pos) (tRv r te tm) := by
  intro pins s σ H Q I h
  refine Subscript_ (thn (he pins s σ H _ I h) fun v s1 ⟨x, H1, I1, r1, q1⟩ => ?_)
  refine wpAny_Slice ?_
  rw [evalPart_none]
  refine wpAny_pure ?_
  refine wpAny_pure ?_
  refine thn (hm pins s1 σ H1 _ I1 q1) fun vs s3 ⟨st, H3, I3, ps, e3, q3⟩ => ?_
  subst e3
  cases ps with
  | int i t =>
  have I4 : Inv X pins σ H3 { s3 with heap := s3.heap.push { cls := .type "slice", data := .fields #[.none, .none, .int (-1) t] } } := I3.kept (t' := s3.toks) fun b ob q => Heap.get?_push_of_some _ q
  obtain ⟨T, id, hT, ht, hg⟩ := hr pins { s3 with heap := s3.heap.push { cls := .type "slice", data := .fields #[.none, .none, .int (-1) t] } } σ H3 x v t s3.heap.objs.size Q I4 r1 (Heap.IsSliceOf.new ..) q3
  show wpAny (model X.prog X.w) X.A (subscriptTail e (.Slice none none (some m) p2) v (.ref s3.heap.objs.size)) (EP X pins σ Q) X.xe { s3 with heap := s3.heap.push { cls := .type "slice", data := .fields #[.none, .none, .int (-1) t] } }
  exact tail_any (ops := [v, .ref s3.heap.objs.size]) ht hT hg (by with_unfolding_all rfl)
def rRvT : V → Hp → VK → Prop := fun x H Q => ∃ a xs, x = .ref a ∧ H a = some (.tup xs) ∧ ∀ p, H p = none → Q (.ref p) (upd H p (.tup xs.reverse))
def rRvL : V → Hp → VK → Prop := fun x H Q => ∃ a xs, x = .ref a ∧ H a = some (.lst xs) ∧ ∀ p, H p = none → Q (.ref p) (upd H p (.lst xs.reverse))
theorem rv_tup : RvR X rRvT := by
  intro pins s σ H x v t sl Q I rx hs h
  obtain ⟨a, xs, rfl, hx, q⟩ := h
  cases rx
  obtain ⟨its, r, ht, hz⟩ := I.tuple (SqT.of hx)
  have hlen := r.length
  refine ⟨"tuple", _, PyProof.Rows.slot_tuple_getitem.lookup, ht.typeIs, ?_⟩
  refine getItem_tuple_rev ht hs ?_ (by omega)
  refine ⟨.ref s.heap.objs.size, _, I.laid (t' := s.toks) (o := .tup xs.reverse) (fun b ob q => Heap.get?_push_of_some _ q) (Nat.le_refl _) ?_, rfl, q _ (I.hok.fresh (Nat.le_refl _))⟩
  exact ⟨by rw [List.length_reverse]; exact hz, _, r.reverse, IsTup.new _ _⟩
theorem rv_list : RvR X rRvL := by
  intro pins s σ H x v t sl Q I rx hs h
  obtain ⟨a, xs, rfl, hx, q⟩ := h
  cases rx
  obtain ⟨its, r, ht, hz⟩ := I.list (SqL.of hx)
  have hlen := r.length
  refine ⟨"list", _, slot_list_getitem.lookup, ht.isList.typeIs, ?_⟩
  refine wpAny_getItem_list_slice ht.isList hs .none .none (.int (-1) t) (by decide) ?_ (by rw [List.size_toArray] <;> omega)
  rw [slicePick_rev]
  refine ⟨.ref s.heap.objs.size, _, I.laid (t' := s.toks) (o := .lst xs.reverse) (fun b ob q => Heap.get?_push_of_some _ q) (Nat.le_refl _) ?_, rfl, q _ (I.hok.fresh (Nat.le_refl _))⟩
  exact ⟨by rw [List.length_reverse]; exact hz, _, 0, r.reverse, Heap.get?_push_size _ rfl⟩
end
end Gg

namespace Gg
open PySem PySem.Spec PyProof.Rows L2
section
variable {prog : Program} {w : World} {A : Around} {E : Value → Shared → Prop} {s : Shared}
theorem getItem_tuple_whole {t sl : Addr} {items : Array Value} {vl vu : Value} {lo hi : Option Int} {Q : Value → Shared → Prop} (ht : IsTup s.heap t items) (hs : s.heap.IsSliceOf sl vl vu .none) (pl : IsPart vl lo) (pu : IsPart vu hi)
    (hw : HT.sIx items.size 0 lo = 0 ∧ HT.sIx items.size items.size hi = items.size) (h : Q (.ref t) s) : wpAny (model prog w) A (getItem (.ref t) (.ref sl)) Q E s := by
  obtain ⟨os, hos, hcs, hds⟩ := id hs
  have hTs : s.TypeIs (.ref sl) "slice" := ⟨os, hos, hcs⟩
  unfold getItem
  try with_reducible refine wpAny_holding ?_
  first | refine wpAny_bind (wpAny_pure ?_) | skip
  refine wpAny_bind (wpAny_sequenceKey ht.typeIs (by decide) ?_)
  refine wpAny_bind (wpAny_callSpecial?_slot (name := Str.ofString "__getitem__") ht.typeIs PyProof.Rows.slot_tuple_getitem
    (wpAny_call_entry PyProof.Rows.slot_tuple_getitem ht.typeIs entry_tuple_getitem ?_ (args_tuple_getitem _ _)))
  show wpAny _ _ (Builtin.Tuple.tupleItemsOf (.ref t) >>= _) _ _ s
  refine wpAny_bind (tupleItemsOf_ ht ?_)
  refine wpAny_bind (wpAny_typeOf hTs ?_)
  rw [if_pos (by decide)]
  refine wpAny_bind (HT.sliceApplied_gen hs pl pu ?_)
  rw [hw.1, hw.2]
  have hyes : ((((0 : Nat) : Int)) == 0 && (1 : Int) == 1 && (items.size - 0) == items.size) = true := by
    rw [Nat.sub_zero]; simp
  show wpAny _ _ (if ((((0 : Nat) : Int)) == 0 && (1 : Int) == 1 && (items.size - 0) == items.size) = true then _ else _) _ _ s
  rw [if_pos hyes]
  unfold Builtin.Tuple.tupleIsExact
  refine wpAny_bind (wpAny_bind (wpAny_typeOf ht.typeIs ?_))
  refine wpAny_pure ?_
  rw [if_pos (by decide)]
  refine wpAny_bind (wpAny_rule ?_)
  exact wpAny_pure ⟨_, rfl, wpAny_pure h⟩
end
section
variable {X : Cx}
/-- t[lo:hi] of a tracked tuple: some tuple of the cut -/
def rSlX : V → Option Int → Option Int → Hp → VK → Prop := fun x lo hi H Q => ∃ a xs, x = .ref a ∧ H a = some (.tup xs) ∧ ∀ t H', Same H H' → H' t = some (.tup (cutV xs lo hi)) → Q (.ref t) H'
theorem sl_tupX : SlR X rSlX := by
  intro pins s σ H x v vl vu lo hi sl Q I rx hs pl pu h
  obtain ⟨a, xs, rfl, hx, q⟩ := h
  by_cases hw : HT.sIx xs.length 0 lo = 0 ∧ HT.sIx xs.length xs.length hi = xs.length
  · cases rx
    obtain ⟨its, r, ht, hz⟩ := I.tuple (SqT.of hx)
    have hlen : its.toArray.size = xs.length := by rw [List.size_toArray]; exact r.length.symm
    refine ⟨"tuple", _, PyProof.Rows.slot_tuple_getitem.lookup, ht.typeIs, ?_⟩
    refine getItem_tuple_whole ht hs pl pu (by rw [hlen]; exact hw) ⟨.ref a, H, I, rfl, q a H (fun _ _ z => z) ?_⟩
    rw [hx, cutV, hw.1, hw.2, List.drop_zero, Nat.sub_zero, List.take_length]
  · exact sl_tup pins s σ H _ v vl vu lo hi sl Q I rx hs pl pu ⟨a, xs, rfl, SqT.of hx, hw, fun p hp => q p _ (same_new hp _) upd_same⟩
/-- x[lo:hi] of a tracked list -/
def rSlXL : V → Option Int → Option Int → Hp → VK → Prop := fun x lo hi H Q => ∃ a xs, x = .ref a ∧ H a = some (.lst xs) ∧ ∀ p, H p = none → Q (.ref p) (upd H p (.lst (cutV xs lo hi)))
theorem sl_listX : SlR X rSlXL := by
  intro pins s σ H x v vl vu lo hi sl Q I rx hs pl pu h
  obtain ⟨a, xs, rfl, hx, q⟩ := h
  exact sl_list pins s σ H _ v vl vu lo hi sl Q I rx hs pl pu ⟨a, xs, rfl, SqL.of hx, q⟩
/-- t + u of tracked tuples: some tuple of both -/
def rCatX : R2 := fun x y H Q => ∃ a b xs ys, x = .ref a ∧ y = .ref b ∧ H a = some (.tup xs) ∧ H b = some (.tup ys) ∧ xs.length + ys.length ≤ sizeLine ∧ ∀ t H', Same H H' → H' t = some (.tup (xs ++ ys)) → Q (.ref t) H'
theorem op_catX : OpR X (binaryOp .Add) rCatX := by
  intro pins s σ H x y v u Q I rx ry q
  obtain ⟨a, b, xs, ys, ex, ey, ha, hb, hz, q⟩ := q
  refine op_catA pins s σ H x y v u Q I rx ry ⟨a, b, xs, ys, ex, ey, SqT.of ha, SqT.of hb, hz, fun e => ?_, fun _ e => ?_, fun _ _ t ht => ?_⟩
  · exact q b H (fun _ _ z => z) (by rw [e]; exact hb)
  · exact q a H (fun _ _ z => z) (by rw [e, List.append_nil]; exact ha)
  · exact q t _ (fun c o z => by rw [upd_ne (ne_of_none z ht)]; exact z) upd_same
end
theorem DxAll.len {H : Hp} {B : List Addr} : ∀ {vs : List V} {ds : List PyData}, DxAll H B vs ds → vs.length = ds.length
  | _, _, .nil => rfl
  | _, _, .cons _ h => congrArg (· + 1) (DxAll.len h)
theorem DxAll.app {H : Hp} {B : List Addr} : ∀ {vs : List V} {ds : List PyData} {ws : List V} {es : List PyData}, DxAll H B vs ds → DxAll H B ws es → DxAll H B (vs ++ ws) (ds ++ es)
  | _, _, _, _, .nil, h => h
  | _, _, _, _, .cons a b, h => .cons a (DxAll.app b h)
theorem DxAll.take {H : Hp} {B : List Addr} : ∀ {vs : List V} {ds : List PyData} (n : Nat), DxAll H B vs ds → DxAll H B (vs.take n) (ds.take n)
  | _, _, 0, _ => .nil
  | _, _, _ + 1, .nil => .nil
  | _, _, n + 1, .cons a b => .cons a (DxAll.take n b)
theorem DxAll.drop {H : Hp} {B : List Addr} : ∀ {vs : List V} {ds : List PyData} (n : Nat), DxAll H B vs ds → DxAll H B (vs.drop n) (ds.drop n)
  | _, _, 0, h => h
  | _, _, _ + 1, .nil => .nil
  | _, _, n + 1, .cons _ b => DxAll.drop n b
theorem DxAll.rev {H : Hp} {B : List Addr} : ∀ {vs : List V} {ds : List PyData}, DxAll H B vs ds → DxAll H B vs.reverse ds.reverse
  | _, _, .nil => .nil
  | _, _, .cons a b => by rw [List.reverse_cons, List.reverse_cons]; exact DxAll.app (DxAll.rev b) (.cons a .nil)
theorem DxAll.at {H : Hp} {B : List Addr} : ∀ {vs : List V} {ds : List PyData} {i : Nat} {v : V}, DxAll H B vs ds → vs[i]? = some v → ∃ d, ds[i]? = some d ∧ Dx H B v d
  | _, _, 0, _, .cons a _, e => by simp at e; subst e; exact ⟨_, rfl, a⟩
  | _, _, i + 1, _, .cons _ b, e => by
    obtain ⟨d, h1, h2⟩ := DxAll.at (i := i) b (by simpa using e)
    exact ⟨d, by simpa using h1, h2⟩
theorem DxAll.mem {H : Hp} {B : List Addr} {vs : List V} {ds : List PyData} {v : V} (h : DxAll H B vs ds) (m : v ∈ vs) : ∃ d, d ∈ ds ∧ Dx H B v d := by
  obtain ⟨i, e⟩ := List.getElem?_of_mem m
  obtain ⟨d, h1, h2⟩ := h.at e
  exact ⟨d, List.mem_of_getElem? h1, h2⟩
/-- the cut of the data -/
def cutD (ds : List PyData) (lo hi : Option Int) : List PyData := (ds.drop (HT.sIx ds.length 0 lo)).take (HT.sIx ds.length ds.length hi - HT.sIx ds.length 0 lo)
theorem DxAll.cut {H : Hp} {B : List Addr} {vs : List V} {ds : List PyData} (h : DxAll H B vs ds) (lo hi : Option Int) : DxAll H B (cutV vs lo hi) (cutD ds lo hi) := by
  rw [cutV, cutD, h.len]
  exact (h.drop _).take _
/-- data outlast what the pen does, and what is new -/
theorem Dx.kp {H H' : Hp} {B : List Addr} {p c : Addr} {N : Nat} {v : V} {d : PyData} (h : Dx H B v d) (k : Kp p H H') (pn : Pen H p c N) : Dx H' B v d := by
  refine Dx.keep (fun a xs e n => ⟨k.lst pn e, n⟩) (fun a xs e => k.tup pn e) (fun a e n => ⟨k a _ (fun z => ?_) e, n⟩) d v h
  obtain ⟨cells, turn, rest, e1, _⟩ := pn
  rw [z, e1] at e
  cases e
theorem Dx.same {H H' : Hp} {B : List Addr} {v : V} {d : PyData} (h : Dx H B v d) (k : Same H H') : Dx H' B v d := Dx.keep (fun a xs e n => ⟨k _ _ e, n⟩) (fun a xs e => k _ _ e) (fun a e n => ⟨k _ _ e, n⟩) d v h
theorem DxAll.kp {H H' : Hp} {B : List Addr} {p c : Addr} {N : Nat} {v : List V} {d : List PyData} (h : DxAll H B v d) (k : Kp p H H') (pn : Pen H p c N) : DxAll H' B v d := by
  refine Dx.keepAll (fun a xs e n => ⟨k.lst pn e, n⟩) (fun a xs e => k.tup pn e) (fun a e n => ⟨k a _ (fun z => ?_) e, n⟩) d v h
  obtain ⟨cells, turn, rest, e1, _⟩ := pn
  rw [z, e1] at e
  cases e
theorem DxAll.same {H H' : Hp} {B : List Addr} {v : List V} {d : List PyData} (h : DxAll H B v d) (k : Same H H') : DxAll H' B v d := Dx.keepAll (fun a xs e n => ⟨k _ _ e, n⟩) (fun a xs e => k _ _ e) (fun a e n => ⟨k _ _ e, n⟩) d v h
/-- a list of the law's own changes: data that are not at it stay -/
theorem DxAll.put {H : Hp} {B : List Addr} {l : Addr} {xs ys : List V} {v : List V} {d : List PyData} (h : DxAll H B v d) (e : H l = some (.lst xs)) (m : l ∈ B) : DxAll (upd H l (.lst ys)) B v d := by
  refine Dx.keepAll (fun a xs e' n => ⟨?_, n⟩) (fun a xs e' => ?_) (fun a e' n => ⟨?_, n⟩) d v h
  · rw [upd_ne (show a ≠ l from fun z => n (by rw [z]; exact m))]; exact e'
  · rw [upd_ne (show a ≠ l from fun z => by rw [z, e] at e'; cases e')]; exact e'
  · rw [upd_ne (show a ≠ l from fun z => n (by rw [z]; exact m))]; exact e'
/-- a new list is none of the data -/
theorem DxAll.new {H : Hp} {B : List Addr} {l : Addr} {v : List V} {d : List PyData} {o : HO} (h : DxAll H B v d) (n : H l = none) : DxAll (upd H l o) (l :: B) v d := by
  refine Dx.keepAll (fun a xs e' nb => ⟨?_, ?_⟩) (fun a xs e' => ?_) (fun a e' nb => ⟨?_, ?_⟩) d v h
  · rw [upd_ne (ne_of_none e' n)]; exact e'
  · exact fun z => (List.mem_cons.mp z).elim (ne_of_none e' n) nb
  · rw [upd_ne (ne_of_none e' n)]; exact e'
  · rw [upd_ne (ne_of_none e' n)]; exact e'
  · exact fun z => (List.mem_cons.mp z).elim (ne_of_none e' n) nb
end Gg

namespace Gg
open PySem PySem.Spec PyProof.Rows L2
mutual
def wx : PyData → Nat
  | .none => 4
  | .bool _ => 5
  | .int i => i.natAbs.log2 + 2
  | .str x => 10 * x.length + 2
  | .list xs => wxAll xs + 3
  | .tuple xs => wxAll xs + 3
  | .dict _ => 2
def wxAll : List PyData → Nat
  | [] => 0
  | x :: xs => wx x + 2 + wxAll xs
end
mutual
/-- ints of at most k bits -/
def finX (k : Nat) : PyData → Bool
  | .none => true
  | .bool _ => true
  | .int i => decide (i.natAbs.log2 < k)
  | .str x => PyData.strOk x
  | .list xs => finAll k xs
  | .tuple xs => finAll k xs
  | .dict kvs => kvs.isEmpty
def finAll (k : Nat) : List PyData → Bool
  | [] => true
  | x :: xs => finX k x && finAll k xs
end
mutual
theorem shown_wx {k : Nat} (hk : k ≤ 1920) : ∀ d : PyData, finX k d = true → d.shown.length ≤ wx d ∧ d.showable = true
  | .none, _ => ⟨by rw [PyData.shown_none, wx]; decide, by rw [PyData.showable]⟩
  | .bool b, _ => ⟨by rw [PyData.shown_bool, wx]; cases b <;> decide, by rw [PyData.showable]⟩
  | .int i, h => by
    have h' : fine (.int i) = true := by rw [fine]; rw [finX] at h; exact decide_eq_true (Nat.lt_of_lt_of_le (of_decide_eq_true h) hk)
    have e := shown_wt (.int i) h'
    rw [wt] at e
    rw [wx]
    exact e
  | .str x, h => by
    have h' : fine (.str x) = true := by rw [fine]; rw [finX] at h; exact h
    have e := shown_wt (.str x) h'
    rw [wt] at e
    rw [wx]
    exact e
  | .list xs, h => by
    rw [finX] at h
    obtain ⟨h1, h2⟩ := shownAll_wx hk xs h
    refine ⟨?_, by rw [PyData.showable]; exact h2⟩
    have e := listText_len_le (PyData.shownAll xs)
    rw [PyData.shownAll_length] at e
    rw [PyData.shown, wx]
    omega
  | .tuple xs, h => by
    rw [finX] at h
    obtain ⟨h1, h2⟩ := shownAll_wx hk xs h
    refine ⟨?_, by rw [PyData.showable]; exact h2⟩
    have e := tupleText_len_le (PyData.shownAll xs)
    rw [PyData.shownAll_length] at e
    rw [PyData.shown, wx]
    omega
  | .dict kvs, h => by
    rw [finX] at h
    cases kvs with
    | nil => exact ⟨by rw [PyData.shown, wx, PyData.shownKv]; decide, by rw [PyData.showable, PyData.showableKv]⟩
    | cons a b => cases h
theorem shownAll_wx {k : Nat} (hk : k ≤ 1920) : ∀ xs : List PyData, finAll k xs = true → ((PyData.shownAll xs).map (·.length)).sum + 2 * xs.length ≤ wxAll xs ∧ PyData.showableAll xs = true
  | [], _ => ⟨by simp [PyData.shownAll, wxAll], by rw [PyData.showableAll]⟩
  | x :: xs, h => by
    rw [finAll, Bool.and_eq_true] at h
    obtain ⟨a1, a2⟩ := shown_wx hk x h.1
    obtain ⟨b1, b2⟩ := shownAll_wx hk xs h.2
    refine ⟨?_, by rw [PyData.showableAll, a2, b2]; rfl⟩
    rw [PyData.shownAll, wxAll, List.map_cons, List.sum_cons, List.length_cons]
    omega
end
/-- data within n levels, of weight w at most -/
structure Bd (k n w : Nat) (d : PyData) : Prop where
  fin : finX k d = true
  wt : wx d ≤ w
  dp : d.depth ≤ n
structure Bds (k n w : Nat) (ds : List PyData) : Prop where
  fin : finAll k ds = true
  wt : wxAll ds ≤ w
  dp : PyData.depthAll ds ≤ n
theorem Bd.mono {k n m w v : Nat} {d : PyData} (h : Bd k n w d) (a : n ≤ m) (b : w ≤ v) : Bd k m v d := ⟨h.fin, Nat.le_trans h.wt b, Nat.le_trans h.dp a⟩
mutual
theorem finX_mono {k l : Nat} (hk : k ≤ l) : ∀ d : PyData, finX k d = true → finX l d = true
  | .none, _ => rfl
  | .bool _, _ => rfl
  | .int i, h => by rw [finX] at h ⊢; exact decide_eq_true (Nat.lt_of_lt_of_le (of_decide_eq_true h) hk)
  | .str x, h => by rw [finX] at h ⊢; exact h
  | .list xs, h => by rw [finX] at h ⊢; exact finAll_mono hk xs h
  | .tuple xs, h => by rw [finX] at h ⊢; exact finAll_mono hk xs h
  | .dict _, h => by rw [finX] at h ⊢; exact h
theorem finAll_mono {k l : Nat} (hk : k ≤ l) : ∀ xs : List PyData, finAll k xs = true → finAll l xs = true
  | [], _ => rfl
  | x :: xs, h => by
    rw [finAll, Bool.and_eq_true] at h ⊢
    exact ⟨finX_mono hk x h.1, finAll_mono hk xs h.2⟩
end
theorem Bd.more {k l n w : Nat} {d : PyData} (h : Bd k n w d) (a : k ≤ l) : Bd l n w d := ⟨finX_mono a d h.fin, h.wt, h.dp⟩
theorem Bds.more {k l n w : Nat} {d : List PyData} (h : Bds k n w d) (a : k ≤ l) : Bds l n w d := ⟨finAll_mono a d h.fin, h.wt, h.dp⟩
theorem Bds.mono {k n m w v : Nat} {d : List PyData} (h : Bds k n w d) (a : n ≤ m) (b : w ≤ v) : Bds k m v d := ⟨h.fin, Nat.le_trans h.wt b, Nat.le_trans h.dp a⟩
theorem Bd.shown {k n w : Nat} {d : PyData} (h : Bd k n w d) (a : n ≤ 60) (b : w ≤ 10000000) (hk : k ≤ 1920 := by omega) : d.showable = true ∧ d.shown.length ≤ sizeLine ∧ d.depth ≤ 60 :=
  ⟨(shown_wx hk d h.fin).2, Nat.le_trans (shown_wx hk d h.fin).1 (Nat.le_trans h.wt (Nat.le_trans b (by decide))), Nat.le_trans h.dp a⟩
theorem wxAll_app : ∀ xs ys : List PyData, wxAll (xs ++ ys) = wxAll xs + wxAll ys
  | [], ys => by rw [List.nil_append, wxAll, Nat.zero_add]
  | x :: xs, ys => by rw [List.cons_append, wxAll, wxAll, wxAll_app xs ys]; omega
theorem finAll_app {k : Nat} : ∀ xs ys : List PyData, finAll k (xs ++ ys) = (finAll k xs && finAll k ys)
  | [], ys => by rw [List.nil_append, finAll, Bool.true_and]
  | x :: xs, ys => by rw [List.cons_append, finAll, finAll, finAll_app xs ys, Bool.and_assoc]
theorem depthAll_app : ∀ xs ys : List PyData, PyData.depthAll (xs ++ ys) = max (PyData.depthAll xs) (PyData.depthAll ys)
  | [], ys => by rw [List.nil_append, PyData.depthAll]; omega
  | x :: xs, ys => by rw [List.cons_append, PyData.depthAll, PyData.depthAll, depthAll_app xs ys]; omega
theorem Bds.app {k n w v : Nat} {xs ys : List PyData} (h : Bds k n w xs) (h' : Bds k n v ys) : Bds k n (w + v) (xs ++ ys) :=
  ⟨by rw [finAll_app, h.fin, h'.fin]; rfl, by rw [wxAll_app]; have := h.wt; have := h'.wt; omega, by rw [depthAll_app]; have := h.dp; have := h'.dp; omega⟩
theorem Bds.parts {k n w : Nat} {xs ys : List PyData} (h : Bds k n w (xs ++ ys)) : ∃ a b, Bds k n a xs ∧ Bds k n b ys ∧ a + b ≤ w := by
  obtain ⟨h1, h2, h3⟩ := h
  rw [finAll_app, Bool.and_eq_true] at h1
  rw [wxAll_app] at h2
  rw [depthAll_app] at h3
  exact ⟨wxAll xs, wxAll ys, ⟨h1.1, Nat.le_refl _, by omega⟩, ⟨h1.2, Nat.le_refl _, by omega⟩, h2⟩
theorem Bds.split {k n w : Nat} {xs : List PyData} (i : Nat) (h : Bds k n w xs) : ∃ a b, Bds k n a (xs.take i) ∧ Bds k n b (xs.drop i) ∧ a + b ≤ w := Bds.parts (by rw [List.take_append_drop]; exact h)
theorem Bds.take {k n w : Nat} {xs : List PyData} (i : Nat) (h : Bds k n w xs) : Bds k n w (xs.take i) := by
  obtain ⟨a, b, h1, _, h3⟩ := h.split i
  exact h1.mono (Nat.le_refl _) (by omega)
theorem Bds.drop {k n w : Nat} {xs : List PyData} (i : Nat) (h : Bds k n w xs) : Bds k n w (xs.drop i) := by
  obtain ⟨a, b, _, h2, h3⟩ := h.split i
  exact h2.mono (Nat.le_refl _) (by omega)
theorem Bds.cut {k n w : Nat} {xs : List PyData} (lo hi : Option Int) (h : Bds k n w xs) : Bds k n w (cutD xs lo hi) := by
  rw [cutD]
  exact (h.drop _).take _
theorem Bds.one {k n w : Nat} {d : PyData} (h : Bd k n w d) : Bds k n (w + 2) [d] :=
  ⟨by rw [finAll, finAll, h.fin]; rfl, by rw [wxAll, wxAll]; have := h.wt; omega, by rw [PyData.depthAll, PyData.depthAll]; have := h.dp; omega⟩
theorem Bds.head {k n w : Nat} {d : PyData} {ds : List PyData} (h : Bds k n w (d :: ds)) : ∃ a b, Bd k n a d ∧ Bds k n b ds ∧ a + 2 + b ≤ w := by
  obtain ⟨h1, h2, h3⟩ := h
  rw [finAll, Bool.and_eq_true] at h1
  rw [wxAll] at h2
  rw [PyData.depthAll] at h3
  exact ⟨wx d, wxAll ds, ⟨h1.1, Nat.le_refl _, by omega⟩, ⟨h1.2, Nat.le_refl _, by omega⟩, h2⟩
theorem Bds.nil {k n w : Nat} : Bds k n w [] := ⟨rfl, Nat.zero_le _, Nat.zero_le _⟩
theorem Bds.cons {k n w v : Nat} {d : PyData} {ds : List PyData} (h : Bd k n w d) (h' : Bds k n v ds) : Bds k n (w + 2 + v) (d :: ds) := (Bds.one h).app h'
theorem Bds.rev {k n : Nat} : ∀ {w : Nat} {xs : List PyData}, Bds k n w xs → Bds k n w xs.reverse
  | _, [], h => h
  | w, x :: xs, h => by
    obtain ⟨a, b, h1, h2, h3⟩ := h.head
    rw [List.reverse_cons]
    exact ((Bds.rev h2).app (Bds.one h1)).mono (Nat.le_refl _) (by omega)
/-- one of them, and the rest around it -/
theorem Bds.at {k n w : Nat} {xs : List PyData} {i : Nat} {d : PyData} (h : Bds k n w xs) (e : xs[i]? = some d) : ∃ a b c, Bds k n a (xs.take i) ∧ Bd k n b d ∧ Bds k n c (xs.drop (i + 1)) ∧ a + b + 2 + c ≤ w := by
  obtain ⟨a, r, h1, h2, h3⟩ := h.split i
  have hi : i < xs.length := (List.getElem?_eq_some_iff.mp e).1
  have e2 : xs.drop i = d :: xs.drop (i + 1) := by
    rw [List.drop_eq_getElem_cons hi, (List.getElem?_eq_some_iff.mp e).2]
  rw [e2] at h2
  obtain ⟨b, c, k1, k2, k3⟩ := h2.head
  exact ⟨a, b, c, h1, k1, k2, by omega⟩
theorem Bds.mem {k n w : Nat} {xs : List PyData} {d : PyData} (h : Bds k n w xs) (m : d ∈ xs) : Bd k n w d := by
  obtain ⟨i, e⟩ := List.getElem?_of_mem m
  obtain ⟨a, b, c, _, k, _, l⟩ := h.at e
  exact k.mono (Nat.le_refl _) (by omega)
theorem Bd.tup {k n w : Nat} {ds : List PyData} (h : Bds k n w ds) : Bd k (n + 1) (w + 3) (.tuple ds) := ⟨by rw [finX]; exact h.fin, by rw [wx]; have := h.wt; omega, by rw [PyData.depth]; have := h.dp; omega⟩
theorem Bd.lst {k n w : Nat} {ds : List PyData} (h : Bds k n w ds) : Bd k (n + 1) (w + 3) (.list ds) := ⟨by rw [finX]; exact h.fin, by rw [wx]; have := h.wt; omega, by rw [PyData.depth]; have := h.dp; omega⟩
theorem Bd.ofTup {k n w : Nat} {ds : List PyData} (h : Bd k n w (.tuple ds)) : ∃ m v, Bds k m v ds ∧ m + 1 ≤ n ∧ v + 3 ≤ w := by
  obtain ⟨h1, h2, h3⟩ := h
  rw [finX] at h1
  rw [wx] at h2
  rw [PyData.depth] at h3
  exact ⟨_, _, ⟨h1, Nat.le_refl _, Nat.le_refl _⟩, h3, h2⟩
theorem Bd.ofLst {k n w : Nat} {ds : List PyData} (h : Bd k n w (.list ds)) : ∃ m v, Bds k m v ds ∧ m + 1 ≤ n ∧ v + 3 ≤ w := by
  obtain ⟨h1, h2, h3⟩ := h
  rw [finX] at h1
  rw [wx] at h2
  rw [PyData.depth] at h3
  exact ⟨_, _, ⟨h1, Nat.le_refl _, Nat.le_refl _⟩, h3, h2⟩
theorem Bd.non {k n w : Nat} (h : 4 ≤ w) : Bd k n w .none := ⟨rfl, h, Nat.zero_le _⟩
theorem Bd.bool {k n w : Nat} {b : Bool} (h : 5 ≤ w) : Bd k n w (.bool b) := ⟨rfl, h, Nat.zero_le _⟩
theorem Bd.emp {k n w : Nat} (h : 2 ≤ w) : Bd k (n + 1) w (.dict []) := ⟨rfl, h, by rw [PyData.depth, PyData.depthKv]; omega⟩
theorem Bd.str {k n w : Nat} {x : Str} (h : PyData.strOk x = true) (l : 10 * x.length + 2 ≤ w) : Bd k n w (.str x) := ⟨h, l, Nat.zero_le _⟩
theorem Bd.int {k n w : Nat} {i : Int} (h : i.natAbs.log2 < k) (l : i.natAbs.log2 + 2 ≤ w) : Bd k n w (.int i) := by
  refine ⟨?_, l, Nat.zero_le _⟩
  rw [finX]
  exact decide_eq_true h
end Gg

namespace Gg
open PySem PySem.Spec PyProof.Rows L2
def nm : V → Option Int
  | .int i => some i
  | .bl b => some (if b = true then (1 : Int) else 0)
  | _ => none
section
variable {prog : Program} {w : World} {A : Around} {E : Value → Shared → Prop} {s : Shared} {b : Bool}
theorem neg_bool {Q : Value → Shared → Prop} (h : Q (.int (-(if b = true then (1 : Int) else 0)) s.toks) { s with toks := s.toks + 1 }) : wpAny (model prog w) A (unaryOp .USub (.bool b)) Q E s := by
  unfold unaryOp
  refine wpAny_holding ?_
  refine wpAny_bind (m := callSpecial? (.bool b) (Str.ofString "__neg__")) (wpAny_callSpecial?_slot (name := Str.ofString "__neg__") (T := "bool") rfl F.slot_bool_neg
    (wpAny_call_entry F.slot_bool_neg (show s.TypeIs (.bool b) "bool" from rfl) entry_int_neg ?_ (args_int_neg _)))
  cases b
  · show wpAny _ _ (do ret (← mkInt (-0))) _ _ s
    exact wpAny_bind (wpAny_mkInt (wpAny_pure ⟨_, rfl, wpAny_pure h⟩))
  · show wpAny _ _ (do ret (← mkInt (-1))) _ _ s
    exact wpAny_bind (wpAny_mkInt (wpAny_pure ⟨_, rfl, wpAny_pure h⟩))
end
section
variable {X : Cx}
def rN (g : Int → Int → V) : R2 := fun x y H Q => ∃ i j, nm x = some i ∧ y = .int j ∧ Q (g i j) H
theorem op_addN : OpR X (binaryOp .Add) (rN fun i j => .int (i + j)) := by
  intro pins s σ H x y v u Q I rx ry h
  obtain ⟨i, j, e, rfl, q⟩ := h
  obtain ⟨t', rfl⟩ := ry
  cases x with
  | int k => cases e; obtain ⟨t, rfl⟩ := rx; exact add_int ⟨.int _, H, I.tok _, ⟨_, rfl⟩, q⟩
  | bl b => cases e; cases rx; exact PySem.IntBool.add_bool_int ⟨.int _, H, I.tok _, ⟨_, rfl⟩, q⟩
  | _ => cases e
theorem op_subN : OpR X (binaryOp .Sub) (rN fun i j => .int (i - j)) := by
  intro pins s σ H x y v u Q I rx ry h
  obtain ⟨i, j, e, rfl, q⟩ := h
  obtain ⟨t', rfl⟩ := ry
  cases x with
  | int k => cases e; obtain ⟨t, rfl⟩ := rx; exact sub_int ⟨.int _, H, I.tok _, ⟨_, rfl⟩, q⟩
  | bl b => cases e; cases rx; exact PySem.IntBool.sub_bool_int ⟨.int _, H, I.tok _, ⟨_, rfl⟩, q⟩
  | _ => cases e
def rNM : R2 := fun x y H Q => ∃ i j, nm x = some i ∧ y = .int j ∧ -(2 ^ 64) < j ∧ j < 2 ^ 64 ∧ Q (.int (i * j)) H
theorem op_mulN : OpR X (binaryOp .Mult) rNM := by
  intro pins s σ H x y v u Q I rx ry h
  obtain ⟨i, j, e, rfl, h1, h2, q⟩ := h
  obtain ⟨t', rfl⟩ := ry
  cases x with
  | int k => cases e; obtain ⟨t, rfl⟩ := rx; exact mul_int ⟨.int _, H, I.tok _, ⟨_, rfl⟩, q⟩ (CMul.ok (.inr ⟨h1, h2⟩))
  | bl b => cases e; cases rx; exact PySem.IntBool.mul_bool_int ⟨.int _, H, I.tok _, ⟨_, rfl⟩, q⟩
  | _ => cases e
theorem un_negN : UnR X (unaryOp .USub) (fun x H Q => ∃ i, nm x = some i ∧ Q (.int (-i)) H) := by
  intro pins s σ H x v Q I rx h
  obtain ⟨i, e, q⟩ := h
  cases x with
  | int k => cases e; obtain ⟨t, rfl⟩ := rx; exact neg_int ⟨.int _, H, I.tok _, ⟨_, rfl⟩, q⟩
  | bl b => cases e; cases rx; exact neg_bool ⟨.int _, H, I.tok _, ⟨_, rfl⟩, q⟩
  | _ => cases e
theorem call_strN : CallR X (.type "str") (fun xs H Q => ∃ v, xs = [v] ∧ ((∃ i, v = .int i ∧ i.natAbs.log2 < 1920 ∧ Q (.str (toString i)) H) ∨ ∃ b, v = .bl b ∧ Q (.str (if b then "True" else "False")) H)) := by
  intro pins s σ H xs us Q I r h
  obtain ⟨v, rfl, ⟨i, rfl, hz, q⟩ | ⟨b, rfl, q⟩⟩ := h
  · exact call_str_int pins s σ H _ us Q I r ⟨i, rfl, hz, q⟩
  · obtain ⟨u, rfl, r1⟩ := vals1 r
    cases r1
    exact PySem.P.str_of_bool ⟨.str _, H, I.tok _, ⟨_, rfl⟩, q⟩
end
end Gg

namespace Gg
open PySem PySem.Spec PyProof.Rows L2
section
variable {X : Cx} {es : List Expr} {t : TA} {pos : Pos}
def tTupS (t : TA) : TE := fun σ H Q => t σ H fun xs H1 => xs.length ≤ sizeLine ∧ ∀ p H', Same H1 H' → H1 p = none → H' p = some (.tup xs) → Q (.ref p) H'
def tLstS (t : TA) : TE := fun σ H Q => t σ H fun xs H1 => xs.length ≤ sizeLine ∧ ∀ p H', Same H1 H' → H1 p = none → H' p = some (.lst xs) → Q (.ref p) H'
theorem pe_tupS {x1} (h : PA X es t) : PE X (.Tuple es x1 pos) (tTupS t) := by
  intro pins s σ H Q I hq
  refine wpAny_Tuple_spliced (thn (h pos pins s σ H _ I hq) fun us s1 ⟨xs, H1, I1, r, z, q⟩ => ⟨by rw [← r.length]; exact z, ?_⟩)
  have hf : H1 s1.heap.objs.size = none := I1.hok.fresh (Nat.le_refl _)
  refine ⟨.ref s1.heap.objs.size, upd H1 s1.heap.objs.size (.tup xs), I1.laid (t' := s1.toks) (fun b u e => Heap.get?_push_of_some _ e) (Nat.le_refl _) ?_, rfl, q _ _ (same_new hf _) hf upd_same⟩
  exact ⟨z, us, r, ⟨_, Heap.get?_push_size _ rfl, rfl, _, rfl⟩⟩
theorem pe_lstS (h : PA X es t) : PE X (.List es pos) (tLstS t) := by
  intro pins s σ H Q I hq
  refine wpAny_List_spliced (thn (h pos pins s σ H _ I hq) fun us s1 ⟨xs, H1, I1, r, z, q⟩ => ⟨by rw [← r.length]; exact z, ?_⟩)
  have hf : H1 s1.heap.objs.size = none := I1.hok.fresh (Nat.le_refl _)
  refine ⟨.ref s1.heap.objs.size, upd H1 s1.heap.objs.size (.lst xs), I1.laid (t' := s1.toks) (fun b u e => Heap.get?_push_of_some _ e) (Nat.le_refl _) ?_, rfl, q _ _ (same_new hf _) hf upd_same⟩
  exact ⟨z, us, 0, r, Heap.get?_push_size _ rfl⟩
def tDNewS : TE := fun _ H Q => ∀ p H', Same H H' → H p = none → H' p = some (.dK []) → Q (.ref p) H'
theorem pe_dnewS : PE X (.Dict [] [] pos) tDNewS := fun pins s σ H Q I h => pe_dnewK pins s σ H Q I fun p hp => h p _ (same_new hp _) hp upd_same
def rCatLS : R2 := fun x y H Q => ∃ l b xs zs, x = .ref l ∧ y = .ref b ∧ H l = some (.lst xs) ∧ H b = some (.lst zs) ∧ xs.length + zs.length ≤ sizeLine ∧ ∀ p H', Same H H' → H p = none → H' p = some (.lst (xs ++ zs)) → Q (.ref p) H'
theorem op_catLS : OpR X (binaryOp .Add) rCatLS := by
  intro pins s σ H x y v u Q I rx ry h
  obtain ⟨l, b, xs, zs, e1, e2, h1, h2, z, q⟩ := h
  exact op_cat pins s σ H x y v u Q I rx ry ⟨l, b, xs, zs, e1, e2, h1, h2, z, fun p hp => q p _ (same_new hp _) hp upd_same⟩
end
section
variable {H H' : Hp} {B : List Addr}
/-- nothing of B is new -/
def Old (H : Hp) (B : List Addr) : Prop := ∀ b, b ∈ B → H b ≠ none
theorem Old.same (h : Old H B) (s : Same H H') : Old H' B := fun b hb z => by
  cases e : H b with
  | none => exact h b hb e
  | some o => rw [s b o e] at z; cases z
theorem Old.kp {p : Addr} (h : Old H B) (s : Kp p H H') (hp : H' p ≠ none) : Old H' B := fun b hb z => by
  by_cases hbp : b = p
  · exact hp (hbp ▸ z)
  cases e : H b with
  | none => exact h b hb e
  | some o => rw [s b o hbp e] at z; cases z
theorem Old.not (h : Old H B) {p : Addr} (e : H p = none) : p ∉ B := fun m => h p m e
theorem Old.cons (h : Old H B) {p : Addr} (e : H p ≠ none) : Old H (p :: B) := fun b hb => by
  rcases List.mem_cons.mp hb with z | z
  · rw [z]; exact e
  · exact h b z
theorem Dx.less {l : Addr} {v : V} {d : PyData} (h : Dx H (l :: B) v d) : Dx H B v d :=
  Dx.keep (fun a xs e nb => ⟨e, fun m => nb (List.mem_cons_of_mem _ m)⟩) (fun a xs e => e) (fun a e nb => ⟨e, fun m => nb (List.mem_cons_of_mem _ m)⟩) d v h
theorem DxAll.less {l : Addr} {v : List V} {d : List PyData} (h : DxAll H (l :: B) v d) : DxAll H B v d :=
  Dx.keepAll (fun a xs e nb => ⟨e, fun m => nb (List.mem_cons_of_mem _ m)⟩) (fun a xs e => e) (fun a e nb => ⟨e, fun m => nb (List.mem_cons_of_mem _ m)⟩) d v h
end
/-- a row of odd things -/
def Pk (H : Hp) (B : List Addr) (xs : List V) : Prop := ∀ v, v ∈ xs → ∃ d, Dx H B v d ∧ Bd 300 3 600 d
theorem Pk.nil {H : Hp} {B : List Addr} : Pk H B [] := fun _ h => by cases h
theorem Pk.cons {H : Hp} {B : List Addr} {v : V} {xs : List V} {d : PyData} (h : Dx H B v d) (b : Bd 300 3 600 d) (r : Pk H B xs) : Pk H B (v :: xs) := fun u hu => by
  rcases List.mem_cons.mp hu with z | z
  · rw [z]; exact ⟨d, h, b⟩
  · exact r u z
theorem Pk.app {H : Hp} {B : List Addr} {xs ys : List V} (h : Pk H B xs) (k : Pk H B ys) : Pk H B (xs ++ ys) := fun v hv => (List.mem_append.mp hv).elim (h v) (k v)
theorem Pk.same {H H' : Hp} {B : List Addr} {xs : List V} (h : Pk H B xs) (s : Same H H') : Pk H' B xs := fun v hv => let ⟨d, a, b⟩ := h v hv; ⟨d, a.same s, b⟩
theorem Pk.put {H : Hp} {B : List Addr} {xs : List V} {l : Addr} {zs ys : List V} (h : Pk H (l :: B) xs) (e : H l = some (.lst zs)) : Pk (upd H l (.lst ys)) B xs := fun v hv => by
  obtain ⟨d, a, b⟩ := h v hv
  have z := DxAll.put (ys := ys) (.cons a .nil) e (List.mem_cons_self ..)
  cases z with
  | cons z _ => exact ⟨d, z.less, b⟩
theorem none_of {p l : Addr} {H J : Hp} (k : Kp p H J) (n : l ≠ p) (m : J l = none) : H l = none := by
  cases e : H l with
  | none => rfl
  | some o => rw [k l o n e] at m; cases m
end Gg

namespace Gg
open PySem PySem.Spec PyProof.Rows L2
inductive LitI : Expr → Int → Prop
  | con {i : Int} {j : Nat} {pos : Pos} : LitI (.Constant (.int i) j pos) i
  | neg {e : Expr} {i : Int} {pos : Pos} : LitI e i → LitI (.UnaryOp .USub e pos) (-i)
  | pow {a b : Expr} {i j : Int} {pos : Pos} : LitI a i → LitI b j → CPow i j → LitI (.BinOp a .Pow b pos) (i ^ j.toNat)
  | add {a b : Expr} {i j : Int} {pos : Pos} : LitI a i → LitI b j → LitI (.BinOp a .Add b pos) (i + j)
  | mul {a b : Expr} {i j : Int} {pos : Pos} : LitI a i → LitI b j → CMul i j → LitI (.BinOp a .Mult b pos) (i * j)
mutual
inductive Lit : Expr → PyData → Prop
  | non {j : Nat} {pos : Pos} : Lit (.Constant .none j pos) .none
  | bl {b : Bool} {j : Nat} {pos : Pos} : Lit (.Constant (.bool b) j pos) (.bool b)
  | str {x : Str} {j : Nat} {pos : Pos} : Lit (.Constant (.str x) j pos) (.str x)
  | int {e : Expr} {i : Int} : LitI e i → Lit e (.int i)
  | tup {es : List Expr} {ds : List PyData} {x : Nat} {pos : Pos} : LitAll es ds → Lit (.Tuple es x pos) (.tuple ds)
  | lst {es : List Expr} {ds : List PyData} {pos : Pos} : LitAll es ds → Lit (.List es pos) (.list ds)
  | emp {pos : Pos} : Lit (.Dict [] [] pos) (.dict [])
inductive LitAll : List Expr → List PyData → Prop
  | nil : LitAll [] []
  | cons {e : Expr} {es : List Expr} {d : PyData} {ds : List PyData} : Lit e d → LitAll es ds → LitAll (e :: es) (d :: ds)
end
def tLit (d : PyData) : TE := fun _ H Q => ∀ v H', Same H H' → (∀ B, Old H B → Dx H' B v d) → Q v H'
def tLits (ds : List PyData) : TA := fun _ H Q => ds.length ≤ 1000 ∧ ∀ vs H', Same H H' → (∀ B, Old H B → DxAll H' B vs ds) → Q vs H'
mutual
def szOk : PyData → Bool
  | .tuple xs => decide (xs.length ≤ 1000) && szAll xs
  | .list xs => decide (xs.length ≤ 1000) && szAll xs
  | _ => true
def szAll : List PyData → Bool
  | [] => true
  | x :: xs => szOk x && szAll xs
end
section
variable {X : Cx}
theorem pe_litI {e : Expr} {i : Int} (h : LitI e i) : PE X e (tC (.int i)) := by
  induction h with
  | con => exact pe_int
  | neg _ ih => exact fun pins s σ H Q I h => pe_un un_neg ih pins s σ H Q I ⟨_, rfl, h⟩
  | pow _ _ c ih1 ih2 => exact fun pins s σ H Q I h => pe_op op_pow ih1 ih2 pins s σ H Q I ⟨_, _, rfl, rfl, c, h⟩
  | add _ _ ih1 ih2 => exact fun pins s σ H Q I h => pe_op op_add ih1 ih2 pins s σ H Q I ⟨_, _, rfl, rfl, h⟩
  | mul _ _ c ih1 ih2 => exact fun pins s σ H Q I h => pe_op op_mul ih1 ih2 pins s σ H Q I ⟨_, _, rfl, rfl, c, h⟩
theorem Lit.star {e : Expr} {d : PyData} (h : Lit e d) (es : List Expr) (env : Env) : starEach (e :: es) env = (false, eval e env) :: starEach es env := by
  cases h with
  | int h => cases h <;> rfl
  | _ => rfl
mutual
theorem pe_lit : ∀ (d : PyData) (e : Expr), Lit e d → szOk d = true → PE X e (tLit d)
  | .none, _, h, _ => by cases h; exact fun pins s σ H Q I q => pe_non pins s σ H Q I (q _ _ (fun _ _ z => z) fun _ _ => .non)
  | .bool b, _, h, _ => by cases h; exact fun pins s σ H Q I q => pe_bl pins s σ H Q I (q _ _ (fun _ _ z => z) fun _ _ => .bl _)
  | .int i, _, h, _ => by
    cases h with
    | int h => exact fun pins s σ H Q I q => pe_litI h pins s σ H Q I (q _ _ (fun _ _ z => z) fun _ _ => .int _)
  | .str x, _, h, _ => by cases h; exact fun pins s σ H Q I q => pe_str pins s σ H Q I (q _ _ (fun _ _ z => z) fun _ _ => .str _)
  | .tuple ds, _, h, z => by
    cases h with
    | tup h =>
      rw [szOk, Bool.and_eq_true] at z
      have hl := of_decide_eq_true z.1
      refine fun pins s σ H Q I q => pe_tupS (pe_lits ds _ h z.2) pins s σ H Q I ⟨hl, fun vs H1 S1 D1 => ⟨?_, fun p H2 S2 n e => q _ _ (S1.trans S2) fun B od => .tup e ((D1 B od).same S2)⟩⟩
      have := (D1 [] (fun _ z => by cases z)).len
      exact Nat.le_trans (by omega) (show 1000 ≤ sizeLine by decide)
  | .list ds, _, h, z => by
    cases h with
    | lst h =>
      rw [szOk, Bool.and_eq_true] at z
      have hl := of_decide_eq_true z.1
      refine fun pins s σ H Q I q => pe_lstS (pe_lits ds _ h z.2) pins s σ H Q I ⟨hl, fun vs H1 S1 D1 => ⟨?_, fun p H2 S2 n e => q _ _ (S1.trans S2) fun B od => .lst e ((od.same S1).not n) ((D1 B od).same S2)⟩⟩
      have := (D1 [] (fun _ z => by cases z)).len
      exact Nat.le_trans (by omega) (show 1000 ≤ sizeLine by decide)
  | .dict _, _, h, _ => by
    cases h with
    | emp => exact fun pins s σ H Q I q => pe_dnewS pins s σ H Q I fun p H2 S2 n e => q _ _ S2 fun B od => .emp e (od.not n)
theorem pe_lits : ∀ (ds : List PyData) (es : List Expr), LitAll es ds → szAll ds = true → PA X es (tLits ds)
  | [], _, h, _ => by cases h; exact fun pos pins s σ H Q I q => pa_nil pos pins s σ H Q I (q.2 _ _ (fun _ _ z => z) fun _ _ => .nil)
  | d :: ds, _, h, z => by
    cases h with
    | cons h1 h2 =>
      rw [szAll, Bool.and_eq_true] at z
      refine fun pos pins s σ H Q I q => pa_cons (pe_lit d _ h1 z.1) (pe_lits ds _ h2 z.2) (h1.star _ _) pos pins s σ H Q I fun v H1 S1 D1 => ⟨?_, fun vs H2 S2 D2 => q.2 _ _ (S1.trans S2) fun B od => .cons ((D1 B od).same S2) (D2 B (od.same S1))⟩
      have := q.1
      rw [List.length_cons] at this
      omega
end
end
def litV : Expr → Int
  | .Constant (.int i) _ _ => i
  | .UnaryOp .USub e _ => -(litV e)
  | .BinOp a .Pow b _ => litV a ^ (litV b).toNat
  | .BinOp a .Add b _ => litV a + litV b
  | .BinOp a .Mult b _ => litV a * litV b
  | _ => 0
def numOk : Expr → Bool
  | .Constant (.int _) _ _ => true
  | .UnaryOp .USub e _ => numOk e
  | .BinOp a .Pow b _ => numOk a && numOk b && decide (0 ≤ litV b) && decide (litV b ≤ 1000000) && decide ((litV a).natAbs < 2 ^ 64)
  | .BinOp a .Add b _ => numOk a && numOk b
  | .BinOp a .Mult b _ => numOk a && numOk b && ((decide (-(2 ^ 64) < litV a) && decide (litV a < 2 ^ 64)) || (decide (-(2 ^ 64) < litV b) && decide (litV b < 2 ^ 64)))
  | _ => false
theorem numOk_lit : ∀ e : Expr, numOk e = true → LitI e (litV e)
  | .Constant (.int _) _ _, _ => by rw [litV]; exact .con
  | .UnaryOp .USub e _, h => by rw [litV]; rw [numOk] at h; exact .neg (numOk_lit e h)
  | .BinOp a .Pow b _, h => by
    rw [litV]; rw [numOk] at h
    simp only [Bool.and_eq_true, decide_eq_true_eq] at h
    exact .pow (numOk_lit a h.1.1.1.1) (numOk_lit b h.1.1.1.2) ⟨h.1.1.2, h.1.2, h.2⟩
  | .BinOp a .Add b _, h => by
    rw [litV]; rw [numOk] at h
    simp only [Bool.and_eq_true] at h
    exact .add (numOk_lit a h.1) (numOk_lit b h.2)
  | .BinOp a .Mult b _, h => by
    rw [litV]; rw [numOk] at h
    simp only [Bool.and_eq_true, Bool.or_eq_true, decide_eq_true_eq] at h
    exact .mul (numOk_lit a h.1.1) (numOk_lit b h.1.2) h.2
mutual
def litD : Expr → PyData
  | .Constant .none _ _ => .none
  | .Constant (.bool b) _ _ => .bool b
  | .Constant (.str x) _ _ => .str x
  | .Tuple es _ _ => .tuple (litDs es)
  | .List es _ => .list (litDs es)
  | .Dict _ _ _ => .dict []
  | e => .int (litV e)
def litDs : List Expr → List PyData
  | [] => []
  | e :: es => litD e :: litDs es
end
mutual
def litOk : Expr → Bool
  | .Constant .none _ _ => true
  | .Constant (.bool _) _ _ => true
  | .Constant (.str _) _ _ => true
  | .Constant (.int _) _ _ => true
  | .Tuple es _ _ => decide (es.length ≤ 1000) && litOks es
  | .List es _ => decide (es.length ≤ 1000) && litOks es
  | .Dict [] [] _ => true
  | .UnaryOp .USub e p => numOk (.UnaryOp .USub e p)
  | .BinOp a o b p => numOk (.BinOp a o b p)
  | _ => false
def litOks : List Expr → Bool
  | [] => true
  | e :: es => litOk e && litOks es
end
theorem litDs_len : ∀ es : List Expr, (litDs es).length = es.length
  | [] => rfl
  | e :: es => by rw [litDs, List.length_cons, litDs_len es, List.length_cons]
mutual
theorem lit_of : ∀ e : Expr, litOk e = true → Lit e (litD e) ∧ szOk (litD e) = true
  | .Constant .none _ _, _ => ⟨.non, rfl⟩
  | .Constant (.bool _) _ _, _ => ⟨.bl, rfl⟩
  | .Constant (.str _) _ _, _ => ⟨.str, rfl⟩
  | .Constant (.int _) _ _, _ => ⟨.int .con, rfl⟩
  | .Tuple es _ _, h => by
    rw [litOk, Bool.and_eq_true] at h
    obtain ⟨a, b⟩ := lits_of es h.2
    refine ⟨by rw [litD]; exact .tup a, ?_⟩
    rw [litD, szOk, Bool.and_eq_true]
    exact ⟨by rw [litDs_len]; exact h.1, b⟩
  | .List es _, h => by
    rw [litOk, Bool.and_eq_true] at h
    obtain ⟨a, b⟩ := lits_of es h.2
    refine ⟨by rw [litD]; exact .lst a, ?_⟩
    rw [litD, szOk, Bool.and_eq_true]
    exact ⟨by rw [litDs_len]; exact h.1, b⟩
  | .Dict [] [] _, _ => ⟨.emp, rfl⟩
  | .UnaryOp .USub e p, h => ⟨.int (numOk_lit _ h), rfl⟩
  | .BinOp a o b p, h => ⟨.int (numOk_lit _ h), rfl⟩
theorem lits_of : ∀ es : List Expr, litOks es = true → LitAll es (litDs es) ∧ szAll (litDs es) = true
  | [], _ => ⟨.nil, rfl⟩
  | e :: es, h => by
    rw [litOks, Bool.and_eq_true] at h
    obtain ⟨a, b⟩ := lit_of e h.1
    obtain ⟨c, d⟩ := lits_of es h.2
    refine ⟨by rw [litDs]; exact .cons a c, ?_⟩
    rw [litDs, szAll, Bool.and_eq_true]
    exact ⟨b, d⟩
end
theorem pe_litD {X : Cx} {e : Expr} (h : litOk e = true) : PE X e (tLit (litD e)) := pe_lit _ _ (lit_of e h).1 (lit_of e h).2
end Gg

namespace Gg
open PySem PySem.Spec PyProof.Rows L2
/-- a part otherwise -/
theorem bent_in {k m w i : Nat} {ds : List PyData} {d : PyData} (h : Bds k m w ds) (e : ds[i]? = some d) : ∃ b, b ≤ w ∧ Bd k m b d ∧ ∀ d', Bd (k + 4) (m + 4) (2 * b + 4000) d' → Bds (k + 4) (m + 4) (2 * w + 4000) (ds.take i ++ [d'] ++ ds.drop (i + 1)) := by
  obtain ⟨a, b, c, h1, h2, h3, h4⟩ := h.at e
  refine ⟨b, by omega, h2, fun d' hd => ?_⟩
  exact ((((h1.more (by omega)).mono (Nat.le_add_right m 4) (Nat.le_refl _)).app (Bds.one hd)).app ((h3.more (by omega)).mono (Nat.le_add_right m 4) (Nat.le_refl _))).mono (Nat.le_refl _) (by omega)
theorem bent_out {k m w i : Nat} {ds : List PyData} (h : Bds k m w ds) : Bds k m (2 * w) (ds.take i ++ ds.drop (i + 1)) ∧ Bds k m (2 * w) (ds.take (i + 1) ++ ds.drop i) ∧ Bds k m (2 * w) ds.reverse ∧ Bds k m (2 * w) ds :=
  ⟨((h.take i).app (h.drop (i + 1))).mono (Nat.le_refl _) (by omega), ((h.take (i + 1)).app (h.drop i)).mono (Nat.le_refl _) (by omega), h.rev.mono (Nat.le_refl _) (by omega), h.mono (Nat.le_refl _) (by omega)⟩
theorem bent_tup {k m n w v : Nat} {ds : List PyData} (h : Bds k m (2 * v) ds) (a : m + 1 ≤ n) (b : v + 3 ≤ w) : Bd (k + 4) (n + 4) (2 * w + 4000) (.tuple ds) := ((Bd.tup h).more (by omega)).mono (by omega) (by omega)
theorem bent_lst {k m n w v : Nat} {ds : List PyData} (h : Bds k m (2 * v) ds) (a : m + 1 ≤ n) (b : v + 3 ≤ w) : Bd (k + 4) (n + 4) (2 * w + 4000) (.list ds) := ((Bd.lst h).more (by omega)).mono (by omega) (by omega)
theorem strOk_app {x y : Str} (h : PyData.strOk x = true) (h' : PyData.strOk y = true) : PyData.strOk (x ++ y) = true := by
  unfold PyData.strOk at h h' ⊢
  rw [← Array.all_toList] at h h' ⊢
  have e : (x ++ y).cps.toList = x.cps.toList ++ y.cps.toList := Array.toList_append
  rw [e, List.all_append, h, h']
  rfl
theorem strOk_sub {x y : Str} (h : PyData.strOk x = true) (s : ∀ c ∈ y.cps.toList, c ∈ x.cps.toList) : PyData.strOk y = true := by
  unfold PyData.strOk at h ⊢
  rw [← Array.all_toList] at h ⊢
  exact List.all_eq_true.mpr fun c hc => List.all_eq_true.mp h c (s c hc)
theorem strOk_cut {x : Str} (h : PyData.strOk x = true) (lo hi : Option Int) : PyData.strOk (cutS x lo hi) = true :=
  strOk_sub h fun c hc => by
    rw [cutS] at hc
    exact List.mem_of_mem_drop (List.mem_of_mem_take hc)
theorem cutS_len (x : Str) (lo hi : Option Int) : (cutS x lo hi).length ≤ x.length := by
  show ((((x.cps.toList.drop _).take _).toArray).size) ≤ x.cps.size
  rw [List.size_toArray, List.length_take, List.length_drop, Array.length_toList]; omega
theorem app_len (x y : Str) : (x ++ y).length = x.length + y.length := Array.size_append
theorem cutS_two (x : Str) {i j : Int} (h : 0 ≤ i) (hj : i ≤ j) : (cutS x none (some i)).length + (cutS x (some j) none).length ≤ x.length := by
  have e : i = ((i.toNat : Nat) : Int) := by omega
  have e' : j = ((j.toNat : Nat) : Int) := by omega
  show (((x.cps.toList.drop _).take _).toArray).size + (((x.cps.toList.drop _).take _).toArray).size ≤ x.cps.size
  rw [List.size_toArray, List.size_toArray, List.length_take, List.length_take, List.length_drop, List.length_drop, Array.length_toList, e, e', HT.sIx_nat, HT.sIx_nat, HT.sIx_none, HT.sIx_none]
  show _ ≤ x.length
  have : x.cps.size = x.length := rfl
  omega
theorem bent_str {k m w n : Nat} {x y : Str} (h : Bd k n w (.str x)) (o : PyData.strOk y = true) (l : y.length ≤ x.length + 1) : Bd (k + 4) (m + 4) (2 * w + 4000) (.str y) := by
  have e := h.wt
  rw [wx] at e
  exact Bd.str o (by omega)
theorem bd_str {k n w : Nat} {x : Str} (h : Bd k n w (.str x)) : PyData.strOk x = true ∧ 10 * x.length + 2 ≤ w := by
  have e := h.wt
  have f := h.fin
  rw [wx] at e
  rw [finX] at f
  exact ⟨f, e⟩
theorem log2_16 {a b : Nat} (h : a ≤ 16 * b + 15) : a.log2 ≤ b.log2 + 4 := by
  by_cases z : a = 0
  · rw [z]; exact Nat.zero_le _
  · have : a < 2 ^ (b.log2 + 5) := by
      have hb : b < 2 ^ (b.log2 + 1) := Nat.lt_log2_self
      have e : 2 ^ (b.log2 + 5) = 16 * 2 ^ (b.log2 + 1) := by rw [show b.log2 + 5 = b.log2 + 1 + 4 from rfl, Nat.pow_add]; omega
      omega
    have := (Nat.log2_lt z).mpr this
    omega
theorem bent_int {k m w n : Nat} {i j : Int} (h : Bd k n w (.int i)) (hk : 300 ≤ k) (l : j.natAbs ≤ 16 * i.natAbs + 15) : Bd (k + 4) (m + 4) (2 * w + 4000) (.int j) := by
  have e := h.wt
  have f := h.fin
  rw [wx] at e
  rw [finX] at f
  have f' := of_decide_eq_true f
  have g := log2_16 l
  exact Bd.int (by omega) (by omega)
theorem bent_small {k m w : Nat} {j : Int} (hk : 300 ≤ k) (l : j.natAbs < 2 ^ 100) : Bd (k + 4) (m + 4) (2 * w + 4000) (.int j) := by
  have g : j.natAbs.log2 < 100 := by
    by_cases z : j.natAbs = 0
    · rw [z]; decide
    · exact (Nat.log2_lt z).mpr l
  exact Bd.int (by omega) (by omega)
theorem strOk_int (i : Int) : PyData.strOk ((toString i : String) : Str) = true := by
  unfold PyData.strOk
  rw [← Array.all_toList]
  refine List.all_eq_true.mpr fun c hc => decide_eq_true ?_
  by_cases z : c < 0x110000
  · exact z
  · exact absurd hc (PyProof.Rows.int_text_free' c ⟨by omega, by omega⟩ i)
theorem bent_text {k m w n : Nat} {i : Int} (h : Bd k n w (.int i)) (hk : k ≤ 400) : Bd (k + 4) (m + 4) (2 * w + 4000) (.str ((toString i : String) : Str)) := by
  have e := h.wt
  have f := h.fin
  have g := (shown_wx (show k ≤ 1920 by omega) (.int i) f).1
  rw [PyData.shown_int] at g
  rw [finX] at f
  have f' := of_decide_eq_true f
  rw [wx] at e
  exact Bd.str (strOk_int i) (by have g' : ((toString i : String) : Str).length ≤ wx (.int i) := g; rw [wx] at g'; omega)
theorem bd_log {k n w : Nat} {i : Int} (h : Bd k n w (.int i)) (hk : k ≤ 400) : i.natAbs.log2 < 1920 := by
  have f := h.fin
  rw [finX] at f
  have f' := of_decide_eq_true f
  omega
theorem Bds.len {k n : Nat} : ∀ {w : Nat} {ds : List PyData}, Bds k n w ds → 2 * ds.length ≤ w
  | _, [], _ => Nat.zero_le _
  | w, d :: ds, h => by
    obtain ⟨a, b, _, h2, h3⟩ := h.head
    have := h2.len
    rw [List.length_cons]
    omega
section
variable {X : Cx}
/-- x[lo:hi] of a tracked list, the heap named -/
def rSlXM : V → Option Int → Option Int → Hp → VK → Prop := fun x lo hi H Q => ∃ a xs, x = .ref a ∧ H a = some (.lst xs) ∧ ∀ t H', Same H H' → H t = none → H' t = some (.lst (cutV xs lo hi)) → Q (.ref t) H'
theorem sl_listM : SlR X rSlXM := by
  intro pins s σ H x v vl vu lo hi sl Q I rx hs pl pu h
  obtain ⟨a, xs, rfl, hx, q⟩ := h
  exact sl_listX pins s σ H _ v vl vu lo hi sl Q I rx hs pl pu ⟨a, xs, rfl, hx, fun p hp => q p _ (same_new hp _) hp upd_same⟩
theorem sl_anyM : SlR X (fun x lo hi H Q => rSlX x lo hi H Q ∨ rSlXM x lo hi H Q ∨ rSlS x lo hi H Q) := sl_tupX.or (sl_listM.or sl_str)
def rRvM : V → Hp → VK → Prop := fun x H Q => ∃ a xs, x = .ref a ∧ ((H a = some (.tup xs) ∧ ∀ t H', Same H H' → H t = none → H' t = some (.tup xs.reverse) → Q (.ref t) H') ∨ (H a = some (.lst xs) ∧ ∀ t H', Same H H' → H t = none → H' t = some (.lst xs.reverse) → Q (.ref t) H'))
theorem rv_anyM : RvR X rRvM := by
  intro pins s σ H x v t sl Q I rx hs h
  obtain ⟨a, xs, rfl, ⟨hx, q⟩ | ⟨hx, q⟩⟩ := h
  · exact rv_tup pins s σ H _ v t sl Q I rx hs ⟨a, xs, rfl, hx, fun p hp => q p _ (same_new hp _) hp upd_same⟩
  · exact rv_list pins s σ H _ v t sl Q I rx hs ⟨a, xs, rfl, hx, fun p hp => q p _ (same_new hp _) hp upd_same⟩
def rListM : List V → Hp → VK → Prop := fun xs H Q => ∃ p ys, xs = [.ref p] ∧ (H p = some (.lst ys) ∨ H p = some (.tup ys)) ∧ ∀ l H', Same H H' → H l = none → H' l = some (.lst ys) → Q (.ref l) H'
theorem call_listM : CallR X (.type "list") rListM := by
  intro pins s σ H xs us Q I r h
  obtain ⟨p, ys, rfl, e, q⟩ := h
  exact call_list_of pins s σ H _ us Q I r ⟨p, ys, rfl, e.imp sqL sqT, fun l hl => q l _ (same_new hl _) hl upd_same⟩
def rTupleM : List V → Hp → VK → Prop := fun xs H Q => ∃ p ys, xs = [.ref p] ∧ H p = some (.lst ys) ∧ ∀ l H', Same H H' → H l = none → H' l = some (.tup ys) → Q (.ref l) H'
theorem call_tupleM : CallR X (.type "tuple") rTupleM := by
  intro pins s σ H xs us Q I r h
  obtain ⟨p, ys, rfl, e, q⟩ := h
  exact call_tuple_of pins s σ H _ us Q I r ⟨p, ys, rfl, .inl ⟨sqL e, fun l hl => q l _ (same_new hl _) hl upd_same⟩⟩
end
theorem Pen.some {H : Hp} {p c : Addr} {N : Nat} (h : Pen H p c N) : H p ≠ none := by
  obtain ⟨_, z⟩ := h.atp
  rw [z]
  exact fun y => by cases y
theorem PSs.of {X : Cx} {l l' : List Stmt} {t : TS} (e : l = l') (h : PSs X l' t) : PSs X l t := e ▸ h
end Gg

namespace Gg
open PySem PySem.Spec PyProof.Rows L2
inductive D where
  | non | bl (b : Bool) | int (i : Int) | str (x : Str) | ty (n : String) | pen | tup (xs : List D) | lst (xs : List D) | emp | obj (C : Addr) (ns : List Str) (xs : List D)
def isDat : HO → Prop
  | .lst _ => True
  | .dK kvs => kvs = []
  | .ins _ _ _ => True
  | _ => False
mutual
/-- v stands for d in H; p: the pen; B: addresses at which no list, dict, instance of it stands -/
inductive Rp (p : Addr) (H : Hp) (B : List Addr) : V → D → Prop
  | non : Rp p H B .non .non
  | bl (b : Bool) : Rp p H B (.bl b) (.bl b)
  | int (i : Int) : Rp p H B (.int i) (.int i)
  | str (x : Str) : Rp p H B (.str x) (.str x)
  | ty (n : String) : Rp p H B (.ty n) (.ty n)
  | pen : Rp p H B (.ref p) .pen
  | tup {a : Addr} {xs : List V} {ds : List D} : H a = some (.tup xs) → RpAll p H B xs ds → Rp p H B (.ref a) (.tup ds)
  | lst {a : Addr} {xs : List V} {ds : List D} : H a = some (.lst xs) → a ∉ B → RpAll p H B xs ds → Rp p H B (.ref a) (.lst ds)
  | emp {a : Addr} : H a = some (.dK []) → a ∉ B → Rp p H B (.ref a) .emp
  | obj {a C dx : Addr} {fs : List (Str × V)} {ns : List Str} {ds : List D} : H a = some (.ins C dx fs) → a ∉ B → fs.map (·.1) = ns → RpAll p H B (fs.map (·.2)) ds → Rp p H B (.ref a) (.obj C ns ds)
inductive RpAll (p : Addr) (H : Hp) (B : List Addr) : List V → List D → Prop
  | nil : RpAll p H B [] []
  | cons {v : V} {vs : List V} {d : D} {ds : List D} : Rp p H B v d → RpAll p H B vs ds → RpAll p H B (v :: vs) (d :: ds)
end
structure Kx (B B' : List Addr) (H H' : Hp) : Prop where
  kb : ∀ a o, H a = some o → a ∉ B → isDat o → H' a = some o ∧ a ∉ B'
  kt : ∀ a xs, H a = some (.tup xs) → H' a = some (.tup xs)
section
variable {p : Addr} {H H' : Hp} {B B' : List Addr}
mutual
theorem Rp.keep (k : Kx B B' H H') : ∀ (d : D) (v : V), Rp p H B v d → Rp p H' B' v d
  | .non, _, h => by cases h; exact .non
  | .bl _, _, h => by cases h; exact .bl _
  | .int _, _, h => by cases h; exact .int _
  | .str _, _, h => by cases h; exact .str _
  | .ty _, _, h => by cases h; exact .ty _
  | .pen, _, h => by cases h; exact .pen
  | .tup ds, _, h => by
    cases h with
    | tup e ha => exact .tup (k.kt _ _ e) (RpAll.keep k ds _ ha)
  | .lst ds, _, h => by
    cases h with
    | lst e n ha => exact .lst (k.kb _ _ e n trivial).1 (k.kb _ _ e n trivial).2 (RpAll.keep k ds _ ha)
  | .emp, _, h => by
    cases h with
    | emp e n => exact .emp (k.kb _ _ e n rfl).1 (k.kb _ _ e n rfl).2
  | .obj C ns ds, _, h => by
    cases h with
    | obj e n f ha => exact .obj (k.kb _ _ e n trivial).1 (k.kb _ _ e n trivial).2 f (RpAll.keep k ds _ ha)
theorem RpAll.keep (k : Kx B B' H H') : ∀ (ds : List D) (vs : List V), RpAll p H B vs ds → RpAll p H' B' vs ds
  | [], _, h => by cases h; exact .nil
  | d :: ds, _, h => by
    cases h with
    | cons h1 h2 => exact .cons (Rp.keep k d _ h1) (RpAll.keep k ds _ h2)
end
end
theorem Kx.same {B : List Addr} {H H' : Hp} (s : Same H H') : Kx B B H H' := ⟨fun a o e n _ => ⟨s _ _ e, n⟩, fun a xs e => s _ _ e⟩
theorem Kx.kp {B : List Addr} {H H' : Hp} {p c : Addr} {n : Nat} (k : Kp p H H') (pn : Pen H p c n) : Kx B B H H' := by
  have np : ∀ a o, H a = some o → isDat o → a ≠ p := fun a o e d z => by
    obtain ⟨cells, turn, rest, h, _⟩ := pn
    rw [z, h] at e
    cases e
    exact absurd (show penL c turn rest = [] from d) (by simp [penL])
  refine ⟨fun a o e nb d => ⟨k _ _ (np a o e d) e, nb⟩, fun a xs e => k.tup pn e⟩
theorem Kx.less {B B' : List Addr} {H : Hp} (h : ∀ b, b ∈ B' → b ∈ B) : Kx B B' H H := ⟨fun a o e n _ => ⟨e, fun z => n (h a z)⟩, fun a xs e => e⟩
theorem Kx.new {B : List Addr} {H : Hp} {l : Addr} (n : H l = none) : Kx B (l :: B) H H := ⟨fun a o e nb _ => ⟨e, fun z => (List.mem_cons.mp z).elim (ne_of_none e n) nb⟩, fun a xs e => e⟩
theorem Kx.put {B : List Addr} {H : Hp} {l : Addr} {xs : List V} {o : HO} (e : H l = some (.lst xs)) (m : l ∈ B) : Kx B B H (upd H l o) :=
  ⟨fun a u h nb _ => ⟨by rw [upd_ne (show a ≠ l from fun z => nb (by rw [z]; exact m))]; exact h, nb⟩, fun a ys h => by rw [upd_ne (show a ≠ l from fun z => by rw [z, e] at h; cases h)]; exact h⟩
section
variable {p c : Addr} {H H' : Hp} {B B' : List Addr} {v : V} {d : D} {vs : List V} {ds : List D} {n : Nat}
theorem Rp.kx (h : Rp p H B v d) (k : Kx B B' H H') : Rp p H' B' v d := Rp.keep k d v h
theorem RpAll.kx (h : RpAll p H B vs ds) (k : Kx B B' H H') : RpAll p H' B' vs ds := RpAll.keep k ds vs h
theorem RpAll.len : ∀ {vs : List V} {ds : List D}, RpAll p H B vs ds → vs.length = ds.length
  | _, _, .nil => rfl
  | _, _, .cons _ h => by rw [List.length_cons, List.length_cons, RpAll.len h]
theorem RpAll.app : ∀ {vs : List V} {ds : List D} {ws : List V} {es : List D}, RpAll p H B vs ds → RpAll p H B ws es → RpAll p H B (vs ++ ws) (ds ++ es)
  | _, _, _, _, .nil, k => k
  | _, _, _, _, .cons h1 h2, k => .cons h1 (RpAll.app h2 k)
theorem RpAll.take : ∀ {vs : List V} {ds : List D} (n : Nat), RpAll p H B vs ds → RpAll p H B (vs.take n) (ds.take n)
  | _, _, 0, _ => .nil
  | _, _, _ + 1, .nil => .nil
  | _, _, n + 1, .cons h1 h2 => .cons h1 (RpAll.take n h2)
theorem RpAll.drop : ∀ {vs : List V} {ds : List D} (n : Nat), RpAll p H B vs ds → RpAll p H B (vs.drop n) (ds.drop n)
  | _, _, 0, h => h
  | _, _, _ + 1, .nil => .nil
  | _, _, n + 1, .cons _ h => RpAll.drop n h
theorem RpAll.rev : ∀ {vs : List V} {ds : List D}, RpAll p H B vs ds → RpAll p H B vs.reverse ds.reverse
  | _, _, .nil => .nil
  | _, _, .cons h1 h2 => by rw [List.reverse_cons, List.reverse_cons]; exact (RpAll.rev h2).app (.cons h1 .nil)
theorem RpAll.at : ∀ {vs : List V} {ds : List D} {i : Nat} {d : D}, RpAll p H B vs ds → ds[i]? = some d → ∃ v, vs[i]? = some v ∧ Rp p H B v d
  | _, _, _, _, .nil, e => by simp at e
  | _, _, 0, _, .cons h _, e => by simp at e; subst e; exact ⟨_, rfl, h⟩
  | _, _, i + 1, d, .cons _ h, e => by
    obtain ⟨v, h1, h2⟩ := RpAll.at (i := i) (d := d) h (by simpa using e)
    exact ⟨v, by simpa using h1, h2⟩
theorem RpAll.rep : ∀ {vs : List V} {ds : List D} (k : Nat), RpAll p H B vs ds → RpAll p H B (List.replicate k vs).flatten (List.replicate k ds).flatten
  | _, _, 0, _ => .nil
  | _, _, k + 1, h => by rw [List.replicate_succ, List.replicate_succ, List.flatten_cons, List.flatten_cons]; exact h.app (RpAll.rep k h)
theorem RpAll.set : ∀ {vs : List V} {ds : List D} (i : Nat) {v : V} {d : D}, Rp p H B v d → RpAll p H B vs ds → RpAll p H B (vs.set i v) (ds.set i d)
  | _, _, _, _, _, _, .nil => .nil
  | _, _, 0, _, _, h, .cons _ k => .cons h k
  | _, _, i + 1, _, _, h, .cons k1 k2 => .cons k1 (RpAll.set i h k2)
end
/-- a cut -/
def cutL {α : Type} (xs : List α) (lo hi : Option Int) : List α := (xs.drop (HT.sIx xs.length 0 lo)).take (HT.sIx xs.length xs.length hi - HT.sIx xs.length 0 lo)
theorem RpAll.cut {p : Addr} {H : Hp} {B : List Addr} {vs : List V} {ds : List D} (h : RpAll p H B vs ds) (lo hi : Option Int) : RpAll p H B (cutV vs lo hi) (cutL ds lo hi) := by
  unfold cutV cutL
  rw [h.len]
  exact (h.drop _).take _

inductive Sl where
  | no | val (d : D) | own (xs : List D)
structure Gx where
  p : Addr
  c : Addr
  B : List Addr
  H0 : Hp
def SlOk (p : Addr) (H : Hp) (O B : List Addr) (o : Option V) : Sl → Prop
  | .no => True
  | .val d => ∃ v, o = some v ∧ Rp p H (O ++ B) v d
  | .own xs => ∃ a vs, o = some (.ref a) ∧ a ∈ O ∧ H a = some (.lst vs) ∧ RpAll p H (O ++ B) vs xs
structure RS (G : Gx) (O : List Addr) (H : Hp) (σ : L2.St) (ρ : List Sl) (n : Nat) : Prop where
  pen : Pen H G.p G.c n
  kp : Kp G.p G.H0 H
  old : Old G.H0 G.B
  new : ∀ a, a ∈ O → G.H0 a = none ∧ H a ≠ none ∧ a ≠ G.p ∧ a ≠ G.c
  sl : ∀ (i : Nat) (s : Sl), ρ[i]? = some s → ∃ o, σ[i]? = some o ∧ SlOk G.p H O G.B o s
  dis : ∀ (i j : Nat) (a : Addr) (xs ys : List D), ρ[i]? = some (.own xs) → ρ[j]? = some (.own ys) → σ[i]? = some (some (.ref a)) → σ[j]? = some (some (.ref a)) → i = j
  len : ρ.length = σ.length
theorem Kp.none {p : Addr} {H H' : Hp} (k : Kp p H H') (h : H' p ≠ none) {a : Addr} (e : H' a = none) : H a = none := by
  by_cases z : a = p
  · subst z; exact absurd e h
  · exact none_of k z e
theorem SlOk.kx {p : Addr} {H H' : Hp} {O O' B : List Addr} {o : Option V} {s : Sl} (h : SlOk p H O B o s) (k : Kx (O ++ B) (O' ++ B) H H') (ko : ∀ a vs, a ∈ O → H a = some (.lst vs) → H' a = some (.lst vs)) (kO : ∀ a, a ∈ O → a ∈ O') : SlOk p H' O' B o s := by
  cases s with
  | no => trivial
  | val d => obtain ⟨v, e, r⟩ := h; exact ⟨v, e, r.kx k⟩
  | own xs => obtain ⟨a, vs, e, m, r, ra⟩ := h; exact ⟨a, vs, e, kO a m, ko a vs m r, ra.kx k⟩
section
variable {G : Gx} {O : List Addr} {H H' : Hp} {σ : L2.St} {ρ : List Sl} {n n' : Nat}
theorem RS.step (h : RS G O H σ ρ n) (k : Kp G.p H H') (pn : Pen H' G.p G.c n') : RS G O H' σ ρ n' := by
  refine ⟨pn, h.kp.trans k, h.old, fun a m => ?_, fun i s e => ?_, h.dis, h.len⟩
  · obtain ⟨h1, h2, h3, h4⟩ := h.new a m
    refine ⟨h1, fun z => h2 ?_, h3, h4⟩
    cases e : H a with
    | none => rfl
    | some o => rw [k a o h3 e] at z; cases z
  · obtain ⟨o, e1, e2⟩ := h.sl i s e
    exact ⟨o, e1, e2.kx (Kx.kp k h.pen) (fun a vs m z => k.lst h.pen z) fun _ m => m⟩
theorem RS.same (h : RS G O H σ ρ n) (k : Same H H') : RS G O H' σ ρ n := h.step (Kp.of_same k) (h.pen.keep k)
/-- nothing of O, B is new -/
theorem RS.all (h : RS G O H σ ρ n) : Old H (O ++ G.B) := fun b m => by
  rcases List.mem_append.mp m with m | m
  · exact (h.new b m).2.1
  · exact h.old.kp h.kp h.pen.some b m
theorem RS.notB (h : RS G O H σ ρ n) {a : Addr} (m : a ∈ O) : a ∉ G.B := fun z => h.old a z (h.new a m).1
/-- less is owned -/
theorem RS.fresh0 (h : RS G O H σ ρ n) {a : Addr} (e : H a = none) : G.H0 a = none := h.kp.none h.pen.some e
end
/-- a clean value; one that may be an own list; a new list -/
abbrev Rc (G : Gx) (O : List Addr) (H : Hp) (v : V) (d : D) : Prop := Rp G.p H (O ++ G.B) v d
def Rv (G : Gx) (O : List Addr) (H : Hp) (v : V) (d : D) : Prop := Rc G O H v d ∨ ∃ a vs xs, v = .ref a ∧ d = .lst xs ∧ a ∈ O ∧ H a = some (.lst vs) ∧ RpAll G.p H (O ++ G.B) vs xs
def Rf (G : Gx) (O : List Addr) (H0 H : Hp) (v : V) (d : D) : Prop := ∃ a vs xs, v = .ref a ∧ d = .lst xs ∧ H0 a = none ∧ H a = some (.lst vs) ∧ RpAll G.p H (a :: (O ++ G.B)) vs xs
section
variable {G : Gx} {O : List Addr} {H H' H1 : Hp} {v : V} {d : D} {n : Nat}
theorem Rv.lst {xs : List D} (h : Rv G O H v (.lst xs)) : ∃ a vs, v = .ref a ∧ H a = some (.lst vs) ∧ RpAll G.p H (O ++ G.B) vs xs := by
  rcases h with h | ⟨a, vs, ys, e1, e2, _, e3, e4⟩
  · cases h with
    | lst e nb ha => exact ⟨_, _, rfl, e, ha⟩
  · cases e2; exact ⟨a, vs, e1, e3, e4⟩
theorem Rv.kp (h : Rv G O H v d) (k : Kp G.p H H') (pn : Pen H G.p G.c n) : Rv G O H' v d := by
  rcases h with h | ⟨a, vs, ys, e1, e2, m, e3, e4⟩
  · exact .inl (h.kx (Kx.kp k pn))
  · exact .inr ⟨a, vs, ys, e1, e2, m, k.lst pn e3, e4.kx (Kx.kp k pn)⟩
theorem Rf.clean (h : Rf G O H1 H v d) (od : Old H1 (O ++ G.B)) : Rc G O H v d := by
  obtain ⟨a, vs, xs, rfl, rfl, e1, e2, e3⟩ := h
  exact .lst e2 (od.not e1) (e3.kx (Kx.less fun b m => List.mem_cons_of_mem _ m))
end

abbrev DE := List Sl → Nat → (D → Nat → Prop) → Prop
abbrev DT := List Sl → Nat → (Bool → Nat → Prop) → Prop
abbrev DA := List Sl → Nat → (List D → Nat → Prop) → Prop
structure DEnds where
  nx : List Sl → Nat → Prop
  rt : D → Nat → Prop
  bk : List Sl → Nat → Prop
  ct : List Sl → Nat → Prop
abbrev DSt := DEnds → List Sl → Nat → Prop
def LEr (G : Gx) (Rr : List Addr → Hp → Hp → V → D → Prop) (t : DE) : TE := fun σ H Q => ∃ O ρ n R, RS G O H σ ρ n ∧ t ρ n R ∧ ∀ d n' v H', R d n' → Kp G.p H H' → Pen H' G.p G.c n' → Rr O H H' v d → Q v H'
abbrev LE (G : Gx) (t : DE) : TE := LEr G (fun O _ H' v d => Rc G O H' v d) t
abbrev LEs (G : Gx) (t : DE) : TE := LEr G (fun O _ H' v d => Rv G O H' v d) t
abbrev LEf (G : Gx) (t : DE) : TE := LEr G (fun O H H' v d => Rf G O H H' v d) t
def LT (G : Gx) (t : DT) : TT := fun σ H Q => ∃ O ρ n R, RS G O H σ ρ n ∧ t ρ n R ∧ ∀ b n' H', R b n' → Kp G.p H H' → Pen H' G.p G.c n' → Q b H'
def LA (G : Gx) (t : DA) : TA := fun σ H Q => ∃ O ρ n R, RS G O H σ ρ n ∧ t ρ n R ∧ ∀ ds n' vs H', R ds n' → Kp G.p H H' → Pen H' G.p G.c n' → RpAll G.p H' (O ++ G.B) vs ds → Q vs H'
/-- what is clean stays clean -/
def Fr (G : Gx) (O : List Addr) (H : Hp) (O' : List Addr) (H' : Hp) : Prop := ∀ v d, Rp G.p H (O ++ G.B) v d → Rp G.p H' (O' ++ G.B) v d
structure LEnds (G : Gx) (O : List Addr) (H : Hp) (E : DEnds) (D : Ends) : Prop where
  nx : ∀ O' σ' H' ρ n, RS G O' H' σ' ρ n → Fr G O H O' H' → E.nx ρ n → D.nx σ' H'
  rt : ∀ d n v H', Kp G.p G.H0 H' → Pen H' G.p G.c n → Rp G.p H' G.B v d → E.rt d n → D.rt v H'
  bk : ∀ O' σ' H' ρ n, RS G O' H' σ' ρ n → Fr G O H O' H' → E.bk ρ n → D.bk σ' H'
  ct : ∀ O' σ' H' ρ n, RS G O' H' σ' ρ n → Fr G O H O' H' → E.ct ρ n → D.ct σ' H'
def LS (G : Gx) (t : DSt) : TS := fun D σ H => ∃ O ρ n E, RS G O H σ ρ n ∧ t E ρ n ∧ LEnds G O H E D
theorem Fr.refl {G : Gx} {O : List Addr} {H : Hp} : Fr G O H O H := fun _ _ h => h
theorem Fr.trans {G : Gx} {O O1 O2 : List Addr} {H H1 H2 : Hp} (a : Fr G O H O1 H1) (b : Fr G O1 H1 O2 H2) : Fr G O H O2 H2 := fun v d h => b v d (a v d h)
theorem Fr.kx {G : Gx} {O O1 : List Addr} {H H1 : Hp} (k : Kx (O ++ G.B) (O1 ++ G.B) H H1) : Fr G O H O1 H1 := fun v d h => h.kx k
theorem Fr.all {G : Gx} {O O1 : List Addr} {H H1 : Hp} (f : Fr G O H O1 H1) : ∀ {vs : List V} {ds : List D}, RpAll G.p H (O ++ G.B) vs ds → RpAll G.p H1 (O1 ++ G.B) vs ds
  | _, _, .nil => .nil
  | _, _, .cons h1 h2 => .cons (f _ _ h1) (Fr.all f h2)
theorem LEnds.from {G : Gx} {O O1 : List Addr} {H H1 : Hp} {E : DEnds} {D : Ends} (h : LEnds G O H E D) (f : Fr G O H O1 H1) : LEnds G O1 H1 E D :=
  ⟨fun O' σ' H' ρ n a b c => h.nx O' σ' H' ρ n a (f.trans b) c, h.rt, fun O' σ' H' ρ n a b c => h.bk O' σ' H' ρ n a (f.trans b) c, fun O' σ' H' ρ n a b c => h.ct O' σ' H' ρ n a (f.trans b) c⟩
section
variable {X : Cx} {G : Gx} {e : Expr} {t : DE}
theorem PE.of {t t' : TE} (h : PE X e t) (k : ∀ σ H Q, t' σ H Q → t σ H Q) : PE X e t' := fun pins s σ H Q I q => h pins s σ H Q I (k σ H Q q)
theorem LE.s (h : PE X e (LE G t)) : PE X e (LEs G t) := PE.of h fun σ H Q ⟨O, ρ, n, R, a, b, c⟩ => ⟨O, ρ, n, R, a, b, fun d n' v H' r k p q => c d n' v H' r k p (.inl q)⟩
theorem LE.f (h : PE X e (LEf G t)) : PE X e (LE G t) := PE.of h fun σ H Q ⟨O, ρ, n, R, a, b, c⟩ => ⟨O, ρ, n, R, a, b, fun d n' v H' r k p q => c d n' v H' r k p (q.clean a.all)⟩
end
def dVar (i : Nat) : DE := fun ρ n R => match ρ[i]? with
  | some (.val d) => R d n
  | some (.own xs) => R (.lst xs) n
  | _ => False
def dVarC (i : Nat) : DE := fun ρ n R => match ρ[i]? with
  | some (.val d) => R d n
  | _ => False
def dC (d : D) : DE := fun _ n R => R d n
section
variable {X : Cx} {G : Gx} {i : Nat} {x : Str} {pos : Pos}
theorem de_var (h : PE X (.Name x pos) (tVar i)) : PE X (.Name x pos) (LEs G (dVar i)) := PE.of h fun σ H Q ⟨O, ρ, n, R, a, b, c⟩ => by
  unfold dVar at b
  split at b
  · next d e =>
    obtain ⟨o, e1, v, e2, r⟩ := a.sl i _ e
    subst e2
    exact ⟨v, e1, c _ _ _ _ b Kp.refl a.pen (.inl r)⟩
  · next xs e =>
    obtain ⟨o, e1, v, vs, e2, m, r, ra⟩ := a.sl i _ e
    subst e2
    exact ⟨_, e1, c _ _ _ _ b Kp.refl a.pen (.inr ⟨v, vs, xs, rfl, rfl, m, r, ra⟩)⟩
  · cases b
theorem de_varC (h : PE X (.Name x pos) (tVar i)) : PE X (.Name x pos) (LE G (dVarC i)) := PE.of h fun σ H Q ⟨O, ρ, n, R, a, b, c⟩ => by
  unfold dVarC at b
  split at b
  · next d e =>
    obtain ⟨o, e1, v, e2, r⟩ := a.sl i _ e
    subst e2
    exact ⟨v, e1, c _ _ _ _ b Kp.refl a.pen r⟩
  · cases b
theorem de_con {e : Expr} {v : V} {d : D} (h : PE X e (tC v)) (r : ∀ p H B, Rp p H B v d) : PE X e (LE G (dC d)) := PE.of h fun σ H Q ⟨O, ρ, n, R, a, b, c⟩ => c _ _ _ _ b Kp.refl a.pen (r _ _ _)
end
end Gg

namespace Gg
open PySem PySem.Spec PyProof.Rows L2
abbrev Op2 := D → D → (D → Prop) → Prop
def rD (G : Gx) (g : Op2) : R2 := fun x y H Q => ∃ O dx dy R, Old H (O ++ G.B) ∧ Rv G O H x dx ∧ Rv G O H y dy ∧ g dx dy R ∧ ∀ d v H', R d → Same H H' → Rc G O H' v d → Q v H'
def dOp (g : Op2) (ta tb : DE) : DE := fun ρ n R => ta ρ n fun x n1 => tb ρ n1 fun y n2 => g x y fun d => R d n2
def dTest (t : DE) : DT := fun ρ n R => t ρ n fun d n' => match d with
  | .bl b => R b n'
  | _ => False
section
variable {X : Cx} {G : Gx} {a b c : Expr} {ta tb tc : DE} {pos : Pos} {g g' : Op2}
theorem op_lift {σ : L2.St} {H : Hp} {Q : VK} (h : LE G (dOp g ta tb) σ H Q) : tOp (rD G g) (LEs G ta) (LEs G tb) σ H Q := by
  obtain ⟨O, ρ, n, R, a, b, c⟩ := h
  exact ⟨O, ρ, n, _, a, b, fun dx n1 x H1 b1 k1 p1 r1 => ⟨O, ρ, n1, _, a.step k1 p1, b1, fun dy n2 y H2 b2 k2 p2 r2 => ⟨O, dx, dy, _, (a.step (k1.trans k2) p2).all, r1.kp k2 p1, r2, b2, fun d v H' r s rc => c d n2 v H' r ((k1.trans k2).trans (Kp.of_same s)) (p2.keep s) rc⟩⟩⟩
theorem de_op {op : Operator} (ho : OpR X (binaryOp op) (rD G g)) (ha : PE X a (LEs G ta)) (hb : PE X b (LEs G tb)) : PE X (.BinOp a op b pos) (LE G (dOp g ta tb)) := PE.of (pe_op ho ha hb) fun _ _ _ h => op_lift h
theorem de_cmp {op : CmpOp} (ho : OpR X (compareOp op) (rD G g)) (ha : PE X a (LEs G ta)) (hb : PE X b (LEs G tb)) (hm : behindInMarks op b = false) : PE X (.Compare a [op] [b] pos) (LE G (dOp g ta tb)) := PE.of (pe_cmpR ho ha hb hm) fun _ _ _ h => op_lift h
theorem PT.of {e : Expr} {t t' : TT} (h : PT X e t) (k : ∀ σ H Q, t' σ H Q → t σ H Q) : PT X e t' := fun pins s σ H Q I q => h pins s σ H Q I (k σ H Q q)
theorem test_lift {t : DE} {te : TE} {σ : L2.St} {H : Hp} {Q : Bool → Hp → Prop} (k : ∀ Q, LE G t σ H Q → te σ H Q) (h : LT G (dTest t) σ H Q) : te σ H fun x H1 => ∃ k, x = .bl k ∧ Q k H1 := by
  obtain ⟨O, ρ, n, R, a, b, c⟩ := h
  refine k _ ⟨O, ρ, n, _, a, b, fun d n' v H' r k p rc => ?_⟩
  split at r
  · cases rc; exact ⟨_, rfl, c _ _ _ r k p⟩
  · cases r
theorem dt_cmp {op : CmpOp} (ho : OpR X (compareOp op) (rD G g)) (ha : PE X a (LEs G ta)) (hb : PE X b (LEs G tb)) (hm : behindInMarks op b = false) : PT X (.Compare a [op] [b] pos) (LT G (dTest (dOp g ta tb))) :=
  PT.of (pt_cmpR ho ha hb hm) fun _ _ _ h => test_lift (te := tOp _ _ _) (fun _ h => op_lift h) h
/-- a < b < c -/
def dChain (g g' : Op2) (ta tb tc : DE) : DE := fun ρ n R => ta ρ n fun x n1 => tb ρ n1 fun y n2 => g x y fun d => match d with
  | .bl k => if k = true then tc ρ n2 fun z n3 => g' y z fun d' => R d' n3 else R (.bl false) n2
  | _ => False
theorem chain_lift {σ : L2.St} {H : Hp} {Q : VK} (h : LE G (dChain g g' ta tb tc) σ H Q) : tChain (rD G g) (rD G g') (LEs G ta) (LEs G tb) (LEs G tc) σ H Q := by
  obtain ⟨O, ρ, n, R, a, b, c⟩ := h
  refine ⟨O, ρ, n, _, a, b, fun dx n1 x H1 b1 k1 p1 r1 => ⟨O, ρ, n1, _, a.step k1 p1, b1, fun dy n2 y H2 b2 k2 p2 r2 => ⟨O, dx, dy, _, (a.step (k1.trans k2) p2).all, r1.kp k2 p1, r2, b2, fun d v H' r s rc => ?_⟩⟩⟩
  have p3 := p2.keep s
  have k3 : Kp G.p H H' := (k1.trans k2).trans (Kp.of_same s)
  split at r
  · next k =>
    cases rc
    refine ⟨k, rfl, ?_⟩
    cases k with
    | false => simp only [Bool.false_eq_true, if_false] at r ⊢; exact c _ _ _ _ r k3 p3 (.bl _)
    | true =>
      simp only [if_true] at r ⊢
      exact ⟨O, ρ, n2, _, a.step k3 p3, r, fun dz n4 z H4 b4 k4 p4 r4 => ⟨O, dy, dz, _, (a.step (k3.trans k4) p4).all, (r2.kp (Kp.of_same s) p2).kp k4 p3, r4, b4, fun d v H5 r s5 rc => c d n4 v H5 r ((k3.trans k4).trans (Kp.of_same s5)) (p4.keep s5) rc⟩⟩
  · cases r
theorem de_chain {op op' : CmpOp} (ho : OpR X (compareOp op) (rD G g)) (ho' : OpR X (compareOp op') (rD G g')) (ha : PE X a (LEs G ta)) (hb : PE X b (LEs G tb)) (hc : PE X c (LEs G tc)) (hm : lastMarks [op, op'] [b, c] = false := by with_unfolding_all rfl) :
    PE X (.Compare a [op, op'] [b, c] pos) (LE G (dChain g g' ta tb tc)) := PE.of (pe_chain ho ho' ha hb hc hm) fun _ _ _ h => chain_lift h
def dAndT (t u : DT) : DT := fun ρ n R => t ρ n fun c n1 => if c = true then u ρ n1 R else R false n1
def dOrT (t u : DT) : DT := fun ρ n R => t ρ n fun c n1 => if c = true then R true n1 else u ρ n1 R
def dNotT (t : DT) : DT := fun ρ n R => t ρ n fun c n1 => R (!c) n1
variable {tA tB : DT} {rest : List Expr}
theorem PW.of {e : Expr} {t t' : TT} (h : PW X e t) (k : ∀ σ H Q, t' σ H Q → t σ H Q) : PW X e t' := fun wh pins s σ H Q I q => h wh pins s σ H Q I (k σ H Q q)
theorem dw_and (ha : PT X a (LT G tA)) (hb : PW X (.BoolOp .And (b :: rest) pos) (LT G tB)) : PW X (.BoolOp .And (a :: b :: rest) pos) (LT G (dAndT tA tB)) := PW.of (pw_and ha hb) fun σ H Q ⟨O, ρ, n, R, a, b, c⟩ => by
  refine ⟨O, ρ, n, _, a, b, fun d n1 H1 b1 k1 p1 => ?_⟩
  cases d with
  | false => simp only [Bool.false_eq_true, if_false] at b1 ⊢; exact c _ _ _ b1 k1 p1
  | true => simp only [if_true] at b1 ⊢; exact ⟨O, ρ, n1, _, a.step k1 p1, b1, fun d2 n2 H2 b2 k2 p2 => c _ _ _ b2 (k1.trans k2) p2⟩
theorem dw_or (ha : PT X a (LT G tA)) (hb : PW X (.BoolOp .Or (b :: rest) pos) (LT G tB)) : PW X (.BoolOp .Or (a :: b :: rest) pos) (LT G (dOrT tA tB)) := PW.of (pw_or ha hb) fun σ H Q ⟨O, ρ, n, R, a, b, c⟩ => by
  refine ⟨O, ρ, n, _, a, b, fun d n1 H1 b1 k1 p1 => ?_⟩
  cases d with
  | true => simp only [if_true] at b1 ⊢; exact c _ _ _ b1 k1 p1
  | false => simp only [Bool.false_eq_true, if_false] at b1 ⊢; exact ⟨O, ρ, n1, _, a.step k1 p1, b1, fun d2 n2 H2 b2 k2 p2 => c _ _ _ b2 (k1.trans k2) p2⟩
theorem dt_not (ha : PT X a (LT G tA)) : PT X (.UnaryOp .Not a pos) (LT G (dNotT tA)) := PT.of (pt_not ha) fun σ H Q ⟨O, ρ, n, R, a, b, c⟩ => ⟨O, ρ, n, _, a, b, fun d n1 H1 b1 k1 p1 => c _ _ _ b1 k1 p1⟩
def dAndV (t u : DE) : DE := fun ρ n R => t ρ n fun d n1 => match d with
  | .bl c => if c = true then u ρ n1 R else R (.bl false) n1
  | _ => False
def dOrV (t u : DE) : DE := fun ρ n R => t ρ n fun d n1 => match d with
  | .bl c => if c = true then R (.bl true) n1 else u ρ n1 R
  | _ => False
def dNotV (t : DE) : DE := fun ρ n R => t ρ n fun d n1 => match d with
  | .bl c => R (.bl (!c)) n1
  | _ => False
theorem de_one {op : BoolOp} (h : PE X a (LE G ta)) : PE X (.BoolOp op [a] pos) (LE G ta) := pe_one h
theorem de_and (ha : PE X a (LE G ta)) (hb : PE X (.BoolOp .And (b :: rest) pos) (LE G tb)) : PE X (.BoolOp .And (a :: b :: rest) pos) (LE G (dAndV ta tb)) := PE.of (pe_and ha hb) fun σ H Q ⟨O, ρ, n, R, a, b, c⟩ => by
  refine ⟨O, ρ, n, _, a, b, fun d n1 v H1 b1 k1 p1 rc => ?_⟩
  split at b1
  · next k =>
    cases rc
    refine ⟨k, rfl, ?_⟩
    cases k with
    | false => simp only [Bool.false_eq_true, if_false] at b1 ⊢; exact c _ _ _ _ b1 k1 p1 (.bl _)
    | true => simp only [if_true] at b1 ⊢; exact ⟨O, ρ, n1, _, a.step k1 p1, b1, fun d2 n2 v2 H2 b2 k2 p2 r2 => c _ _ _ _ b2 (k1.trans k2) p2 r2⟩
  · cases b1
theorem de_not (ha : PE X a (LE G ta)) : PE X (.UnaryOp .Not a pos) (LE G (dNotV ta)) := PE.of (pe_not ha) fun σ H Q ⟨O, ρ, n, R, a, b, c⟩ => by
  refine ⟨O, ρ, n, _, a, b, fun d n1 v H1 b1 k1 p1 rc => ?_⟩
  split at b1
  · next k => cases rc; exact ⟨k, rfl, c _ _ _ _ b1 k1 p1 (.bl _)⟩
  · cases b1
def dIf (t : DT) (u v : DE) : DE := fun ρ n R => t ρ n fun c n1 => if c = true then u ρ n1 R else v ρ n1 R
theorem de_ifG {Rr : List Addr → Hp → Hp → V → D → Prop} (hRr : ∀ O H H1 H' v d, Kp G.p H H1 → H1 G.p ≠ none → Rr O H1 H' v d → Rr O H H' v d) (hc : PT X c (LT G tA)) (ha : PE X a (LEr G Rr ta)) (hb : PE X b (LEr G Rr tb)) : PE X (.IfExp c a b pos) (LEr G Rr (dIf tA ta tb)) := PE.of (pe_ifExp hc ha hb) fun σ H Q ⟨O, ρ, n, R, a, b, c⟩ => by
  refine ⟨O, ρ, n, _, a, b, fun d n1 H1 b1 k1 p1 => ?_⟩
  cases d with
  | true => simp only [if_true] at b1 ⊢; exact ⟨O, ρ, n1, _, a.step k1 p1, b1, fun d2 n2 v2 H2 b2 k2 p2 r2 => c _ _ _ _ b2 (k1.trans k2) p2 (hRr _ _ _ _ _ _ k1 p1.some r2)⟩
  | false => simp only [Bool.false_eq_true, if_false] at b1 ⊢; exact ⟨O, ρ, n1, _, a.step k1 p1, b1, fun d2 n2 v2 H2 b2 k2 p2 r2 => c _ _ _ _ b2 (k1.trans k2) p2 (hRr _ _ _ _ _ _ k1 p1.some r2)⟩
theorem de_if (hc : PT X c (LT G tA)) (ha : PE X a (LE G ta)) (hb : PE X b (LE G tb)) : PE X (.IfExp c a b pos) (LE G (dIf tA ta tb)) := de_ifG (fun _ _ _ _ _ _ _ _ h => h) hc ha hb
end
def addD : Op2
  | .int i, .int j, R => R (.int (i + j))
  | .str x, .str y, R => x.length + y.length ≤ 1000000 ∧ R (.str (x ++ y))
  | .tup xs, .tup ys, R => xs.length + ys.length ≤ 1000000 ∧ R (.tup (xs ++ ys))
  | .lst xs, .lst ys, R => xs.length + ys.length ≤ 1000000 ∧ R (.lst (xs ++ ys))
  | .bl b, .int j, R => R (.int ((if b = true then 1 else 0) + j))
  | .int i, .bl b, R => R (.int (i + (if b = true then 1 else 0)))
  | _, _, _ => False
def intD (f : Int → Int → (D → Prop) → Prop) : Op2
  | .int i, .int j, R => f i j R
  | _, _, _ => False
abbrev subD : Op2 := intD fun i j R => R (.int (i - j))
def mulD : Op2
  | .int i, .int j, R => ((-(2 ^ 64) < i ∧ i < 2 ^ 64) ∨ (-(2 ^ 64) < j ∧ j < 2 ^ 64)) ∧ R (.int (i * j))
  | .tup xs, .int k, R => xs ≠ [] ∧ 1 ≤ k ∧ k ≤ 1000 ∧ xs.length ≤ 1000 ∧ R (.tup (List.replicate k.toNat xs).flatten)
  | .lst xs, .int k, R => 0 ≤ k ∧ k ≤ 1000 ∧ xs.length ≤ 1000 ∧ R (.lst (List.replicate k.toNat xs).flatten)
  | _, _, _ => False
abbrev modD : Op2 := intD fun i j R => 0 < j ∧ R (.int (i % j))
abbrev fdivD : Op2 := intD fun i j R => 0 < j ∧ j < 1073741824 ∧ R (.int (i / j))
abbrev powD : Op2 := intD fun i j R => 0 ≤ j ∧ j ≤ 1000000 ∧ i.natAbs < 2 ^ 64 ∧ R (.int (i ^ j.toNat))
abbrev ltD : Op2 := intD fun i j R => R (.bl (decide (i < j)))
abbrev leD : Op2 := intD fun i j R => R (.bl (decide (i ≤ j)))
abbrev gtD : Op2 := intD fun i j R => R (.bl (decide (j < i)))
abbrev geD : Op2 := intD fun i j R => R (.bl (decide (j ≤ i)))
def isND : Op2
  | .non, .non, R => R (.bl true)
  | .bl _, .non, R => R (.bl false)
  | .int _, .non, R => R (.bl false)
  | .str _, .non, R => R (.bl false)
  | .tup _, .non, R => R (.bl false)
  | .lst _, .non, R => R (.bl false)
  | .emp, .non, R => R (.bl false)
  | .obj _ _ _, .non, R => R (.bl false)
  | _, _, _ => False
def notND : Op2
  | .non, .non, R => R (.bl false)
  | .bl _, .non, R => R (.bl true)
  | .int _, .non, R => R (.bl true)
  | .str _, .non, R => R (.bl true)
  | .tup _, .non, R => R (.bl true)
  | .lst _, .non, R => R (.bl true)
  | .emp, .non, R => R (.bl true)
  | .obj _ _ _, .non, R => R (.bl true)
  | _, _, _ => False
/-- t * k, a new tuple or the same -/
def rRepX : R2 := fun x y H Q => ∃ a xs k, x = .ref a ∧ y = .int k ∧ H a = some (.tup xs) ∧ xs ≠ [] ∧ 1 ≤ k ∧ k ≤ 1000 ∧ xs.length ≤ 1000 ∧ ∀ t H', Same H H' → H' t = some (.tup (List.replicate k.toNat xs).flatten) → Q (.ref t) H'
theorem op_repX {X : Cx} : OpR X (binaryOp .Mult) rRepX := by
  intro pins s σ H x y v u Q I rx ry h
  obtain ⟨a, xs, k, rfl, rfl, ha', hx, h1, h2, h3, q⟩ := h
  have ha : SqT X.K H a xs := sqT ha'
  cases rx
  obtain ⟨t, rfl⟩ := ry
  obtain ⟨its, r, p1, _⟩ := I.tuple ha
  have hlen := r.length
  obtain ⟨⟨cls, dd, data, sl⟩, ho, hc, n, hd⟩ := id p1
  simp only at hc hd
  subst hc hd
  refine wpAny_binaryOp_repeat_ref (T := "tuple") (U := "int") (by decide) ⟨_, ho, rfl⟩ (fun s' => typeIs_int s' k t) nofill_tmul F.fills_int_mul F.slot_int_rmul repeat_tup F.slot_int_index.lookup
    (call_meets F.slot_int_rmul (typeIs_int s k t) F.entry_int_rmul (F.args_int_rmul_2 _ _) (int_rmul_tup k t a its.toArray n dd sl) ⟨ho, rfl, ⟨_, ho, rfl⟩, ?_⟩)
  have hne : 0 < its.length := by
    cases xs with
    | nil => exact absurd rfl hx
    | cons _ _ => rw [← hlen]; exact Nat.succ_pos _
  by_cases k1 : k = 1
  · subst k1
    refine call_meets F.slot_tuple_mul ⟨_, ho, rfl⟩ F.entry_tuple_mul (F.args_tuple_mul_2 _ _) (tmul_one a its.toArray n t dd sl) ⟨ho, ⟨.ref a, H, I, rfl, q a H (fun _ _ z => z) ?_⟩⟩
    have e : (List.replicate (1 : Int).toNat xs).flatten = xs := by simp
    rw [e]; exact ha'
  · have zz : its.length * k.toNat ≤ 1000 * 1000 := Nat.mul_le_mul (by omega) (by omega)
    have e1 : (its.toArray.size : Int) * k = ((its.length * k.toNat : Nat) : Int) := by
      rw [List.size_toArray, Int.natCast_mul, Int.toNat_of_nonneg (by omega)]
    refine call_meets F.slot_tuple_mul ⟨_, ho, rfl⟩ F.entry_tuple_mul (F.args_tuple_mul_2 _ _) (tmul_more a its.toArray n k t dd sl (by omega) (by omega) (by rw [List.size_toArray]; exact hne) (by rw [e1]; omega) ?_) ⟨ho, ?_⟩
    · rw [rep_toArray, List.size_toArray, len_rep, Nat.mul_comm, sizeLine_eq]; omega
    · rw [rep_toArray]
      refine ⟨.ref s.heap.objs.size, _, I.laid (t' := s.toks) (o := .tup (List.replicate k.toNat xs).flatten) (fun b ob q => Heap.get?_push_of_some _ q) (Nat.le_refl _) ?_, rfl, q _ _ (same_new (I.hok.fresh (Nat.le_refl _)) _) upd_same⟩
      exact ⟨by rw [len_rep, Nat.mul_comm, hlen, sizeLine_eq]; omega, _, r.rep k.toNat, IsTup.new _ _⟩
section
variable {X : Cx} {G : Gx} {f : Value → Value → Sem Value}
theorem OpR.of {r r' : R2} (h : OpR X f r) (k : ∀ x y H Q, r' x y H Q → r x y H Q) : OpR X f r' := fun pins s σ H x y v u Q I rx ry q => h pins s σ H x y v u Q I rx ry (k x y H Q q)
theorem Rv.tup {O : List Addr} {H : Hp} {v : V} {xs : List D} (h : Rv G O H v (.tup xs)) : ∃ a vs, v = .ref a ∧ H a = some (.tup vs) ∧ RpAll G.p H (O ++ G.B) vs xs := by
  rcases h with h | ⟨a, vs, ys, e1, e2, _⟩
  · cases h with
    | tup e ha => exact ⟨_, _, rfl, e, ha⟩
  · cases e2
theorem Rv.int {O : List Addr} {H : Hp} {v : V} {i : Int} (h : Rv G O H v (.int i)) : v = .int i := by
  rcases h with h | ⟨a, vs, ys, e1, e2, _⟩
  · cases h; rfl
  · cases e2
theorem Rv.str {O : List Addr} {H : Hp} {v : V} {i : Str} (h : Rv G O H v (.str i)) : v = .str i := by
  rcases h with h | ⟨a, vs, ys, e1, e2, _⟩
  · cases h; rfl
  · cases e2
theorem Rv.bl {O : List Addr} {H : Hp} {v : V} {i : Bool} (h : Rv G O H v (.bl i)) : v = .bl i := by
  rcases h with h | ⟨a, vs, ys, e1, e2, _⟩
  · cases h; rfl
  · cases e2
theorem Rv.non {O : List Addr} {H : Hp} {v : V} (h : Rv G O H v .non) : v = .non := by
  rcases h with h | ⟨a, vs, ys, e1, e2, _⟩
  · cases h; rfl
  · cases e2
theorem op_int {g : Int → Int → (D → Prop) → Prop} {r : R2} (h : OpR X f r) (k : ∀ i j H Q R, g i j R → (∀ d v, R d → (∀ p H B, Rp p H B v d) → Q v H) → r (.int i) (.int j) H Q) : OpR X f (rD G (intD g)) := OpR.of h fun x y H Q ⟨O, dx, dy, R, od, rx, ry, q, z⟩ => by
  unfold intD at q
  split at q
  · cases rx.int; cases ry.int
    exact k _ _ _ _ _ q fun d v r rp => z d v H r (fun _ _ e => e) (rp _ _ _)
  · cases q
theorem op_subD : OpR X (binaryOp .Sub) (rD G subD) := op_int op_sub fun i j H Q R q z => ⟨i, j, rfl, rfl, z _ _ q fun _ _ _ => .int _⟩
theorem op_modD : OpR X (binaryOp .Mod) (rD G modD) := op_int op_mod fun i j H Q R q z => ⟨i, j, rfl, rfl, q.1, z _ _ q.2 fun _ _ _ => .int _⟩
theorem op_fdivD : OpR X (binaryOp .FloorDiv) (rD G fdivD) := op_int op_fdiv fun i j H Q R q z => ⟨i, j, rfl, rfl, ⟨q.1, q.2.1⟩, z _ _ q.2.2 fun _ _ _ => .int _⟩
theorem op_ltD : OpR X (compareOp .Lt) (rD G ltD) := op_int op_lt fun i j H Q R q z => ⟨i, j, rfl, rfl, z _ _ q fun _ _ _ => .bl _⟩
theorem op_leD : OpR X (compareOp .LtE) (rD G leD) := op_int op_le fun i j H Q R q z => ⟨i, j, rfl, rfl, z _ _ q fun _ _ _ => .bl _⟩
theorem op_gtD : OpR X (compareOp .Gt) (rD G gtD) := op_int op_gt fun i j H Q R q z => ⟨i, j, rfl, rfl, z _ _ q fun _ _ _ => .bl _⟩
theorem op_addD : OpR X (binaryOp .Add) (rD G addD) := OpR.of (op_catX.or (op_catLS.or (op_add_str.or (op_addN.or op_add_ib)))) fun x y H Q ⟨O, dx, dy, R, od, rx, ry, q, z⟩ => by
  unfold addD at q
  split at q
  · cases rx.int; cases ry.int
    exact .inr (.inr (.inr (.inl ⟨_, _, rfl, rfl, z _ _ H q (fun _ _ e => e) (.int _)⟩)))
  · cases rx.str; cases ry.str
    exact .inr (.inr (.inl ⟨_, _, rfl, rfl, Nat.le_trans q.1 (by decide), z _ _ H q.2 (fun _ _ e => e) (.str _)⟩))
  · obtain ⟨a, vs, rfl, ea, ra⟩ := rx.tup
    obtain ⟨b, ws, rfl, eb, rb⟩ := ry.tup
    exact .inl ⟨a, b, vs, ws, rfl, rfl, ea, eb, by rw [ra.len, rb.len]; exact Nat.le_trans q.1 (by decide), fun t H' s e => z _ _ H' q.2 s (.tup e ((ra.app rb).kx (Kx.same s)))⟩
  · obtain ⟨a, vs, rfl, ea, ra⟩ := rx.lst
    obtain ⟨b, ws, rfl, eb, rb⟩ := ry.lst
    exact .inr (.inl ⟨a, b, vs, ws, rfl, rfl, ea, eb, by rw [ra.len, rb.len]; exact Nat.le_trans q.1 (by decide), fun t H' s n e => z _ _ H' q.2 s (.lst e (od.not n) ((ra.app rb).kx (Kx.same s)))⟩)
  · cases rx.bl; cases ry.int
    exact .inr (.inr (.inr (.inl ⟨_, _, rfl, rfl, z _ _ H q (fun _ _ e => e) (.int _)⟩)))
  · cases rx.int; cases ry.bl
    refine .inr (.inr (.inr (.inr ⟨_, _, rfl, rfl, ?_⟩)))
    have e : ∀ k : Bool, b2i k = if k = true then (1 : Int) else 0 := fun k => by cases k <;> rfl
    rw [e]
    exact z _ _ H q (fun _ _ e => e) (.int _)
  · cases q
theorem op_mulD : OpR X (binaryOp .Mult) (rD G mulD) := OpR.of (op_mul.or (op_repX.or op_rep)) fun x y H Q ⟨O, dx, dy, R, od, rx, ry, q, z⟩ => by
  unfold mulD at q
  split at q
  · cases rx.int; cases ry.int
    exact .inl ⟨_, _, rfl, rfl, q.1, z _ _ H q.2 (fun _ _ e => e) (.int _)⟩
  · obtain ⟨a, vs, rfl, ea, ra⟩ := rx.tup
    cases ry.int
    obtain ⟨q1, q2, q3, q4, q⟩ := q
    refine .inr (.inl ⟨a, vs, _, rfl, rfl, ea, fun h => ?_, q2, q3, by rw [ra.len]; exact q4, fun t H' s e => z _ _ H' q s (.tup e ((ra.rep _).kx (Kx.same s)))⟩)
    subst h; cases ra; exact q1 rfl
  · obtain ⟨a, vs, rfl, ea, ra⟩ := rx.lst
    cases ry.int
    obtain ⟨q2, q3, q4, q⟩ := q
    refine .inr (.inr ⟨a, _, vs, rfl, rfl, ea, by omega, by omega, ?_, fun t n => z _ _ _ q (same_new n _) (.lst upd_same (od.not n) ((ra.rep _).kx (Kx.same (same_new n _))))⟩)
    exact Nat.le_trans (Nat.mul_le_mul (show vs.length ≤ 1000 by rw [ra.len]; exact q4) (by omega)) (show 1000 * 1000 ≤ sizeLine by decide)
  · cases q
end
end Gg

namespace PySem.SeqAt
open AutoSeq1 (wpAny_loadPart')
open MeetsSeq MeetsSeq2 MeetsSeq3 SeqRoads2
theorem dict_eq_declines_str (l : Addr) (es : Array DictEntry) (ep : Nat) (dd : Option Addr) (sl : Array (Option Value)) (b : Str) (u : Tok) :
    Meets (Builtin.«dict.__eq__» ⟨[.ref l, .str b u], []⟩) (fun _ R s => s.heap.get? l = some { cls := .type "dict", dict := dd, data := .dict es ep, slots := sl } ∧ R (.ok (.ret .notImplemented)) s) :=
  .of_wp fun prog w A R s h => by obtain ⟨hp, g, d, tk, os⟩ := s; obtain ⟨hl, h⟩ := h; have f1 := F.sub_str_dict; wp_walk using wpAny_loadPart' hl, wpAny_load hl; exact ⟨_, rfl, h⟩
theorem str_eq_declines_dict (b : Str) (u : Tok) (l : Addr) (c : Value) (es : Array DictEntry) (ep : Nat) (dd : Option Addr) (sl : Array (Option Value)) :
    Meets (Builtin.«str.__eq__» ⟨[.str b u, .ref l], []⟩) (fun _ R s => s.heap.get? l = some { cls := c, dict := dd, data := .dict es ep, slots := sl } ∧ R (.ok (.ret .notImplemented)) s) :=
  .of_wp fun prog w A R s h => by obtain ⟨hp, g, d, tk, os⟩ := s; obtain ⟨hl, h⟩ := h; wp_walk using wpAny_loadPart' hl, wpAny_load hl; exact ⟨_, rfl, h⟩
theorem dict_ne_declines_str (l : Addr) (es : Array DictEntry) (ep : Nat) (dd : Option Addr) (sl : Array (Option Value)) (b : Str) (u : Tok) :
    Meets (Builtin.«dict.__ne__» ⟨[.ref l, .str b u], []⟩) (fun _ R s => s.heap.get? l = some { cls := .type "dict", dict := dd, data := .dict es ep, slots := sl } ∧ R (.ok (.ret .notImplemented)) s) :=
  .of_wp fun prog w A R s h => by obtain ⟨hp, g, d, tk, os⟩ := s; obtain ⟨hl, h⟩ := h; have f1 := F.sub_str_dict; wp_walk using wpAny_loadPart' hl, wpAny_load hl; exact ⟨_, rfl, h⟩
theorem str_ne_declines_dict (b : Str) (u : Tok) (l : Addr) (c : Value) (es : Array DictEntry) (ep : Nat) (dd : Option Addr) (sl : Array (Option Value)) :
    Meets (Builtin.«str.__ne__» ⟨[.str b u, .ref l], []⟩) (fun _ R s => s.heap.get? l = some { cls := c, dict := dd, data := .dict es ep, slots := sl } ∧ R (.ok (.ret .notImplemented)) s) :=
  .of_wp fun prog w A R s h => by obtain ⟨hp, g, d, tk, os⟩ := s; obtain ⟨hl, h⟩ := h; wp_walk using wpAny_loadPart' hl, wpAny_load hl; exact ⟨_, rfl, h⟩
section
variable {A : Around} {s : Shared}
theorem RcAt.dict_str {l : Addr} {o : Obj} {es : Array DictEntry} {ep : Nat} (b : Str) (u : Tok) (ho : s.heap.get? l = some o) (hc : o.cls = .type "dict") (hd : o.data = .dict es ep) (hu : A.units < cLine) : RcAt A s (.ref l) (.str b u) false := fun prog w E Q h => by
  obtain ⟨cls, dd, data, sl⟩ := o
  simp only at hc hd
  subst hc hd
  exact rc_eq_decline_or (k := false) ⟨_, ho, rfl⟩ (typeIs_str s b u) (by decide) F.sub_str_dict F.slot_dict_eq F.slot_str_eq_refl
    (fun _ hq => call_meets F.slot_dict_eq ⟨_, ho, rfl⟩ F.entry_dict_eq (F.args_dict_eq_2 _ _) (dict_eq_declines_str l es ep dd sl b u) ⟨ho, hq⟩)
    (fun _ hq => call_meets F.slot_str_eq_refl (typeIs_str s b u) F.entry_str_eq (F.args_str_eq_2 _ _) (str_eq_declines_dict b u l (.type "dict") es ep dd sl) ⟨ho, hq⟩)
    (fun _ hq => wpAny_of_eq (rfl : isSame (.ref l) (.str b u) = pure false) hq) (.inr hu) h
theorem RcAt.str_dict {l : Addr} {o : Obj} {es : Array DictEntry} {ep : Nat} (b : Str) (u : Tok) (ho : s.heap.get? l = some o) (hc : o.cls = .type "dict") (hd : o.data = .dict es ep) (hu : A.units < cLine) : RcAt A s (.str b u) (.ref l) false := fun prog w E Q h => by
  obtain ⟨cls, dd, data, sl⟩ := o
  simp only at hc hd
  subst hc hd
  exact rc_eq_decline_or (k := false) (typeIs_str s b u) ⟨_, ho, rfl⟩ (by decide) F.sub_dict_str F.slot_str_eq F.slot_dict_eq_refl
    (fun _ hq => call_meets F.slot_str_eq (typeIs_str s b u) F.entry_str_eq (F.args_str_eq_2 _ _) (str_eq_declines_dict b u l (.type "dict") es ep dd sl) ⟨ho, hq⟩)
    (fun _ hq => call_meets F.slot_dict_eq_refl ⟨_, ho, rfl⟩ F.entry_dict_eq (F.args_dict_eq_2 _ _) (dict_eq_declines_str l es ep dd sl b u) ⟨ho, hq⟩)
    (fun _ hq => wpAny_of_eq (rfl : isSame (.str b u) (.ref l) = pure false) hq) (.inr hu) h
theorem EqAt.str_dict {l : Addr} {o : Obj} {es : Array DictEntry} {ep : Nat} (b : Str) (u : Tok) (ho : s.heap.get? l = some o) (hc : o.cls = .type "dict") (hd : o.data = .dict es ep) (hu : A.units < cLine) : EqAt A s (.str b u) (.ref l) false := fun prog w E Q h => by
  unfold eqBool
  refine wpAny_holding ?_
  refine wpAny_ite_split (fun hab => absurd (eq_of_beq hab) nofun) (fun _ => ?_)
  exact wpAny_bind (RcAt.str_dict b u ho hc hd hu prog w E _ (wpAny_truthy_bool h))
theorem RcNeAt.dict_str {l : Addr} {o : Obj} {es : Array DictEntry} {ep : Nat} (b : Str) (u : Tok) (ho : s.heap.get? l = some o) (hc : o.cls = .type "dict") (hd : o.data = .dict es ep) (hu : A.units < cLine) : RcNeAt A s (.ref l) (.str b u) true := fun prog w E Q h => by
  obtain ⟨cls, dd, data, sl⟩ := o
  simp only at hc hd
  subst hc hd
  exact rc_ne_decline_or (k := false) ⟨_, ho, rfl⟩ (typeIs_str s b u) (by decide) F.sub_str_dict F.slot_dict_ne F.slot_str_ne_refl
    (fun _ hq => call_meets F.slot_dict_ne ⟨_, ho, rfl⟩ F.entry_dict_ne (F.args_dict_ne_2 _ _) (dict_ne_declines_str l es ep dd sl b u) ⟨ho, hq⟩)
    (fun _ hq => call_meets F.slot_str_ne_refl (typeIs_str s b u) F.entry_str_ne (F.args_str_ne_2 _ _) (str_ne_declines_dict b u l (.type "dict") es ep dd sl) ⟨ho, hq⟩)
    (fun _ hq => wpAny_of_eq (rfl : isSame (.ref l) (.str b u) = pure false) hq) (.inr hu) h
end
end PySem.SeqAt

namespace Gg
open PySem PySem.Spec PyProof.Rows L2
mutual
def toP : D → PyData
  | .bl b => .bool b
  | .int i => .int i
  | .str x => .str x
  | .tup xs => .tuple (toPs xs)
  | .lst xs => .list (toPs xs)
  | .emp => .dict []
  | _ => .none
def toPs : List D → List PyData
  | [] => []
  | x :: xs => toP x :: toPs xs
end
mutual
def plain : D → Bool
  | .non => true
  | .bl _ => true
  | .int _ => true
  | .str _ => true
  | .emp => true
  | .tup xs => plains xs
  | .lst xs => plains xs
  | _ => false
def plains : List D → Bool
  | [] => true
  | x :: xs => plain x && plains xs
end
mutual
def plainE : D → Bool
  | .non => true
  | .bl _ => true
  | .int _ => true
  | .str _ => true
  | .tup xs => plainEs xs
  | .lst xs => plainEs xs
  | _ => false
def plainEs : List D → Bool
  | [] => true
  | x :: xs => plainE x && plainEs xs
end
section
variable {p : Addr} {H : Hp} {B : List Addr} {K : PySem.W.Frag}
mutual
theorem Rp.dx : ∀ (d : D) (v : V), plain d = true → Rp p H B v d → Dx H B v (toP d)
  | .non, _, _, h => by cases h; exact .non
  | .bl _, _, _, h => by cases h; exact .bl _
  | .int _, _, _, h => by cases h; exact .int _
  | .str _, _, _, h => by cases h; exact .str _
  | .emp, _, _, h => by cases h with | emp e n => exact .emp e n
  | .tup ds, _, z, h => by
    cases h with
    | tup e ha => rw [plain] at z; exact .tup e (RpAll.dx ds _ z ha)
  | .lst ds, _, z, h => by
    cases h with
    | lst e n ha => rw [plain] at z; exact .lst e n (RpAll.dx ds _ z ha)
  | .ty _, _, z, _ => by rw [plain] at z <;> first | cases z | nofun
  | .pen, _, z, _ => by rw [plain] at z <;> first | cases z | nofun
  | .obj _ _ _, _, z, _ => by rw [plain] at z <;> first | cases z | nofun
theorem RpAll.dx : ∀ (ds : List D) (vs : List V), plains ds = true → RpAll p H B vs ds → DxAll H B vs (toPs ds)
  | [], _, _, h => by cases h; exact .nil
  | d :: ds, _, z, h => by
    cases h with
    | cons h1 h2 =>
      rw [plains, Bool.and_eq_true] at z
      exact .cons (Rp.dx d _ z.1 h1) (RpAll.dx ds _ z.2 h2)
end
mutual
theorem Rp.dp : ∀ (d : D) (v : V), plainE d = true → Rp p H B v d → Dp K H v (toP d)
  | .non, _, _, h => by cases h; exact .non
  | .bl _, _, _, h => by cases h; exact .bl _
  | .int _, _, _, h => by cases h; exact .int _
  | .str _, _, _, h => by cases h; exact .str _
  | .emp, _, z, h => by rw [plainE] at z <;> first | cases z | nofun
  | .tup ds, _, z, h => by
    cases h with
    | tup e ha => rw [plainE] at z; exact .tup (sqT e) (RpAll.dp ds _ z ha)
  | .lst ds, _, z, h => by
    cases h with
    | lst e n ha => rw [plainE] at z; exact .lst (sqL e) (RpAll.dp ds _ z ha)
  | .ty _, _, z, _ => by rw [plainE] at z <;> first | cases z | nofun
  | .pen, _, z, _ => by rw [plainE] at z <;> first | cases z | nofun
  | .obj _ _ _, _, z, _ => by rw [plainE] at z <;> first | cases z | nofun
theorem RpAll.dp : ∀ (ds : List D) (vs : List V), plainEs ds = true → RpAll p H B vs ds → DpAll K H vs (toPs ds)
  | [], _, _, h => by cases h; exact .nil
  | d :: ds, _, z, h => by
    cases h with
    | cons h1 h2 =>
      rw [plainEs, Bool.and_eq_true] at z
      exact .cons (Rp.dp d _ z.1 h1) (RpAll.dp ds _ z.2 h2)
end
end
section
variable {G : Gx} {O : List Addr} {H : Hp} {v : V} {d : D} {K : PySem.W.Frag}
theorem Rv.dx (h : Rv G O H v d) (z : plain d = true) : Dx H [] v (toP d) := by
  rcases h with h | ⟨a, vs, xs, rfl, rfl, _, e, ra⟩
  · exact Rp.dx d v z (h.kx (Kx.less fun _ m => by cases m))
  · rw [plain] at z
    exact .lst e (fun m => by cases m) (RpAll.dx xs vs z (ra.kx (Kx.less fun _ m => by cases m)))
theorem Rv.dp (h : Rv G O H v d) (z : plainE d = true) : Dp K H v (toP d) := by
  rcases h with h | ⟨a, vs, xs, rfl, rfl, _, e, ra⟩
  · exact Rp.dp d v z h
  · rw [plainE] at z
    exact .lst (sqL e) (RpAll.dp xs vs z ra)
end
def strIs (b : Str) : D → Bool
  | .str x => x == b
  | _ => false
def isStrD : D → Bool
  | .str _ => true
  | _ => false
section
variable {X : Cx} {G : Gx} {pins : List (Addr × Obj)} {σ : L2.St} {H : Hp} {s : Shared} {O : List Addr} {v : V} {u : Value} {d : D}
theorem Inv.dictO {a : Addr} (I : Inv X pins σ H s) (h : H a = some (.dK [])) : ∃ o es ep, s.heap.get? a = some o ∧ o.cls = .type "dict" ∧ o.data = .dict es ep := by
  obtain ⟨_, _, vs, _, p⟩ := (show ObjOk X.prog X.w H s.heap _ (.dK []) from I.hok _ _ h)
  obtain ⟨o, es, ep, h1, h2, h3, _⟩ := p
  exact ⟨o, es, ep, h1, h2.1, h3⟩
theorem Rv.eqStr {A : Around} (I : Inv X pins σ H s) (r : Rv G O H v d) (pl : plain d = true) (rv : RelV v u) (hu : A.units < cLine) (b : Str) (t : Tok) : SeqAt.EqAt A s (.str b t) u (strIs b d) := by
  rcases r with r | ⟨a, vs, xs, rfl, rfl, _, e, ra⟩
  · cases r with
    | non => cases rv; exact SeqAt.EqAt.str_none b t
    | bl k => cases rv; exact SeqAt.EqAt.str_bool b t k
    | int i => obtain ⟨t', rfl⟩ := rv; exact SeqAt.EqAt.str_int b t i t'
    | str x => obtain ⟨t', rfl⟩ := rv; rw [show strIs b (.str x) = (b == x) from by unfold strIs; exact Bool.eq_iff_iff.mpr ⟨fun z => by rw [beq_iff_eq] at z ⊢; exact z.symm, fun z => by rw [beq_iff_eq] at z ⊢; exact z.symm⟩]; exact SeqAt.EqAt.str_str b t x t'
    | tup e ra => cases rv; obtain ⟨its, _, p, _⟩ := I.tuple (sqT e); exact SeqAt.EqAt.str_tuple b t p hu
    | lst e _ ra => cases rv; obtain ⟨its, _, p, _⟩ := I.list (sqL e); exact SeqAt.EqAt.str_list b t p.isList hu
    | emp e _ => cases rv; obtain ⟨o, es, ep, h1, h2, h3⟩ := Inv.dictO I e; exact SeqAt.EqAt.str_dict b t h1 h2 h3 hu
    | _ => (rw [plain] at pl <;> first | cases pl | nofun)
  · cases rv; obtain ⟨its, _, p, _⟩ := I.list (sqL e); exact SeqAt.EqAt.str_list b t p.isList hu
def rEqS (G : Gx) : R2 := fun x y H Q => ∃ O d b, Rv G O H x d ∧ plain d = true ∧ y = .str b ∧ Q (.bl (strIs b d)) H
def rNeS (G : Gx) : R2 := fun x y H Q => ∃ O d b, Rv G O H x d ∧ plain d = true ∧ y = .str b ∧ Q (.bl (!strIs b d)) H
theorem op_eqS (hu : X.A.units + 64 < cLine) : OpR X (compareOp .Eq) (rEqS G) := by
  intro pins s σ H x y v u Q I rx ry h
  obtain ⟨O, d, b, r, pl, rfl, q⟩ := h
  obtain ⟨t, rfl⟩ := ry
  rcases r with r | ⟨a, vs, xs, rfl, rfl, _, e, ra⟩
  · cases r with
    | non => cases rx; exact SeqAt.RcAt.none_str b t _ _ _ _ ⟨.bl _, H, I, rfl, q⟩
    | bl k => cases rx; exact SeqAt.RcAt.bool_str k b t _ _ _ _ ⟨.bl _, H, I, rfl, q⟩
    | int i => obtain ⟨t', rfl⟩ := rx; exact SeqAt.RcAt.int_str i t' b t _ _ _ _ ⟨.bl _, H, I, rfl, q⟩
    | str z => obtain ⟨t', rfl⟩ := rx; exact SeqAt.RcAt.str_str z t' b t _ _ _ _ ⟨.bl _, H, I, rfl, q⟩
    | tup e ra => cases rx; obtain ⟨its, _, p, _⟩ := I.tuple (sqT e); exact SeqAt.RcAt.tuple_str b t p (by omega) _ _ _ _ ⟨.bl _, H, I, rfl, q⟩
    | lst e _ ra => cases rx; obtain ⟨its, _, p, _⟩ := I.list (sqL e); exact SeqAt.RcAt.list_str b t p.isList (by omega) _ _ _ _ ⟨.bl _, H, I, rfl, q⟩
    | emp e _ => cases rx; obtain ⟨o, es, ep, h1, h2, h3⟩ := Inv.dictO I e; exact SeqAt.RcAt.dict_str b t h1 h2 h3 (by omega) _ _ _ _ ⟨.bl _, H, I, rfl, q⟩
    | _ => (rw [plain] at pl <;> first | cases pl | nofun)
  · cases rx; obtain ⟨its, _, p, _⟩ := I.list (sqL e); exact SeqAt.RcAt.list_str b t p.isList (by omega) _ _ _ _ ⟨.bl _, H, I, rfl, q⟩
theorem op_neS (hu : X.A.units + 64 < cLine) : OpR X (compareOp .NotEq) (rNeS G) := by
  intro pins s σ H x y v u Q I rx ry h
  obtain ⟨O, d, b, r, pl, rfl, q⟩ := h
  obtain ⟨t, rfl⟩ := ry
  rcases r with r | ⟨a, vs, xs, rfl, rfl, _, e, ra⟩
  · cases r with
    | non => cases rx; exact SeqAt.RcNeAt.none_str b t _ _ _ _ ⟨.bl _, H, I, rfl, q⟩
    | bl k => cases rx; exact SeqAt.RcNeAt.bool_str k b t _ _ _ _ ⟨.bl _, H, I, rfl, q⟩
    | int i => obtain ⟨t', rfl⟩ := rx; exact SeqAt.RcNeAt.int_str i t' b t _ _ _ _ ⟨.bl _, H, I, rfl, q⟩
    | str z => obtain ⟨t', rfl⟩ := rx; exact SeqAt.RcNeAt.str_str z t' b t _ _ _ _ ⟨.bl _, H, I, rfl, q⟩
    | tup e ra => cases rx; obtain ⟨its, _, p, _⟩ := I.tuple (sqT e); exact SeqAt.RcNeAt.tuple_str b t p (by omega) _ _ _ _ ⟨.bl _, H, I, rfl, q⟩
    | lst e _ ra => cases rx; obtain ⟨its, _, p, _⟩ := I.list (sqL e); exact SeqAt.RcNeAt.list_str b t p.isList (by omega) _ _ _ _ ⟨.bl _, H, I, rfl, q⟩
    | emp e _ => cases rx; obtain ⟨o, es, ep, h1, h2, h3⟩ := Inv.dictO I e; exact SeqAt.RcNeAt.dict_str b t h1 h2 h3 (by omega) _ _ _ _ ⟨.bl _, H, I, rfl, q⟩
    | _ => (rw [plain] at pl <;> first | cases pl | nofun)
  · cases rx; obtain ⟨its, _, p, _⟩ := I.list (sqL e); exact SeqAt.RcNeAt.list_str b t p.isList (by omega) _ _ _ _ ⟨.bl _, H, I, rfl, q⟩
/-- x in a row of texts -/
def eS (d : D) : Value → Bool
  | .str b _ => strIs b d
  | _ => false
theorem any_eS (d : D) : ∀ {ss : List Str} {us : List Value}, Vals (ss.map V.str) us → us.any (eS d) = ss.any fun b => strIs b d
  | [], _, h => by cases h; rfl
  | b :: ss, _, h => by
    cases h with
    | cons r t => obtain ⟨t', rfl⟩ := r; rw [List.any_cons, List.any_cons, any_eS d t]; rfl
theorem mem_eS {A : Around} (I : Inv X pins σ H s) (r : Rv G O H v d) (pl : plain d = true) (rv : RelV v u) (hu : A.units < cLine) : ∀ {ss : List Str} {us : List Value}, Vals (ss.map V.str) us → ∀ w ∈ us, SeqAt.EqAt A s w u (eS d w)
  | [], _, h, w, hw => by cases h; cases hw
  | b :: ss, _, h, w, hw => by
    cases h with
    | cons r' t =>
      rcases List.mem_cons.mp hw with rfl | hw
      · obtain ⟨t', rfl⟩ := r'; exact r.eqStr I pl rv hu b t'
      · exact mem_eS I r pl rv hu t w hw
def rInS (K : PySem.W.Frag) (G : Gx) (neg : Bool) : R2 := fun x y H Q => ∃ O d a, ∃ ss : List Str, Rv G O H x d ∧ plain d = true ∧ y = .ref a ∧ (SqL K H a (ss.map V.str) ∨ SqT K H a (ss.map V.str)) ∧ Q (.bl (if neg then !(ss.any fun b => strIs b d) else ss.any fun b => strIs b d)) H
theorem op_inS (hu : X.A.units + 64 < cLine) : OpR X (compareOp .In) (rInS X.K G false) := by
  intro pins s σ H x y v u Q I rx ry h
  obtain ⟨O, d, a, ss, r, pl, rfl, hq, q⟩ := h
  cases ry
  have hu1 : X.A.in1.units < cLine := by show X.A.units + 1 < cLine; omega
  rcases hq with hq | hq
  · obtain ⟨its, rs, p, _⟩ := I.list hq
    refine SeqAt.in_listAt (eS d) p.isList (fun w hw => mem_eS I r pl rx hu1 rs w (by simpa using hw)) ⟨.bl _, H, I, rfl, ?_⟩
    rw [show its.toArray.any (eS d) = its.any (eS d) by simp, any_eS d rs]
    exact q
  · obtain ⟨its, rs, p, _⟩ := I.tuple hq
    refine SeqAt.in_tupleAt (eS d) p (fun w hw => mem_eS I r pl rx hu1 rs w (by simpa using hw)) ⟨.bl _, H, I, rfl, ?_⟩
    rw [show its.toArray.any (eS d) = its.any (eS d) by simp, any_eS d rs]
    exact q
theorem op_ninS (hu : X.A.units + 64 < cLine) : OpR X (compareOp .NotIn) (rInS X.K G true) := by
  intro pins s σ H x y v u Q I rx ry h
  obtain ⟨O, d, a, ss, r, pl, rfl, hq, q⟩ := h
  cases ry
  have hu1 : X.A.in1.units < cLine := by show X.A.units + 1 < cLine; omega
  rcases hq with hq | hq
  · obtain ⟨its, rs, p, _⟩ := I.list hq
    refine SeqAt.notIn_listAt (eS d) p.isList (fun w hw => mem_eS I r pl rx hu1 rs w (by simpa using hw)) ⟨.bl _, H, I, rfl, ?_⟩
    rw [show its.toArray.any (eS d) = its.any (eS d) by simp, any_eS d rs]
    exact q
  · obtain ⟨its, rs, p, _⟩ := I.tuple hq
    refine SeqAt.notIn_tupleAt (eS d) p (fun w hw => mem_eS I r pl rx hu1 rs w (by simpa using hw)) ⟨.bl _, H, I, rfl, ?_⟩
    rw [show its.toArray.any (eS d) = its.any (eS d) by simp, any_eS d rs]
    exact q
end
section
variable {X : Cx}
/-- a list of anything beside the empty one -/
def rEqE (neg : Bool) : R2 := fun x y H Q => ∃ a b xs, x = .ref a ∧ y = .ref b ∧ H a = some (.lst xs) ∧ H b = some (.lst []) ∧ Q (.bl (if neg then !xs.isEmpty else xs.isEmpty)) H
theorem op_eqE (hu : X.A.units + 64 < cLine) : OpR X (compareOp .Eq) (rEqE false) := by
  intro pins s σ H x y v u Q I rx ry h
  obtain ⟨a, b, xs, rfl, rfl, e1, e2, q⟩ := h
  cases rx; cases ry
  obtain ⟨its, rv, p, _⟩ := I.list (sqL e1)
  obtain ⟨its2, rv2, p2, _⟩ := I.list (sqL e2)
  cases rv2
  cases rv with
  | nil => exact SeqAt.RcAt.lists (e := fun _ => true) p.isList p2.isList rfl (by omega) (fun j h1 => absurd h1 (by simp)) _ _ _ _ ⟨.bl _, H, I, rfl, q⟩
  | cons r rr => exact SeqAt.RcAt.lists_lengths p.isList p2.isList (by simp) (by omega) _ _ _ _ ⟨.bl _, H, I, rfl, q⟩
theorem op_neE (hu : X.A.units + 64 < cLine) : OpR X (compareOp .NotEq) (rEqE true) := by
  intro pins s σ H x y v u Q I rx ry h
  obtain ⟨a, b, xs, rfl, rfl, e1, e2, q⟩ := h
  cases rx; cases ry
  obtain ⟨its, rv, p, _⟩ := I.list (sqL e1)
  obtain ⟨its2, rv2, p2, _⟩ := I.list (sqL e2)
  cases rv2
  cases rv with
  | nil => exact SeqAt.RcNeAt.lists (e := fun _ => true) p.isList p2.isList rfl (by omega) (fun j h1 => absurd h1 (by simp)) _ _ _ _ ⟨.bl _, H, I, rfl, q⟩
  | cons r rr => exact SeqAt.RcNeAt.lists_lengths p.isList p2.isList (by simp) (by omega) _ _ _ _ ⟨.bl _, H, I, rfl, q⟩
end
section
variable {X : Cx}
/-- a tuple of anything beside the empty one -/
def rEqT (neg : Bool) : R2 := fun x y H Q => ∃ a b xs, x = .ref a ∧ y = .ref b ∧ H a = some (.tup xs) ∧ H b = some (.tup []) ∧ Q (.bl (if neg then !xs.isEmpty else xs.isEmpty)) H
theorem op_eqT (hu : X.A.units + 64 < cLine) : OpR X (compareOp .Eq) (rEqT false) := by
  intro pins s σ H x y v u Q I rx ry h
  obtain ⟨a, b, xs, rfl, rfl, e1, e2, q⟩ := h
  cases rx; cases ry
  obtain ⟨its, rv, p, _⟩ := I.tuple (sqT e1)
  obtain ⟨its2, rv2, p2, _⟩ := I.tuple (sqT e2)
  cases rv2
  have k := SeqAt.RcAt.tuples (A := X.A) (s := s) (e := fun _ => true) p p2 (by omega) (fun j _ h2 => absurd h2 (by simp))
  refine k _ _ _ _ ⟨.bl _, H, I, rfl, ?_⟩
  have e : ((List.range (min its.toArray.size (#[] : Array Value).size)).all (fun _ => true) && its.toArray.size == (#[] : Array Value).size) = xs.isEmpty := by
    cases rv <;> simp
  rw [e]
  exact q
theorem op_neT (hu : X.A.units + 64 < cLine) : OpR X (compareOp .NotEq) (rEqT true) := by
  intro pins s σ H x y v u Q I rx ry h
  obtain ⟨a, b, xs, rfl, rfl, e1, e2, q⟩ := h
  cases rx; cases ry
  obtain ⟨its, rv, p, _⟩ := I.tuple (sqT e1)
  obtain ⟨its2, rv2, p2, _⟩ := I.tuple (sqT e2)
  cases rv2
  have k := SeqAt.RcNeAt.tuples (A := X.A) (s := s) (e := fun _ => true) p p2 (by omega) (fun j _ h2 => absurd h2 (by simp))
  refine k _ _ _ _ ⟨.bl _, H, I, rfl, ?_⟩
  have e : ((List.range (min its.toArray.size (#[] : Array Value).size)).all (fun _ => true) && its.toArray.size == (#[] : Array Value).size) = xs.isEmpty := by
    cases rv <;> simp
  rw [e]
  exact q
end
def eqQ : D → D → (Bool → Prop) → Prop
  | .lst xs, .lst [], R => R xs.isEmpty
  | .tup xs, .tup [], R => R xs.isEmpty
  | .int i, .int j, R => R (decide (i = j))
  | .str x, .str y, R => R (decide (x = y))
  | .bl x, .bl y, R => R (decide (x = y))
  | x, .str y, R => plain x = true ∧ R (strIs y x)
  | x, y, R => plainE x = true ∧ plainE y = true ∧ SeqAt.shaped (toP x) = true ∧ SeqAt.shaped (toP y) = true ∧ R (PyData.eqv (toP x) (toP y))
def eqD : Op2 := fun x y R => eqQ x y fun b => R (.bl b)
def neD : Op2 := fun x y R => eqQ x y fun b => R (.bl (!b))
theorem eqD_int {i j : Int} {R : D → Prop} : eqD (.int i) (.int j) R = R (.bl (decide (i = j))) := rfl
theorem neD_int {i j : Int} {R : D → Prop} : neD (.int i) (.int j) R = R (.bl (!decide (i = j))) := rfl
theorem eqD_bl {i j : Bool} {R : D → Prop} : eqD (.bl i) (.bl j) R = R (.bl (decide (i = j))) := rfl
theorem neD_bl {i j : Bool} {R : D → Prop} : neD (.bl i) (.bl j) R = R (.bl (!decide (i = j))) := rfl
theorem eqD_ss {i j : Str} {R : D → Prop} : eqD (.str i) (.str j) R = R (.bl (decide (i = j))) := rfl
theorem neD_ss {i j : Str} {R : D → Prop} : neD (.str i) (.str j) R = R (.bl (!decide (i = j))) := rfl
theorem eqD_ln {xs : List D} {R : D → Prop} : eqD (.lst xs) (.lst []) R = R (.bl xs.isEmpty) := rfl
theorem neD_ln {xs : List D} {R : D → Prop} : neD (.lst xs) (.lst []) R = R (.bl (!xs.isEmpty)) := rfl
theorem eqD_tn {xs : List D} {R : D → Prop} : eqD (.tup xs) (.tup []) R = R (.bl xs.isEmpty) := rfl
theorem neD_tn {xs : List D} {R : D → Prop} : neD (.tup xs) (.tup []) R = R (.bl (!xs.isEmpty)) := rfl
theorem eqD_s {x : D} {b : Str} {R : D → Prop} (h : plain x = true) : eqD x (.str b) R = R (.bl (strIs b x)) := by
  cases x <;> first | exact propext ⟨fun z => z.2, fun z => ⟨h, z⟩⟩ | (show R (.bl (decide _)) = R (.bl (_ == _)); rw [show ∀ p q : Str, decide (p = q) = (p == q) from fun p q => by by_cases e : p = q <;> simp [e]])
theorem dec_V {x y : V} {P : Prop} [Decidable P] (h : x = y ↔ P) : decide (x = y) = decide P := by
  by_cases p : P
  · rw [decide_eq_true p, decide_eq_true (h.mpr p)]
  · rw [decide_eq_false p, decide_eq_false (fun z => p (h.mp z))]
section
variable {X : Cx} {G : Gx}
theorem op_eqDD (hu : X.A.units + 64 < cLine) : OpR X (compareOp .Eq) (rD G eqD) := OpR.of (op_eq.or ((op_eqD hu).or ((op_eqE hu).or ((op_eqS (G := G) hu).or (op_eqT hu))))) fun x y H Q ⟨O, dx, dy, R, od, rx, ry, q, z⟩ => by
  unfold eqD eqQ at q
  split at q
  · obtain ⟨a, vs, rfl, ea, ra⟩ := rx.lst
    obtain ⟨b, ws, rfl, eb, rb⟩ := ry.lst
    cases rb
    refine .inr (.inr (.inl ⟨a, b, vs, rfl, rfl, ea, eb, ?_⟩))
    cases ra <;> exact z _ _ H q (fun _ _ e => e) (.bl _)
  · obtain ⟨a, vs, rfl, ea, ra⟩ := rx.tup
    obtain ⟨b, ws, rfl, eb, rb⟩ := ry.tup
    cases rb
    refine .inr (.inr (.inr (.inr ⟨a, b, vs, rfl, rfl, ea, eb, ?_⟩)))
    cases ra <;> exact z _ _ H q (fun _ _ e => e) (.bl _)
  · cases rx.int; cases ry.int
    refine .inl ⟨rfl, ?_⟩
    rw [dec_V (Iff.of_eq (V.int.injEq _ _))]
    exact z _ _ H q (fun _ _ e => e) (.bl _)
  · cases rx.str; cases ry.str
    refine .inl ⟨rfl, ?_⟩
    rw [dec_V (Iff.of_eq (V.str.injEq _ _))]
    exact z _ _ H q (fun _ _ e => e) (.bl _)
  · cases rx.bl; cases ry.bl
    refine .inl ⟨rfl, ?_⟩
    rw [dec_V (Iff.of_eq (V.bl.injEq _ _))]
    exact z _ _ H q (fun _ _ e => e) (.bl _)
  · cases ry.str; exact .inr (.inr (.inr (.inl ⟨O, _, _, rx, q.1, rfl, z _ _ H q.2 (fun _ _ e => e) (.bl _)⟩)))
  · exact .inr (.inl ⟨_, _, rx.dp q.1, ry.dp q.2.1, q.2.2.1, q.2.2.2.1, z _ _ H q.2.2.2.2 (fun _ _ e => e) (.bl _)⟩)
theorem op_neDD (hu : X.A.units + 64 < cLine) : OpR X (compareOp .NotEq) (rD G neD) := OpR.of (op_ne.or ((op_neD hu).or ((op_neE hu).or ((op_neS (G := G) hu).or (op_neT hu))))) fun x y H Q ⟨O, dx, dy, R, od, rx, ry, q, z⟩ => by
  unfold neD eqQ at q
  split at q
  · obtain ⟨a, vs, rfl, ea, ra⟩ := rx.lst
    obtain ⟨b, ws, rfl, eb, rb⟩ := ry.lst
    cases rb
    refine .inr (.inr (.inl ⟨a, b, vs, rfl, rfl, ea, eb, ?_⟩))
    cases ra <;> exact z _ _ H q (fun _ _ e => e) (.bl _)
  · obtain ⟨a, vs, rfl, ea, ra⟩ := rx.tup
    obtain ⟨b, ws, rfl, eb, rb⟩ := ry.tup
    cases rb
    refine .inr (.inr (.inr (.inr ⟨a, b, vs, rfl, rfl, ea, eb, ?_⟩)))
    cases ra <;> exact z _ _ H q (fun _ _ e => e) (.bl _)
  · cases rx.int; cases ry.int
    refine .inl ⟨rfl, ?_⟩
    rw [dec_V (Iff.of_eq (V.int.injEq _ _))]
    exact z _ _ H q (fun _ _ e => e) (.bl _)
  · cases rx.str; cases ry.str
    refine .inl ⟨rfl, ?_⟩
    rw [dec_V (Iff.of_eq (V.str.injEq _ _))]
    exact z _ _ H q (fun _ _ e => e) (.bl _)
  · cases rx.bl; cases ry.bl
    refine .inl ⟨rfl, ?_⟩
    rw [dec_V (Iff.of_eq (V.bl.injEq _ _))]
    exact z _ _ H q (fun _ _ e => e) (.bl _)
  · cases ry.str; exact .inr (.inr (.inr (.inl ⟨O, _, _, rx, q.1, rfl, z _ _ H q.2 (fun _ _ e => e) (.bl _)⟩)))
  · exact .inr (.inl ⟨_, _, rx.dp q.1, ry.dp q.2.1, q.2.2.1, q.2.2.2.1, z _ _ H q.2.2.2.2 (fun _ _ e => e) (.bl _)⟩)
end
def flatD : D → Bool
  | .non => true
  | .bl _ => true
  | .int _ => true
  | .str _ => true
  | _ => false
def eqF : D → D → Bool
  | .non, .non => true
  | .bl a, .bl b => a == b
  | .bl a, .int b => (if a then 1 else 0) == b
  | .int a, .bl b => a == (if b then 1 else 0)
  | .int a, .int b => a == b
  | .str a, .str b => a == b
  | _, _ => false
def inQ : D → D → (Bool → Prop) → Prop
  | x, .lst ys, R => (flatD x = true ∧ ys.all flatD = true ∨ plain x = true ∧ ys.all isStrD = true) ∧ R (ys.any fun y => eqF y x)
  | x, .tup ys, R => (flatD x = true ∧ ys.all flatD = true ∨ plain x = true ∧ ys.all isStrD = true) ∧ R (ys.any fun y => eqF y x)
  | .str s, .str z, R => ∃ c, s = ⟨#[c]⟩ ∧ R (decide (c ∈ z.cps.toList))
  | _, _, _ => False
theorem inQ_t {x : D} {ys : List D} {R : Bool → Prop} (h : plain x = true) (hs : ys.all isStrD = true) : inQ x (.tup ys) R = R (ys.any fun y => eqF y x) := propext ⟨fun z => z.2, fun z => ⟨.inr ⟨h, hs⟩, z⟩⟩
def inD : Op2 := fun x y R => inQ x y fun b => R (.bl b)
def ninD : Op2 := fun x y R => inQ x y fun b => R (.bl (!b))
section
variable {G : Gx} {O : List Addr} {H : Hp}
theorem Rp.flat {p : Addr} {B : List Addr} {v : V} {d : D} (h : Rp p H B v d) (f : flatD d = true) : flatV v = true ∧ ∀ (w : V) (e : D), Rp p H B w e → flatD e = true → eqV w v = eqF e d := by
  cases h with
  | non => exact ⟨rfl, fun w e r fe => by cases r <;> first | rfl | cases fe⟩
  | bl b => exact ⟨rfl, fun w e r fe => by cases r <;> first | rfl | cases fe⟩
  | int i => exact ⟨rfl, fun w e r fe => by cases r <;> first | rfl | cases fe⟩
  | str x => exact ⟨rfl, fun w e r fe => by cases r <;> first | rfl | cases fe⟩
  | _ => cases f
theorem RpAll.flat {p : Addr} {B : List Addr} {v : V} {d : D} (h : Rp p H B v d) (f : flatD d = true) : ∀ {vs : List V} {ds : List D}, RpAll p H B vs ds → ds.all flatD = true → vs.all flatV = true ∧ inV v vs = ds.any fun y => eqF y d
  | _, _, .nil, _ => ⟨rfl, rfl⟩
  | _, _, .cons h1 h2, z => by
    rw [List.all_cons, Bool.and_eq_true] at z
    obtain ⟨i1, i2⟩ := RpAll.flat h f h2 z.2
    have a := (h1.flat z.1).1
    refine ⟨by rw [List.all_cons, a, i1]; rfl, ?_⟩
    unfold inV at i2 ⊢
    rw [List.any_cons, List.any_cons, i2, (h.flat f).2 _ _ h1 z.1]
theorem Rv.flat {v : V} {d : D} (h : Rv G O H v d) (f : flatD d = true) : Rc G O H v d := by
  rcases h with h | ⟨a, vs, ys, e1, e2, _⟩
  · exact h
  · subst e2; cases f
end
theorem strs_of {p : Addr} {H : Hp} {B : List Addr} : ∀ {vs : List V} {ds : List D}, RpAll p H B vs ds → ds.all isStrD = true → ∃ ss : List Str, vs = ss.map V.str ∧ ds = ss.map D.str
  | _, _, .nil, _ => ⟨[], rfl, rfl⟩
  | _, _, .cons h1 h2, z => by
    rw [List.all_cons, Bool.and_eq_true] at z
    obtain ⟨ss, e1, e2⟩ := strs_of h2 z.2
    cases h1 with
    | str x => exact ⟨x :: ss, by rw [e1]; rfl, by rw [e2]; rfl⟩
    | _ => cases z.1
theorem any_eqF (d : D) (pl : plain d = true) : ∀ ss : List Str, (ss.map D.str).any (fun y => eqF y d) = ss.any fun b => strIs b d
  | [] => rfl
  | b :: ss => by
    rw [List.map_cons, List.any_cons, List.any_cons, any_eqF d pl ss]
    congr 1
    cases d <;> first | rfl | (unfold eqF strIs; exact Bool.eq_iff_iff.mpr ⟨fun z => by rw [beq_iff_eq] at z ⊢; exact z.symm, fun z => by rw [beq_iff_eq] at z ⊢; exact z.symm⟩)
section
variable {X : Cx} {G : Gx}
theorem op_inD (hu : X.A.units + 64 < cLine) : OpR X (compareOp .In) (rD G inD) := OpR.of (op_in_seq.or (op_in_sign.or (op_inS (G := G) hu))) fun x y H Q ⟨O, dx, dy, R, od, rx, ry, q, z⟩ => by
  unfold inD inQ at q
  split at q
  · obtain ⟨a, vs, rfl, e, ra⟩ := ry.lst
    obtain ⟨f, q⟩ := q
    rcases f with ⟨f1, f2⟩ | ⟨f1, f2⟩
    · have r := rx.flat f1
      obtain ⟨g1, g2⟩ := RpAll.flat r f1 ra f2
      exact .inl ⟨a, vs, rfl, .inl (sqL e), (r.flat f1).1, g1, by rw [if_neg (by decide), g2]; exact z _ _ H q (fun _ _ e => e) (.bl _)⟩
    · obtain ⟨ss, e1, e2⟩ := strs_of ra f2
      subst e1 e2
      rw [any_eqF _ f1] at q
      exact .inr (.inr ⟨O, _, a, ss, rx, f1, rfl, .inl (sqL e), by rw [if_neg (by decide)]; exact z _ _ H q (fun _ _ e => e) (.bl _)⟩)
  · obtain ⟨a, vs, rfl, e, ra⟩ := ry.tup
    obtain ⟨f, q⟩ := q
    rcases f with ⟨f1, f2⟩ | ⟨f1, f2⟩
    · have r := rx.flat f1
      obtain ⟨g1, g2⟩ := RpAll.flat r f1 ra f2
      exact .inl ⟨a, vs, rfl, .inr (sqT e), (r.flat f1).1, g1, by rw [if_neg (by decide), g2]; exact z _ _ H q (fun _ _ e => e) (.bl _)⟩
    · obtain ⟨ss, e1, e2⟩ := strs_of ra f2
      subst e1 e2
      rw [any_eqF _ f1] at q
      exact .inr (.inr ⟨O, _, a, ss, rx, f1, rfl, .inr (sqT e), by rw [if_neg (by decide)]; exact z _ _ H q (fun _ _ e => e) (.bl _)⟩)
  · obtain ⟨c, rfl, q⟩ := q
    cases rx.str; cases ry.str
    exact .inr (.inl ⟨c, _, rfl, rfl, z _ _ H q (fun _ _ e => e) (.bl _)⟩)
  · cases q
theorem op_ninD (hu : X.A.units + 64 < cLine) : OpR X (compareOp .NotIn) (rD G ninD) := OpR.of (op_notIn_seq.or (op_notIn_sign.or (op_ninS (G := G) hu))) fun x y H Q ⟨O, dx, dy, R, od, rx, ry, q, z⟩ => by
  unfold ninD inQ at q
  split at q
  · obtain ⟨a, vs, rfl, e, ra⟩ := ry.lst
    obtain ⟨f, q⟩ := q
    rcases f with ⟨f1, f2⟩ | ⟨f1, f2⟩
    · have r := rx.flat f1
      obtain ⟨g1, g2⟩ := RpAll.flat r f1 ra f2
      exact .inl ⟨a, vs, rfl, .inl (sqL e), (r.flat f1).1, g1, by rw [if_pos rfl, g2]; exact z _ _ H q (fun _ _ e => e) (.bl _)⟩
    · obtain ⟨ss, e1, e2⟩ := strs_of ra f2
      subst e1 e2
      rw [any_eqF _ f1] at q
      exact .inr (.inr ⟨O, _, a, ss, rx, f1, rfl, .inl (sqL e), by rw [if_pos rfl]; exact z _ _ H q (fun _ _ e => e) (.bl _)⟩)
  · obtain ⟨a, vs, rfl, e, ra⟩ := ry.tup
    obtain ⟨f, q⟩ := q
    rcases f with ⟨f1, f2⟩ | ⟨f1, f2⟩
    · have r := rx.flat f1
      obtain ⟨g1, g2⟩ := RpAll.flat r f1 ra f2
      exact .inl ⟨a, vs, rfl, .inr (sqT e), (r.flat f1).1, g1, by rw [if_pos rfl, g2]; exact z _ _ H q (fun _ _ e => e) (.bl _)⟩
    · obtain ⟨ss, e1, e2⟩ := strs_of ra f2
      subst e1 e2
      rw [any_eqF _ f1] at q
      exact .inr (.inr ⟨O, _, a, ss, rx, f1, rfl, .inr (sqT e), by rw [if_pos rfl]; exact z _ _ H q (fun _ _ e => e) (.bl _)⟩)
  · obtain ⟨c, rfl, q⟩ := q
    cases rx.str; cases ry.str
    exact .inr (.inl ⟨c, _, rfl, rfl, z _ _ H q (fun _ _ e => e) (.bl _)⟩)
  · cases q
end
theorem inD_t {x : D} {ys : List D} {R : D → Prop} (h : plain x = true) (hs : ys.all isStrD = true) : inD x (.tup ys) R = R (.bl (ys.any fun y => eqF y x)) := inQ_t h hs
theorem ninD_t {x : D} {ys : List D} {R : D → Prop} (h : plain x = true) (hs : ys.all isStrD = true) : ninD x (.tup ys) R = R (.bl (!ys.any fun y => eqF y x)) := inQ_t h hs
def ixD : Op2
  | .lst xs, .int i, R => ∃ d, atI xs i = some d ∧ R d
  | .tup xs, .int i, R => ∃ d, atI xs i = some d ∧ R d
  | .str x, .int i, R => x.length ≤ 1000000 ∧ ∃ c, atI x.cps.toList i = some c ∧ R (.str ⟨#[c]⟩)
  | _, _, _ => False
theorem ixD_0 {x : D} {xs : List D} {R : D → Prop} : ixD (.tup (x :: xs)) (.int 0) R = R x := propext ⟨fun ⟨d, e, r⟩ => by rw [show atI (x :: xs) (0 : Int) = some x from atI_nat (xs := x :: xs) (j := 0) rfl] at e; cases e; exact r, fun r => ⟨x, atI_nat (xs := x :: xs) (j := 0) rfl, r⟩⟩
theorem ixD_1 {x y : D} {xs : List D} {R : D → Prop} : ixD (.tup (x :: y :: xs)) (.int 1) R = R y := propext ⟨fun ⟨d, e, r⟩ => by rw [show atI (x :: y :: xs) (1 : Int) = some y from atI_nat (xs := x :: y :: xs) (j := 1) rfl] at e; cases e; exact r, fun r => ⟨y, atI_nat (xs := x :: y :: xs) (j := 1) rfl, r⟩⟩
theorem ixD_2 {x y z : D} {xs : List D} {R : D → Prop} : ixD (.tup (x :: y :: z :: xs)) (.int 2) R = R z := propext ⟨fun ⟨d, e, r⟩ => by rw [show atI (x :: y :: z :: xs) (2 : Int) = some z from atI_nat (xs := x :: y :: z :: xs) (j := 2) rfl] at e; cases e; exact r, fun r => ⟨z, atI_nat (xs := x :: y :: z :: xs) (j := 2) rfl, r⟩⟩
theorem RpAll.atI {p : Addr} {H : Hp} {B : List Addr} {vs : List V} {ds : List D} {i : Int} {d : D} (h : RpAll p H B vs ds) (e : atI ds i = some d) : ∃ v, L2.atI vs i = some v ∧ Rp p H B v d := by
  unfold L2.atI at e ⊢
  rw [h.len]
  cases z : ixN ds.length i with
  | none => rw [z] at e; cases e
  | some j =>
    rw [z] at e
    exact h.at (show ds[j]? = some d from e)
section
variable {X : Cx} {G : Gx} {a b : Expr} {ta tb : DE} {pos : Pos}
theorem IxR.of {r r' : R2} (h : IxR X r) (k : ∀ x y H Q, r' x y H Q → r x y H Q) : IxR X r' := fun va sl pins s σ H x y v u Q I rx ry q => h va sl pins s σ H x y v u Q I rx ry (k x y H Q q)
theorem ix_D : IxR X (rD G ixD) := IxR.of ix_seq fun x y H Q ⟨O, dx, dy, R, od, rx, ry, q, z⟩ => by
  unfold ixD at q
  split at q
  · obtain ⟨a, vs, rfl, e, ra⟩ := rx.lst
    cases ry.int
    obtain ⟨d, hd, q⟩ := q
    obtain ⟨v, hv, rv⟩ := ra.atI hd
    exact .inl ⟨a, vs, _, v, rfl, rfl, sqL e, hv, z _ _ H q (fun _ _ e => e) rv⟩
  · obtain ⟨a, vs, rfl, e, ra⟩ := rx.tup
    cases ry.int
    obtain ⟨d, hd, q⟩ := q
    obtain ⟨v, hv, rv⟩ := ra.atI hd
    exact .inr (.inl ⟨a, vs, _, v, rfl, rfl, sqT e, hv, z _ _ H q (fun _ _ e => e) rv⟩)
  · cases rx.str; cases ry.int
    obtain ⟨l, c, hc, q⟩ := q
    exact .inr (.inr ⟨_, _, c, rfl, rfl, Nat.le_trans l (by decide), hc, z _ _ H q (fun _ _ e => e) (.str _)⟩)
  · cases q
theorem de_ix (ha : PE X a (LEs G ta)) (hb : PE X b (LEs G tb)) (hs : PlainIx b := by exact fun _ _ => rfl) : PE X (.Subscript a b pos) (LE G (dOp ixD ta tb)) := PE.of (pe_ix ix_D ha hb hs) fun _ _ _ h => op_lift h
abbrev DO := List Sl → Nat → (Option Int → Nat → Prop) → Prop
def dNoPart : DO := fun _ n R => R none n
def dPart (t : DE) : DO := fun ρ n R => t ρ n fun d n' => match d with
  | .int i => R (some i) n'
  | _ => False
def LO (G : Gx) (t : DO) : TO := fun σ H Q => ∃ O ρ n R, RS G O H σ ρ n ∧ t ρ n R ∧ ∀ o n' H', R o n' → Kp G.p H H' → Pen H' G.p G.c n' → Q o H'
theorem do_none : PO X none (LO G dNoPart) := fun pins s σ H Q I ⟨O, ρ, n, R, a, b, c⟩ => po_none pins s σ H Q I (c _ _ _ b Kp.refl a.pen)
theorem do_some {e : Expr} {t : DE} (h : PE X e (LE G t)) : PO X (some e) (LO G (dPart t)) := fun pins s σ H Q I ⟨O, ρ, n, R, a, b, c⟩ => po_some h pins s σ H Q I ⟨O, ρ, n, _, a, b, fun d n' v H' r k p rc => by
  split at r
  · cases rc; exact ⟨_, rfl, c _ _ _ r k p⟩
  · cases r⟩
def slD : D → Option Int → Option Int → (D → Prop) → Prop
  | .lst xs, lo, hi, R => R (.lst (cutL xs lo hi))
  | .tup xs, lo, hi, R => R (.tup (cutL xs lo hi))
  | .str x, lo, hi, R => x.length ≤ 1000000 ∧ R (.str (cutS x lo hi))
  | _, _, _, _ => False
def dSl (ta : DE) (tl th : DO) : DE := fun ρ n R => ta ρ n fun d n1 => tl ρ n1 fun lo n2 => th ρ n2 fun hi n3 => slD d lo hi fun r => R r n3
theorem de_slice {e : Expr} {lo hi : Option Expr} {t : DE} {tl th : DO} {p2 : Pos} (he : PE X e (LEs G t)) (hl : PO X lo (LO G tl)) (hh : PO X hi (LO G th)) : PE X (.Subscript e (.Slice lo hi none p2) pos) (LE G (dSl t tl th)) := PE.of (pe_slice sl_anyM he hl hh) fun σ H Q ⟨O, ρ, n, R, a, b, c⟩ => by
  refine ⟨O, ρ, n, _, a, b, fun d n1 v H1 b1 k1 p1 r1 => ⟨O, ρ, n1, _, a.step k1 p1, b1, fun lo n2 H2 b2 k2 p2 => ⟨O, ρ, n2, _, a.step (k1.trans k2) p2, b2, fun hi n3 H3 b3 k3 p3 => ?_⟩⟩⟩
  have kk : Kp G.p H H3 := (k1.trans k2).trans k3
  have r3 := r1.kp (k2.trans k3) p1
  have od := (a.step kk p3).all
  unfold slD at b3
  split at b3
  · obtain ⟨l, vs, rfl, e, ra⟩ := r3.lst
    exact .inr (.inl ⟨l, vs, rfl, e, fun t H' s n e' => c _ _ _ _ b3 (kk.trans (Kp.of_same s)) (p3.keep s) (.lst e' (od.not n) ((ra.cut _ _).kx (Kx.same s)))⟩)
  · obtain ⟨l, vs, rfl, e, ra⟩ := r3.tup
    exact .inl ⟨l, vs, rfl, e, fun t H' s e' => c _ _ _ _ b3 (kk.trans (Kp.of_same s)) (p3.keep s) (.tup e' ((ra.cut _ _).kx (Kx.same s)))⟩
  · cases r3.str
    exact .inr (.inr ⟨_, rfl, Nat.le_trans b3.1 (by decide), c _ _ _ _ b3.2 kk p3 (.str _)⟩)
  · cases b3
def rvD : D → (D → Prop) → Prop
  | .lst xs, R => R (.lst xs.reverse)
  | .tup xs, R => R (.tup xs.reverse)
  | _, _ => False
def dRv (ta : DE) (tm : DO) : DE := fun ρ n R => ta ρ n fun d n1 => tm ρ n1 fun m n2 => m = some (-1) ∧ rvD d fun r => R r n2
theorem de_rev {e m : Expr} {t : DE} {tm : DO} {p2 : Pos} (he : PE X e (LEs G t)) (hm : PO X (some m) (LO G tm)) : PE X (.Subscript e (.Slice none none (some m) p2) pos) (LE G (dRv t tm)) := PE.of (pe_rev rv_anyM he hm) fun σ H Q ⟨O, ρ, n, R, a, b, c⟩ => by
  refine ⟨O, ρ, n, _, a, b, fun d n1 v H1 b1 k1 p1 r1 => ⟨O, ρ, n1, _, a.step k1 p1, b1, fun lo n2 H2 b2 k2 p2 => ?_⟩⟩
  have kk : Kp G.p H H2 := k1.trans k2
  have r3 := r1.kp k2 p1
  have od := (a.step kk p2).all
  refine ⟨b2.1, ?_⟩
  have b3 := b2.2
  unfold rvD at b3
  split at b3
  · obtain ⟨l, vs, rfl, e, ra⟩ := r3.lst
    exact ⟨l, vs, rfl, .inr ⟨e, fun t H' s n e' => c _ _ _ _ b3 (kk.trans (Kp.of_same s)) (p2.keep s) (.lst e' (od.not n) (ra.rev.kx (Kx.same s)))⟩⟩
  · obtain ⟨l, vs, rfl, e, ra⟩ := r3.tup
    exact ⟨l, vs, rfl, .inl ⟨e, fun t H' s n e' => c _ _ _ _ b3 (kk.trans (Kp.of_same s)) (p2.keep s) (.tup e' (ra.rev.kx (Kx.same s)))⟩⟩
  · cases b3
end
def dNil : DA := fun _ n R => R [] n
def dCons (t : DE) (u : DA) : DA := fun ρ n R => t ρ n fun d n1 => u ρ n1 fun ds n2 => R (d :: ds) n2
/-- arguments of built-ins: own lists may be among them -/
inductive RvAll (G : Gx) (O : List Addr) (H : Hp) : List V → List D → Prop
  | nil : RvAll G O H [] []
  | cons {v : V} {vs : List V} {d : D} {ds : List D} : Rv G O H v d → RvAll G O H vs ds → RvAll G O H (v :: vs) (d :: ds)
def LAs (G : Gx) (t : DA) : TA := fun σ H Q => ∃ O ρ n R, RS G O H σ ρ n ∧ t ρ n R ∧ ∀ ds n' vs H', R ds n' → Kp G.p H H' → Pen H' G.p G.c n' → RvAll G O H' vs ds → Q vs H'
section
variable {X : Cx} {G : Gx} {e : Expr} {es : List Expr} {t : DE} {u : DA} {pos : Pos}
theorem PA.of {t t' : TA} (h : PA X es t) (k : ∀ σ H Q, t' σ H Q → t σ H Q) : PA X es t' := fun pos pins s σ H Q I q => h pos pins s σ H Q I (k σ H Q q)
theorem da_nil : PA X [] (LA G dNil) := PA.of pa_nil fun σ H Q ⟨O, ρ, n, R, a, b, c⟩ => c _ _ _ _ b Kp.refl a.pen .nil
theorem da_nils : PA X [] (LAs G dNil) := PA.of pa_nil fun σ H Q ⟨O, ρ, n, R, a, b, c⟩ => c _ _ _ _ b Kp.refl a.pen .nil
theorem da_cons (he : PE X e (LE G t)) (hr : PA X es (LA G u)) (hs : starEach (e :: es) X.env = (false, eval e X.env) :: starEach es X.env := by rfl) : PA X (e :: es) (LA G (dCons t u)) := PA.of (pa_cons he hr hs) fun σ H Q ⟨O, ρ, n, R, a, b, c⟩ =>
  ⟨O, ρ, n, _, a, b, fun d n1 v H1 b1 k1 p1 r1 => ⟨O, ρ, n1, _, a.step k1 p1, b1, fun ds n2 vs H2 b2 k2 p2 r2 => c _ _ _ _ b2 (k1.trans k2) p2 (.cons (r1.kx (Kx.kp k2 p1)) r2)⟩⟩
theorem da_conss (he : PE X e (LEs G t)) (hr : PA X es (LAs G u)) (hs : starEach (e :: es) X.env = (false, eval e X.env) :: starEach es X.env := by rfl) : PA X (e :: es) (LAs G (dCons t u)) := PA.of (pa_cons he hr hs) fun σ H Q ⟨O, ρ, n, R, a, b, c⟩ =>
  ⟨O, ρ, n, _, a, b, fun d n1 v H1 b1 k1 p1 r1 => ⟨O, ρ, n1, _, a.step k1 p1, b1, fun ds n2 vs H2 b2 k2 p2 r2 => c _ _ _ _ b2 (k1.trans k2) p2 (.cons (r1.kp k2 p1) r2)⟩⟩
def dTup (u : DA) : DE := fun ρ n R => u ρ n fun ds n' => ds.length ≤ 1000 ∧ R (.tup ds) n'
def dLst (u : DA) : DE := fun ρ n R => u ρ n fun ds n' => ds.length ≤ 1000 ∧ R (.lst ds) n'
theorem de_tup {x1} (h : PA X es (LA G u)) : PE X (.Tuple es x1 pos) (LE G (dTup u)) := PE.of (pe_tupS h) fun σ H Q ⟨O, ρ, n, R, a, b, c⟩ =>
  ⟨O, ρ, n, _, a, b, fun ds n1 vs H1 b1 k1 p1 r1 => ⟨by rw [r1.len]; exact Nat.le_trans b1.1 (by decide), fun t H' s nn e => c _ _ _ _ b1.2 (k1.trans (Kp.of_same s)) (p1.keep s) (.tup e (r1.kx (Kx.same s)))⟩⟩
theorem de_lstf (h : PA X es (LA G u)) : PE X (.List es pos) (LEf G (dLst u)) := PE.of (pe_lstS h) fun σ H Q ⟨O, ρ, n, R, a, b, c⟩ =>
  ⟨O, ρ, n, _, a, b, fun ds n1 vs H1 b1 k1 p1 r1 => ⟨by rw [r1.len]; exact Nat.le_trans b1.1 (by decide), fun t H' s nn e => c _ _ _ _ b1.2 (k1.trans (Kp.of_same s)) (p1.keep s) ⟨t, vs, ds, rfl, rfl, k1.none p1.some nn, e, (r1.kx (Kx.new nn)).kx (Kx.same s)⟩⟩⟩
abbrev Bi1 := List D → (D → Prop) → Prop
def rCD (G : Gx) (g : Bi1) : List V → Hp → VK → Prop := fun xs H Q => ∃ O ds R, Old H (O ++ G.B) ∧ RvAll G O H xs ds ∧ g ds R ∧ ∀ d v H', R d → Same H H' → Rc G O H' v d → Q v H'
def dB (g : Bi1) (u : DA) : DE := fun ρ n R => u ρ n fun ds n' => g ds fun d => R d n'
theorem CallR.of {f : Value} {r r' : List V → Hp → VK → Prop} (h : CallR X f r) (k : ∀ xs H Q, r' xs H Q → r xs H Q) : CallR X f r' := fun pins s σ H xs us Q I rs q => h pins s σ H xs us Q I rs (k xs H Q q)
theorem cb_lift {g : Bi1} {σ : L2.St} {H : Hp} {Q : VK} (h : LE G (dB g u) σ H Q) : tCB (rCD G g) (LAs G u) σ H Q := by
  obtain ⟨O, ρ, n, R, a, b, c⟩ := h
  exact ⟨O, ρ, n, _, a, b, fun ds n1 vs H1 b1 k1 p1 r1 => ⟨O, ds, _, (a.step k1 p1).all, r1, b1, fun d v H' r s rc => c _ _ _ _ r (k1.trans (Kp.of_same s)) (p1.keep s) rc⟩⟩
/-- an own def's contract on data -/
abbrev DC := List D → Nat → (D → Nat → Prop) → Prop
def spD (C : DC) : Sp := fun vs H Q _ => ∃ (p c : Addr) (n : Nat) (B : List Addr) (ds : List D) (R : D → Nat → Prop), Pen H p c n ∧ Old H B ∧ RpAll p H B vs ds ∧ C ds n R ∧ ∀ d n' v H', R d n' → Kp p H H' → Pen H' p c n' → Rp p H' B v d → Q v H'
def dCall (C : DC) (u : DA) : DE := fun ρ n R => u ρ n fun ds n' => C ds n' R
theorem call_lift {C : DC} {σ : L2.St} {H : Hp} {Q : VK} {E : XK} (h : LE G (dCall C u) σ H Q) : tCall (spD C) [] E (LA G u) σ H Q := by
  obtain ⟨O, ρ, n, R, a, b, c⟩ := h
  exact ⟨O, ρ, n, _, a, b, fun ds n1 vs H1 b1 k1 p1 r1 => by
    show spD C (vs ++ []) H1 Q E
    rw [List.append_nil]
    exact ⟨G.p, G.c, n1, O ++ G.B, ds, R, p1, (a.step k1 p1).all, r1, b1, fun d n' v H' r k p rp => c d n' v H' r (k1.trans k) p rp⟩⟩
end
end Gg

namespace Gg
open PySem PySem.Spec PyProof.Rows L2
theorem RpAll.ints {p : Addr} {H : Hp} {B : List Addr} : ∀ {ns : List Int} {vs : List V}, RpAll p H B vs (ns.map D.int) → vs = ns.map V.int
  | [], _, h => by cases h; rfl
  | n :: ns, _, h => by
    rw [List.map_cons] at h
    cases h with
    | cons h1 h2 => cases h1; rw [RpAll.ints h2]; rfl
theorem RpAll.bools {p : Addr} {H : Hp} {B : List Addr} : ∀ {ns : List Bool} {vs : List V}, RpAll p H B vs (ns.map D.bl) → vs = ns.map V.bl
  | [], _, h => by cases h; rfl
  | n :: ns, _, h => by
    rw [List.map_cons] at h
    cases h with
    | cons h1 h2 => cases h1; rw [RpAll.bools h2]; rfl
def lenD : Bi1
  | [.lst xs], R => R (.int xs.length)
  | [.tup xs], R => R (.int xs.length)
  | [.str x], R => x.length ≤ 1000000 ∧ R (.int x.length)
  | _, _ => False
def absD : Bi1
  | [.int i], R => R (.int (if i < 0 then -i else i))
  | _, _ => False
def min2D : Bi1
  | [.int i, .int j], R => R (.int (if j < i then j else i))
  | _, _ => False
def max2D : Bi1
  | [.int i, .int j], R => R (.int (if j > i then j else i))
  | _, _ => False
def intOfD : Bi1
  | [.int i], R => R (.int i)
  | [.bl b], R => R (.int (if b = true then 1 else 0))
  | _, _ => False
def minD : Bi1
  | [.lst xs], R => ∃ ns : List Int, xs = ns.map D.int ∧ 0 < ns.length ∧ ∀ m, m ∈ ns → (∀ y, y ∈ ns → m ≤ y) → R (.int m)
  | [.tup xs], R => ∃ ns : List Int, xs = ns.map D.int ∧ 0 < ns.length ∧ ∀ m, m ∈ ns → (∀ y, y ∈ ns → m ≤ y) → R (.int m)
  | _, _ => False
def maxD : Bi1
  | [.lst xs], R => ∃ ns : List Int, xs = ns.map D.int ∧ 0 < ns.length ∧ ∀ m, m ∈ ns → (∀ y, y ∈ ns → y ≤ m) → R (.int m)
  | [.tup xs], R => ∃ ns : List Int, xs = ns.map D.int ∧ 0 < ns.length ∧ ∀ m, m ∈ ns → (∀ y, y ∈ ns → y ≤ m) → R (.int m)
  | _, _ => False
def sumD : Bi1
  | [.lst xs], R => ∃ ns : List Int, xs = ns.map D.int ∧ R (.int ns.sum)
  | _, _ => False
def allD : Bi1
  | [.lst xs], R => ∃ bs : List Bool, xs = bs.map D.bl ∧ R (.bl (bs.all id))
  | _, _ => False
def anyD : Bi1
  | [.lst xs], R => ∃ bs : List Bool, xs = bs.map D.bl ∧ R (.bl (bs.any id))
  | _, _ => False
def strD : Bi1
  | [.int i], R => i.natAbs.log2 < 1920 ∧ R (.str (toString i))
  | [.bl b], R => R (.str (if b then "True" else "False"))
  | _, _ => False
def reprD : Bi1
  | [d], R => plain d = true ∧ (toP d).showable = true ∧ (toP d).shown.length ≤ sizeLine ∧ (toP d).depth ≤ 60 ∧ R (.str (toP d).shown)
  | _, _ => False
def tyOf : D → Option String
  | .non => some "NoneType"
  | .bl _ => some "bool"
  | .int _ => some "int"
  | .str _ => some "str"
  | .lst _ => some "list"
  | .tup _ => some "tuple"
  | .emp => some "dict"
  | _ => none
def isT (d : D) (n : String) : Bool := tyOf d == some n || (tyOf d == some "bool" && n == "int")
def isiD : Bi1
  | [d, .ty n], R => (tyOf d).isSome = true ∧ plainT n = true ∧ R (.bl (isT d n))
  | [d, .tup [.ty n, .ty m]], R => (tyOf d).isSome = true ∧ plainT n = true ∧ plainT m = true ∧ R (.bl (isT d n || isT d m))
  | _, _ => False
def tupleD : Bi1
  | [.lst xs], R => R (.tup xs)
  | [.tup xs], R => R (.tup xs)
  | _, _ => False
def listD : Bi1
  | [.lst xs], R => R (.lst xs)
  | [.tup xs], R => R (.lst xs)
  | _, _ => False
section
variable {X : Cx} {G : Gx}
theorem rv1 {O : List Addr} {H : Hp} {xs : List V} {d : D} (h : RvAll G O H xs [d]) : ∃ v, xs = [v] ∧ Rv G O H v d := by
  cases h with
  | cons h1 h2 => cases h2; exact ⟨_, rfl, h1⟩
theorem rv2 {O : List Addr} {H : Hp} {xs : List V} {d e : D} (h : RvAll G O H xs [d, e]) : ∃ v w, xs = [v, w] ∧ Rv G O H v d ∧ Rv G O H w e := by
  cases h with
  | cons h1 h2 =>
    obtain ⟨w, ew, h3⟩ := rv1 h2
    subst ew
    exact ⟨_, _, rfl, h1, h3⟩
theorem cb_len : CallR X (.builtin "len") (rCD G lenD) := CallR.of (call_len_seq.or call_len_str) fun xs H Q ⟨O, ds, R, od, rs, q, z⟩ => by
  unfold lenD at q
  split at q
  · obtain ⟨v, rfl, r⟩ := rv1 rs
    obtain ⟨a, vs, rfl, e, ra⟩ := r.lst
    exact .inl ⟨a, vs, rfl, .inl (sqL e), by rw [ra.len]; exact z _ _ H q (fun _ _ e => e) (.int _)⟩
  · obtain ⟨v, rfl, r⟩ := rv1 rs
    obtain ⟨a, vs, rfl, e, ra⟩ := r.tup
    exact .inl ⟨a, vs, rfl, .inr (sqT e), by rw [ra.len]; exact z _ _ H q (fun _ _ e => e) (.int _)⟩
  · obtain ⟨v, rfl, r⟩ := rv1 rs
    cases r.str
    exact .inr ⟨_, rfl, Nat.le_trans q.1 (by decide), z _ _ H q.2 (fun _ _ e => e) (.int _)⟩
  · cases q
theorem cb_min2 (hc : X.calm = true) : CallR X (.builtin "min") (rCD G min2D) := CallR.of (call_min2 hc) fun xs H Q ⟨O, ds, R, od, rs, q, z⟩ => by
  unfold min2D at q
  split at q
  · obtain ⟨v, w, rfl, r, r'⟩ := rv2 rs
    cases r.int; cases r'.int
    exact ⟨_, _, rfl, z _ _ H q (fun _ _ e => e) (.int _)⟩
  · cases q
theorem cb_max2 (hc : X.calm = true) : CallR X (.builtin "max") (rCD G max2D) := CallR.of (call_max2 hc) fun xs H Q ⟨O, ds, R, od, rs, q, z⟩ => by
  unfold max2D at q
  split at q
  · obtain ⟨v, w, rfl, r, r'⟩ := rv2 rs
    cases r.int; cases r'.int
    exact ⟨_, _, rfl, z _ _ H q (fun _ _ e => e) (.int _)⟩
  · cases q
theorem cb_int : CallR X (.type "int") (rCD G intOfD) := CallR.of call_int1 fun xs H Q ⟨O, ds, R, od, rs, q, z⟩ => by
  unfold intOfD at q
  split at q
  · obtain ⟨v, rfl, r⟩ := rv1 rs
    cases r.int
    exact .inl ⟨_, rfl, z _ _ H q (fun _ _ e => e) (.int _)⟩
  · obtain ⟨v, rfl, r⟩ := rv1 rs
    cases r.bl
    exact .inr ⟨_, rfl, z _ _ H q (fun _ _ e => e) (.int _)⟩
  · cases q
theorem cb_min (hc : X.calm = true) : CallR X (.builtin "min") (rCD G minD) := CallR.of ((cr_min hc).or (cr_minT hc)) fun xs H Q ⟨O, ds, R, od, rs, q, z⟩ => by
  unfold minD at q
  split at q
  · obtain ⟨v, rfl, r⟩ := rv1 rs
    obtain ⟨a, vs, rfl, e, ra⟩ := r.lst
    obtain ⟨ns, rfl, l, q⟩ := q
    cases ra.ints
    exact .inl ⟨a, ns, rfl, sqL e, l, fun m hm hy => z _ _ H (q m hm hy) (fun _ _ e => e) (.int _)⟩
  · obtain ⟨v, rfl, r⟩ := rv1 rs
    obtain ⟨a, vs, rfl, e, ra⟩ := r.tup
    obtain ⟨ns, rfl, l, q⟩ := q
    cases ra.ints
    exact .inr ⟨a, ns, rfl, sqT e, l, fun m hm hy => z _ _ H (q m hm hy) (fun _ _ e => e) (.int _)⟩
  · cases q
theorem cb_max (hc : X.calm = true) : CallR X (.builtin "max") (rCD G maxD) := CallR.of ((cr_max hc).or (cr_maxT hc)) fun xs H Q ⟨O, ds, R, od, rs, q, z⟩ => by
  unfold maxD at q
  split at q
  · obtain ⟨v, rfl, r⟩ := rv1 rs
    obtain ⟨a, vs, rfl, e, ra⟩ := r.lst
    obtain ⟨ns, rfl, l, q⟩ := q
    cases ra.ints
    exact .inl ⟨a, ns, rfl, sqL e, l, fun m hm hy => z _ _ H (q m hm hy) (fun _ _ e => e) (.int _)⟩
  · obtain ⟨v, rfl, r⟩ := rv1 rs
    obtain ⟨a, vs, rfl, e, ra⟩ := r.tup
    obtain ⟨ns, rfl, l, q⟩ := q
    cases ra.ints
    exact .inr ⟨a, ns, rfl, sqT e, l, fun m hm hy => z _ _ H (q m hm hy) (fun _ _ e => e) (.int _)⟩
  · cases q
theorem cb_sum (hc : X.calm = true) : CallR X (.builtin "sum") (rCD G sumD) := CallR.of (cr_sum hc) fun xs H Q ⟨O, ds, R, od, rs, q, z⟩ => by
  unfold sumD at q
  split at q
  · obtain ⟨v, rfl, r⟩ := rv1 rs
    obtain ⟨a, vs, rfl, e, ra⟩ := r.lst
    obtain ⟨ns, rfl, q⟩ := q
    cases ra.ints
    exact ⟨a, ns, rfl, sqL e, z _ _ H q (fun _ _ e => e) (.int _)⟩
  · cases q
theorem cb_all (hc : X.calm = true) : CallR X (.builtin "all") (rCD G allD) := CallR.of (cr_all hc) fun xs H Q ⟨O, ds, R, od, rs, q, z⟩ => by
  unfold allD at q
  split at q
  · obtain ⟨v, rfl, r⟩ := rv1 rs
    obtain ⟨a, vs, rfl, e, ra⟩ := r.lst
    obtain ⟨ns, rfl, q⟩ := q
    cases ra.bools
    exact ⟨a, ns, rfl, sqL e, z _ _ H q (fun _ _ e => e) (.bl _)⟩
  · cases q
theorem cb_str : CallR X (.type "str") (rCD G strD) := CallR.of call_strN fun xs H Q ⟨O, ds, R, od, rs, q, z⟩ => by
  unfold strD at q
  split at q
  · obtain ⟨v, rfl, r⟩ := rv1 rs
    cases r.int
    exact ⟨_, rfl, .inl ⟨_, rfl, q.1, z _ _ H q.2 (fun _ _ e => e) (.str _)⟩⟩
  · obtain ⟨v, rfl, r⟩ := rv1 rs
    cases r.bl
    exact ⟨_, rfl, .inr ⟨_, rfl, z _ _ H q (fun _ _ e => e) (.str _)⟩⟩
  · cases q
theorem cb_repr (hg : X.A.guards = some []) (hu : X.A.units + 65 < cLine) : CallR X (.builtin "repr") (rCD G reprD) := CallR.of (cr_reprX hg hu) fun xs H Q ⟨O, ds, R, od, rs, q, z⟩ => by
  unfold reprD at q
  split at q
  · obtain ⟨v, rfl, r⟩ := rv1 rs
    obtain ⟨q1, q2, q3, q4, q⟩ := q
    exact ⟨v, _, [], rfl, r.dx q1, q2, q3, q4, z _ _ H q (fun _ _ e => e) (.str _)⟩
  · cases q
theorem cb_tuple : CallR X (.type "tuple") (rCD G tupleD) := CallR.of (call_tupleM.or call_tupleT) fun xs H Q ⟨O, ds, R, od, rs, q, z⟩ => by
  unfold tupleD at q
  split at q
  · obtain ⟨v, rfl, r⟩ := rv1 rs
    obtain ⟨a, vs, rfl, e, ra⟩ := r.lst
    exact .inl ⟨a, vs, rfl, e, fun l H' s n e' => z _ _ H' q s (.tup e' (ra.kx (Kx.same s)))⟩
  · obtain ⟨v, rfl, r⟩ := rv1 rs
    obtain ⟨a, vs, rfl, e, ra⟩ := r.tup
    exact .inr ⟨a, vs, rfl, sqT e, z _ _ H q (fun _ _ e => e) (.tup e ra)⟩
  · cases q
theorem kit_t {K : PySem.W.Frag} (d : D) (t n : String) (ht : tyOf d = some t) (h : plainT n = true) : PySem.W.kitOne K (.type t) (.type n) = some (isT d n) := by
  simp only [plainT, Bool.or_eq_true, beq_iff_eq] at h
  rcases h with ((((rfl | rfl) | rfl) | rfl) | rfl) | rfl <;> cases d <;> cases ht <;> rfl
theorem kit_t2 {K : PySem.W.Frag} (d : D) (t n m : String) (ht : tyOf d = some t) (h : plainT n = true) (h' : plainT m = true) : PySem.W.kitAny K (.type t) [.type n, .type m] = some (isT d n || isT d m) := by
  rw [PySem.W.kitAny, kit_t d t n ht h]
  cases isT d n with
  | true => rfl
  | false =>
    rw [PySem.W.kitAny, kit_t d t m ht h']
    cases isT d m <;> rfl
/-- something of the same kind that may be asked by isinstance -/
theorem Rv.kind {O : List Addr} {H : Hp} {v : V} {d : D} (h : Rv G O H v d) (t : (tyOf d).isSome = true) : ∃ e : PyData, tyOf d = some (tyD e) ∧ ((v = .non ∧ e = .none) ∨ (∃ b, v = .bl b ∧ e = .bool b) ∨ (∃ i, v = .int i ∧ e = .int i) ∨ (∃ x, v = .str x ∧ e = .str x) ∨
    (∃ a xs, v = .ref a ∧ H a = some (.lst xs) ∧ e = .list []) ∨ (∃ a xs, v = .ref a ∧ H a = some (.tup xs) ∧ e = .tuple []) ∨ (∃ a, v = .ref a ∧ H a = some (.dK []) ∧ e = .dict [])) := by
  rcases h with h | ⟨a, vs, xs, rfl, rfl, _, e, ra⟩
  · cases h with
    | non => exact ⟨.none, rfl, .inl ⟨rfl, rfl⟩⟩
    | bl b => exact ⟨.bool b, rfl, .inr (.inl ⟨b, rfl, rfl⟩)⟩
    | int i => exact ⟨.int i, rfl, .inr (.inr (.inl ⟨i, rfl, rfl⟩))⟩
    | str x => exact ⟨.str x, rfl, .inr (.inr (.inr (.inl ⟨x, rfl, rfl⟩)))⟩
    | lst e _ _ => exact ⟨.list [], rfl, .inr (.inr (.inr (.inr (.inl ⟨_, _, rfl, e, rfl⟩))))⟩
    | tup e _ => exact ⟨.tuple [], rfl, .inr (.inr (.inr (.inr (.inr (.inl ⟨_, _, rfl, e, rfl⟩)))))⟩
    | emp e _ => exact ⟨.dict [], rfl, .inr (.inr (.inr (.inr (.inr (.inr ⟨_, rfl, e, rfl⟩)))))⟩
    | _ => cases t
  · exact ⟨.list [], rfl, .inr (.inr (.inr (.inr (.inl ⟨_, _, rfl, e, rfl⟩))))⟩
theorem cb_isi : CallR X (.builtin "isinstance") (rCD G isiD) := by
  intro pins s σ H vs us Q I r h
  obtain ⟨O, ds, R, od, rs, q, z⟩ := h
  unfold isiD at q
  split at q
  · next R' d n =>
    obtain ⟨v, w, rfl, rv, rw'⟩ := rv2 rs
    obtain ⟨t, hp, q⟩ := q
    obtain ⟨e, ht, kd⟩ := rv.kind t
    have e1 := kit_t (K := X.K) d (tyD e) n ht hp
    have hw : w = .ty n := by
      rcases rw' with h | ⟨a, vs, ys, e1, e2, _⟩
      · cases h; rfl
      · cases e2
    subst hw
    obtain ⟨u, u2, rfl, ru, r2⟩ := vals2 r
    cases (show u2 = Value.type n from r2)
    have fin : ∀ tk, EP X pins σ Q (.bool (isT d n)) { s with toks := tk } := fun tk => ⟨.bl _, H, I.tok _, rfl, z _ _ H q (fun _ _ e => e) (.bl _)⟩
    rcases kd with ⟨rfl, rfl⟩ | ⟨b, rfl, rfl⟩ | ⟨i, rfl, rfl⟩ | ⟨x, rfl, rfl⟩ | ⟨a, xs, rfl, h1, rfl⟩ | ⟨a, xs, rfl, h1, rfl⟩ | ⟨a, rfl, h1, rfl⟩
    · cases ru; exact PySem.W.kia_one PySem.W.kitx_none I.kIn True.intro e1 (fun z => nomatch z) fin
    · cases ru; exact PySem.W.kia_one PySem.W.kitx_bool I.kIn True.intro e1 (fun z => nomatch z) fin
    · obtain ⟨t, rfl⟩ := ru; exact PySem.W.kia_one PySem.W.kitx_int I.kIn True.intro e1 (fun z => nomatch z) fin
    · obtain ⟨t, rfl⟩ := ru; exact PySem.W.kia_one PySem.W.kitx_str I.kIn True.intro e1 (fun z => nomatch z) fin
    · cases ru
      obtain ⟨_, _, n, _, h1⟩ := (show ObjOk X.prog X.w H s.heap _ (.lst _) from I.hok _ _ h1)
      exact PySem.W.kia_one PySem.W.kitx_list I.kIn ⟨_, h1, rfl⟩ e1 (fun z => nomatch z) fin
    · cases ru
      obtain ⟨_, _, _, p⟩ := (show ObjOk X.prog X.w H s.heap _ (.tup _) from I.hok _ _ h1)
      obtain ⟨o, h1, h2, _⟩ := p
      exact PySem.W.kia_one PySem.W.kitx_tuple I.kIn ⟨o, h1, h2⟩ e1 (fun z => nomatch z) fin
    · cases ru
      obtain ⟨_, _, vs, _, p⟩ := (show ObjOk X.prog X.w H s.heap _ (.dK []) from I.hok _ _ h1)
      obtain ⟨o, es, ep, h1, h2, _⟩ := p
      exact PySem.W.kia_one PySem.W.kitx_dict I.kIn ⟨o, h1, h2.1⟩ e1 (fun z => nomatch z) fin
  · next R' d n m =>
    obtain ⟨v, w, rfl, rv, rw'⟩ := rv2 rs
    obtain ⟨t, hp, hp', q⟩ := q
    obtain ⟨e, ht, kd⟩ := rv.kind t
    have e1 := kit_t2 (K := X.K) d (tyD e) n m ht hp hp'
    obtain ⟨tt, vs, rfl, htt, ra⟩ := rw'.tup
    have hvs : vs = [.ty n, .ty m] := by
      cases ra with
      | cons a b =>
        cases b with
        | cons a' b' => cases b'; cases a; cases a'; rfl
    subst hvs
    obtain ⟨u, u2, rfl, ru, r2⟩ := vals2 r
    cases (show u2 = Value.ref tt from r2)
    obtain ⟨_, its, rv', ⟨cls, dd, data, sl⟩, g1, g2, nn, g3⟩ := (show ObjOk X.prog X.w H s.heap tt (.tup [.ty n, .ty m]) from I.hok _ _ htt)
    cases (show cls = _ from g2)
    cases (show data = _ from g3)
    have hits : its = [.type n, .type m] := by
      cases rv' with
      | cons a b =>
        cases b with
        | cons a' b' =>
          cases b'
          cases (show _ = Value.type n from a)
          cases (show _ = Value.type m from a')
          rfl
    subst hits
    have fin : ∀ tk, EP X pins σ Q (.bool (isT d n || isT d m)) { s with toks := tk } := fun tk => ⟨.bl _, H, I.tok _, rfl, z _ _ H q (fun _ _ e => e) (.bl _)⟩
    rcases kd with ⟨rfl, rfl⟩ | ⟨b, rfl, rfl⟩ | ⟨i, rfl, rfl⟩ | ⟨x, rfl, rfl⟩ | ⟨a, xs, rfl, h1, rfl⟩ | ⟨a, xs, rfl, h1, rfl⟩ | ⟨a, rfl, h1, rfl⟩
    · cases ru; exact PySem.W.kia_tup PySem.W.kitx_none I.kIn True.intro g1 e1 (fun z => nomatch z) fin
    · cases ru; exact PySem.W.kia_tup PySem.W.kitx_bool I.kIn True.intro g1 e1 (fun z => nomatch z) fin
    · obtain ⟨t, rfl⟩ := ru; exact PySem.W.kia_tup PySem.W.kitx_int I.kIn True.intro g1 e1 (fun z => nomatch z) fin
    · obtain ⟨t, rfl⟩ := ru; exact PySem.W.kia_tup PySem.W.kitx_str I.kIn True.intro g1 e1 (fun z => nomatch z) fin
    · cases ru
      obtain ⟨_, _, n, _, h1⟩ := (show ObjOk X.prog X.w H s.heap _ (.lst _) from I.hok _ _ h1)
      exact PySem.W.kia_tup PySem.W.kitx_list I.kIn ⟨_, h1, rfl⟩ g1 e1 (fun z => nomatch z) fin
    · cases ru
      obtain ⟨_, _, _, p⟩ := (show ObjOk X.prog X.w H s.heap _ (.tup _) from I.hok _ _ h1)
      obtain ⟨o, h1, h2, _⟩ := p
      exact PySem.W.kia_tup PySem.W.kitx_tuple I.kIn ⟨o, h1, h2⟩ g1 e1 (fun z => nomatch z) fin
    · cases ru
      obtain ⟨_, _, vs, _, p⟩ := (show ObjOk X.prog X.w H s.heap _ (.dK []) from I.hok _ _ h1)
      obtain ⟨o, es, ep, h1, h2, _⟩ := p
      exact PySem.W.kia_tup PySem.W.kitx_dict I.kIn ⟨o, h1, h2.1⟩ g1 e1 (fun z => nomatch z) fin
  · cases q
variable {a b e : Expr} {es : List Expr} {ta tb : DE} {u : DA} {pos p : Pos}
def catLD : Op2
  | .lst xs, .lst ys, R => xs.length + ys.length ≤ 1000000 ∧ R (.lst (xs ++ ys))
  | _, _, _ => False
theorem de_cat (ha : PE X a (LEs G ta)) (hb : PE X b (LEs G tb)) : PE X (.BinOp a .Add b pos) (LEf G (dOp catLD ta tb)) := PE.of (pe_op op_catLS ha hb) fun σ H Q ⟨O, ρ, n, R, a, b, c⟩ => by
  refine ⟨O, ρ, n, _, a, b, fun dx n1 x H1 b1 k1 p1 r1 => ⟨O, ρ, n1, _, a.step k1 p1, b1, fun dy n2 y H2 b2 k2 p2 r2 => ?_⟩⟩
  have r1' := Rv.kp r1 k2 p1
  unfold catLD at b2
  split at b2
  · obtain ⟨l, vs, rfl, e, ra⟩ := r1'.lst
    obtain ⟨m, ws, rfl, e', rb⟩ := r2.lst
    refine ⟨l, m, vs, ws, rfl, rfl, e, e', by rw [ra.len, rb.len]; exact Nat.le_trans b2.1 (by decide), fun t H' s nn e2 => c _ _ _ _ b2.2 ((k1.trans k2).trans (Kp.of_same s)) (p2.keep s) ⟨t, _, _, rfl, rfl, (k1.trans k2).none p2.some nn, e2, ((ra.app rb).kx (Kx.new nn)).kx (Kx.same s)⟩⟩
  · cases b2
theorem de_list {x : Str} (hg : Gl X x) (hm : X.mg x = none) (hv : bootBuiltins x = some (.type "list")) (ha : PA X (e :: es) (LAs G u)) (hn : x ≠ "__name__" := by decide) (hdb : (x == ("__debug__" : Str)) = false := by decide)
    (he : starEach (e :: es) X.env = (false, eval e X.env) :: starEach es X.env := by rfl) (hpl : (backTo pos (starEach es X.env)).any (·.1) = false := by rfl) : PE X (.Call (.Name x p) (e :: es) [] pos) (LEf G (dB listD u)) := PE.of (pe_callTy call_listM hg hm hv ha hn hdb he hpl) fun σ H Q ⟨O, ρ, n, R, a, b, c⟩ => by
  refine ⟨O, ρ, n, _, a, b, fun ds n1 vs H1 b1 k1 p1 r1 => ?_⟩
  unfold listD at b1
  split at b1
  · obtain ⟨v, rfl, r⟩ := rv1 r1
    obtain ⟨l, vs, rfl, e, ra⟩ := r.lst
    exact ⟨l, vs, rfl, .inl e, fun t H' s nn e2 => c _ _ _ _ b1 (k1.trans (Kp.of_same s)) (p1.keep s) ⟨t, _, _, rfl, rfl, k1.none p1.some nn, e2, (ra.kx (Kx.new nn)).kx (Kx.same s)⟩⟩
  · obtain ⟨v, rfl, r⟩ := rv1 r1
    obtain ⟨l, vs, rfl, e, ra⟩ := r.tup
    exact ⟨l, vs, rfl, .inr e, fun t H' s nn e2 => c _ _ _ _ b1 (k1.trans (Kp.of_same s)) (p1.keep s) ⟨t, _, _, rfl, rfl, k1.none p1.some nn, e2, (ra.kx (Kx.new nn)).kx (Kx.same s)⟩⟩
  · cases b1
theorem de_bi {x : Str} {id : String} {g : Bi1} (hc : CallR X (.builtin id) (rCD G g)) (hg : Gl X x) (hm : X.mg x = none) (hv : bootBuiltins x = some (.builtin id)) (ha : PA X (e :: es) (LAs G u)) (hn : x ≠ "__name__" := by decide) (hdb : (x == ("__debug__" : Str)) = false := by decide)
    (he : starEach (e :: es) X.env = (false, eval e X.env) :: starEach es X.env := by rfl) (hpl : (backTo pos (starEach es X.env)).any (·.1) = false := by rfl) : PE X (.Call (.Name x p) (e :: es) [] pos) (LE G (dB g u)) := PE.of (pe_callB hc hg hm hv ha hn hdb he hpl) fun σ H Q h => cb_lift h
theorem de_ty {x : Str} {T : String} {g : Bi1} (hc : CallR X (.type T) (rCD G g)) (hg : Gl X x) (hm : X.mg x = none) (hv : bootBuiltins x = some (.type T)) (ha : PA X (e :: es) (LAs G u)) (hn : x ≠ "__name__" := by decide) (hdb : (x == ("__debug__" : Str)) = false := by decide)
    (he : starEach (e :: es) X.env = (false, eval e X.env) :: starEach es X.env := by rfl) (hpl : (backTo pos (starEach es X.env)).any (·.1) = false := by rfl) : PE X (.Call (.Name x p) (e :: es) [] pos) (LE G (dB g u)) := PE.of (pe_callTy hc hg hm hv ha hn hdb he hpl) fun σ H Q h => cb_lift h
theorem de_call {f : Addr} {fd : FuncData} {k : Nat} {ps : List Str} {x : Str} {C : DC} (F : FnOk X.prog X.w X.K X.mg X.base CX0 k f fd ps (spD C)) (hr : Room k X.A) (hg : Gl X x) (hm : X.mg x = some (.ref f)) (hk : PySem.W.keepIn X.K (.ref f) = true) (hb : Binds X.K fd ps [])
    (ha : PA X (e :: es) (LA G u)) (hdb : (x == ("__debug__" : Str)) = false := by decide) (he : starEach (e :: es) X.env = (false, eval e X.env) :: starEach es X.env := by rfl) (hpl : (backTo pos (starEach es X.env)).any (·.1) = false := by rfl) :
    PE X (.Call (.Name x p) (e :: es) [] pos) (LE G (dCall C u)) := PE.of (pe_call F hr hg hm hk hb .nil pass0 ha hdb he hpl) fun σ H Q h => call_lift h
def truD : D → (Bool → Prop) → Prop
  | .non, R => R false
  | .bl b, R => R b
  | .int i, R => R (i != 0)
  | .str x, R => x.length ≤ 1000000 ∧ R ((x.length : Int) != 0)
  | .lst xs, R => R (!xs.isEmpty)
  | .tup xs, R => R (!xs.isEmpty)
  | _, _ => False
def dTruth (t : DE) : DT := fun ρ n R => t ρ n fun d n' => truD d fun b => R b n'
theorem RpAll.emp {p : Addr} {H : Hp} {B : List Addr} {vs : List V} {ds : List D} (h : RpAll p H B vs ds) : vs.isEmpty = ds.isEmpty := by cases h <;> rfl
theorem dt_truth {t : DE} (h : PE X e (LEs G t)) (he : ∀ whole, isTrue e X.env whole = (do let v ← whole; standAt e.pos; holding [v] (truthy v))) : PT X e (LT G (dTruth t)) := PT.of (pt_truth h he) fun σ H Q ⟨O, ρ, n, R, a, b, c⟩ => by
  refine ⟨O, ρ, n, _, a, b, fun d n1 v H1 b1 k1 p1 r1 => ?_⟩
  unfold truD at b1
  split at b1
  · cases r1.non; exact ⟨_, rfl, c _ _ _ b1 k1 p1⟩
  · cases r1.bl; exact ⟨_, rfl, c _ _ _ b1 k1 p1⟩
  · cases r1.int; exact ⟨_, rfl, c _ _ _ b1 k1 p1⟩
  · cases r1.str; exact ⟨_, ⟨Nat.le_trans b1.1 (by decide), rfl⟩, c _ _ _ b1.2 k1 p1⟩
  · obtain ⟨l, vs, rfl, e, ra⟩ := r1.lst
    exact ⟨_, .inl ⟨vs, sqL e, rfl⟩, by rw [ra.emp]; exact c _ _ _ b1 k1 p1⟩
  · obtain ⟨l, vs, rfl, e, ra⟩ := r1.tup
    exact ⟨_, .inr (.inl ⟨vs, sqT e, rfl⟩), by rw [ra.emp]; exact c _ _ _ b1 k1 p1⟩
  · cases b1
def negQ : D → (D → Prop) → Prop
  | .int i, R => R (.int (-i))
  | .bl b, R => R (.int (-(if b = true then 1 else 0)))
  | _, _ => False
def rNegD (G : Gx) : V → Hp → VK → Prop := fun x H Q => ∃ O d R, Rv G O H x d ∧ negQ d R ∧ ∀ d v H', R d → Same H H' → Rc G O H' v d → Q v H'
theorem un_negD : UnR X (unaryOp .USub) (rNegD G) := fun pins s σ H x v Q I rx ⟨O, d, R, rv, q, z⟩ => un_negN pins s σ H x v Q I rx (by
  unfold negQ at q
  split at q
  · cases rv.int; exact ⟨_, rfl, z _ _ H q (fun _ _ e => e) (.int _)⟩
  · cases rv.bl; exact ⟨_, rfl, z _ _ H q (fun _ _ e => e) (.int _)⟩
  · cases q)
def dNeg (t : DE) : DE := fun ρ n R => t ρ n fun d n' => negQ d fun r => R r n'
theorem de_neg (h : PE X e (LEs G ta)) : PE X (.UnaryOp .USub e pos) (LE G (dNeg ta)) := PE.of (pe_un (un_negD (G := G)) h) fun σ H Q ⟨O, ρ, n, R, a, b, c⟩ => by
  exact ⟨O, ρ, n, _, a, b, fun d n1 v H1 b1 k1 p1 r1 => ⟨O, d, fun d' => R d' n1, r1, b1, fun d v H' r s rc => c _ _ _ _ r (k1.trans (Kp.of_same s)) (p1.keep s) rc⟩⟩
end
end Gg

namespace Gg
open PySem PySem.Spec PyProof.Rows L2
section
variable {G : Gx} {O : List Addr} {H H' : Hp} {σ : L2.St} {ρ : List Sl} {n : Nat}
theorem get_set {α : Type} {l : List α} {i j : Nat} {x y : α} (h : (l.set i x)[j]? = some y) : (i = j ∧ y = x ∧ i < l.length) ∨ (i ≠ j ∧ l[j]? = some y) := by
  by_cases e : i = j
  · subst e
    by_cases hl : i < l.length
    · rw [List.getElem?_set_self hl] at h; exact .inl ⟨rfl, (Option.some.inj h).symm, hl⟩
    · rw [List.getElem?_eq_none (by simpa using hl)] at h; cases h
  · rw [List.getElem?_set_ne e] at h; exact .inr ⟨e, h⟩
theorem RS.set (h : RS G O H σ ρ n) {v : V} {d : D} (r : Rp G.p H (O ++ G.B) v d) (i : Nat) : RS G O H (σ.set i (some v)) (ρ.set i (.val d)) n := by
  refine ⟨h.pen, h.kp, h.old, h.new, fun j s e => ?_, fun j k a xs ys e1 e2 f1 f2 => ?_, by rw [List.length_set, List.length_set, h.len]⟩
  · rcases get_set e with ⟨rfl, rfl, hl⟩ | ⟨ne, e⟩
    · exact ⟨some v, by rw [List.getElem?_set_self (by rw [← h.len]; exact hl)], v, rfl, r⟩
    · obtain ⟨o, e1, e2⟩ := h.sl j s e
      exact ⟨o, by rw [List.getElem?_set_ne ne]; exact e1, e2⟩
  · rcases get_set e1 with ⟨_, z, _⟩ | ⟨n1, e1⟩
    · cases z
    rcases get_set e2 with ⟨_, z, _⟩ | ⟨n2, e2⟩
    · cases z
    rw [List.getElem?_set_ne n1] at f1
    rw [List.getElem?_set_ne n2] at f2
    exact h.dis j k a xs ys e1 e2 f1 f2
/-- a new own list -/
theorem RS.own {n' : Nat} (h : RS G O H σ ρ n) {a : Addr} {vs : List V} {xs : List D} (hn : H a = none) (k : Kp G.p H H') (pn : Pen H' G.p G.c n') (e : H' a = some (.lst vs)) (r : RpAll G.p H' (a :: (O ++ G.B)) vs xs) (i : Nat) : RS G (a :: O) H' (σ.set i (some (.ref a))) (ρ.set i (.own xs)) n' := by
  have h' := h.step k pn
  have h0 := h.fresh0 hn
  have nO : a ∉ O := fun m => (h.new a m).2.1 hn
  refine ⟨pn, h'.kp, h.old, fun b m => ?_, fun j s z => ?_, fun j m b ys zs e1 e2 f1 f2 => ?_, by rw [List.length_set, List.length_set, h.len]⟩
  · rcases List.mem_cons.mp m with z | m
    · subst z; exact ⟨h0, (by rw [e]; exact fun y => nomatch y), h.pen.newp hn, h.pen.newc hn⟩
    · exact h'.new b m
  · rcases get_set z with ⟨rfl, rfl, hl⟩ | ⟨ne, z⟩
    · exact ⟨some (.ref a), by rw [List.getElem?_set_self (by rw [← h.len]; exact hl)], a, vs, rfl, List.mem_cons_self .., e, r⟩
    · obtain ⟨o, e1, e2⟩ := h.sl j s z
      refine ⟨o, by rw [List.getElem?_set_ne ne]; exact e1, ?_⟩
      have e3 : SlOk G.p H (a :: O) G.B o s := e2.kx (Kx.new hn) (fun _ _ _ q => q) fun _ m => List.mem_cons_of_mem _ m
      exact e3.kx (Kx.kp k h.pen) (fun b vs _ q => k.lst h.pen q) fun _ m => m
  · rcases get_set e1 with ⟨r1, _, l1⟩ | ⟨n1, e1⟩
    · rcases get_set e2 with ⟨r2, _, _⟩ | ⟨n2, e2⟩
      · rw [← r1, ← r2]
      · exfalso
        subst r1
        rw [List.getElem?_set_self (by rw [← h.len]; exact l1)] at f1
        rw [List.getElem?_set_ne n2] at f2
        cases f1
        obtain ⟨o, g1, b', ws, g2, g3, _⟩ := h.sl m _ e2
        rw [f2] at g1; cases g1; cases g2
        exact nO g3
    · rcases get_set e2 with ⟨r2, _, l2⟩ | ⟨n2, e2⟩
      · exfalso
        subst r2
        rw [List.getElem?_set_self (by rw [← h.len]; exact l2)] at f2
        rw [List.getElem?_set_ne n1] at f1
        cases f2
        obtain ⟨o, g1, b', ws, g2, g3, _⟩ := h.sl j _ e1
        rw [f1] at g1; cases g1; cases g2
        exact nO g3
      · rw [List.getElem?_set_ne n1] at f1
        rw [List.getElem?_set_ne n2] at f2
        exact h.dis j m b ys zs e1 e2 f1 f2
theorem Fr.own (h : RS G O H σ ρ n) {a : Addr} (hn : H a = none) (k : Kp G.p H H') : Fr G O H (a :: O) H' := fun v d r => (r.kx (Kx.new hn)).kx (Kx.kp k h.pen)
/-- an own list is changed -/
theorem RS.mut (h : RS G O H σ ρ n) {i : Nat} {xs ys : List D} (e : ρ[i]? = some (.own xs)) : ∃ a vs, σ[i]? = some (some (.ref a)) ∧ a ∈ O ∧ H a = some (.lst vs) ∧ RpAll G.p H (O ++ G.B) vs xs ∧
    ∀ ws, RpAll G.p H (O ++ G.B) ws ys → RS G O (upd H a (.lst ws)) σ (ρ.set i (.own ys)) n ∧ Fr G O H O (upd H a (.lst ws)) := by
  obtain ⟨o, e1, a, vs, e2, m, ea, ra⟩ := h.sl i _ e
  subst e2
  refine ⟨a, vs, e1, m, ea, ra, fun ws rw' => ?_⟩
  have mB : a ∈ O ++ G.B := List.mem_append_left _ m
  have kx : Kx (O ++ G.B) (O ++ G.B) H (upd H a (.lst ws)) := Kx.put ea mB
  obtain ⟨n1, n2, n3, n4⟩ := h.new a m
  have hi : i < ρ.length := by
    by_cases z : i < ρ.length
    · exact z
    · rw [List.getElem?_eq_none (by omega)] at e; cases e
  refine ⟨⟨h.pen.upd n3 n4, fun b o nb eb => ?_, h.old, fun b mb => ?_, fun j s z => ?_, fun j k b us zs e1' e2' f1 f2 => ?_, by rw [List.length_set, h.len]⟩, Fr.kx kx⟩
  · rw [upd_ne (fun z => by rw [z] at eb; rw [n1] at eb; cases eb)]; exact h.kp b o nb eb
  · obtain ⟨m1, m2, m3, m4⟩ := h.new b mb
    refine ⟨m1, ?_, m3, m4⟩
    by_cases z : b = a
    · subst z; rw [upd_same]; exact fun y => nomatch y
    · rw [upd_ne z]; exact m2
  · rcases get_set z with ⟨rfl, rfl, hl⟩ | ⟨ne, z⟩
    · exact ⟨_, e1, a, ws, rfl, m, upd_same, rw'.kx kx⟩
    · obtain ⟨o, g1, g2⟩ := h.sl j s z
      refine ⟨o, g1, ?_⟩
      cases s with
      | no => trivial
      | val d => obtain ⟨v, q1, q2⟩ := g2; exact ⟨v, q1, q2.kx kx⟩
      | own us =>
        obtain ⟨b, us', q1, q2, q3, q4⟩ := g2
        subst q1
        have nb : b ≠ a := fun zz => by subst zz; exact ne (h.dis i j b xs us e z e1 g1)
        exact ⟨b, us', rfl, q2, by rw [upd_ne nb]; exact q3, q4.kx kx⟩
  · have c1 : ∃ ys', ρ[j]? = some (.own ys') := by
      rcases get_set e1' with ⟨r1, _, _⟩ | ⟨_, e1'⟩
      · subst r1; exact ⟨xs, e⟩
      · exact ⟨us, e1'⟩
    have c2 : ∃ ys', ρ[k]? = some (.own ys') := by
      rcases get_set e2' with ⟨r1, _, _⟩ | ⟨_, e2'⟩
      · subst r1; exact ⟨xs, e⟩
      · exact ⟨zs, e2'⟩
    obtain ⟨y1, c1⟩ := c1
    obtain ⟨y2, c2⟩ := c2
    exact h.dis j k b y1 y2 c1 c2 f1 f2
/-- an own list is not to be changed any more -/
theorem RS.frz (h : RS G O H σ ρ n) {i : Nat} {xs : List D} (e : ρ[i]? = some (.own xs)) : ∃ O', RS G O' H σ (ρ.set i (.val (.lst xs))) n ∧ Fr G O H O' H := by
  obtain ⟨o, e1, a, vs, e2, m, ea, ra⟩ := h.sl i _ e
  subst e2
  have hi : i < ρ.length := by
    by_cases z : i < ρ.length
    · exact z
    · rw [List.getElem?_eq_none (by omega)] at e; cases e
  have sub : ∀ b, b ∈ O.filter (fun b => decide (b ≠ a)) ++ G.B → b ∈ O ++ G.B := fun b mb => by
    rcases List.mem_append.mp mb with z | z
    · exact List.mem_append_left _ (List.mem_filter.mp z).1
    · exact List.mem_append_right _ z
  have kx : Kx (O ++ G.B) (O.filter (fun b => decide (b ≠ a)) ++ G.B) H H := Kx.less sub
  have na : a ∉ O.filter (fun b => decide (b ≠ a)) ++ G.B := fun z => by
    rcases List.mem_append.mp z with z | z
    · simpa using (List.mem_filter.mp z).2
    · exact h.notB m z
  refine ⟨O.filter fun b => decide (b ≠ a), ⟨h.pen, h.kp, h.old, fun b mb => h.new b (List.mem_filter.mp mb).1, fun j s z => ?_, fun j k b us zs e1' e2' f1 f2 => ?_, by rw [List.length_set, h.len]⟩, Fr.kx kx⟩
  · rcases get_set z with ⟨rfl, rfl, hl⟩ | ⟨ne, z⟩
    · exact ⟨_, e1, .ref a, rfl, .lst ea na (ra.kx kx)⟩
    · obtain ⟨o, g1, g2⟩ := h.sl j s z
      refine ⟨o, g1, ?_⟩
      cases s with
      | no => trivial
      | val d => obtain ⟨v, q1, q2⟩ := g2; exact ⟨v, q1, q2.kx kx⟩
      | own us =>
        obtain ⟨b, us', q1, q2, q3, q4⟩ := g2
        subst q1
        have nb : b ≠ a := fun zz => by subst zz; exact ne (h.dis i j b xs us e z e1 g1)
        exact ⟨b, us', rfl, List.mem_filter.mpr ⟨q2, decide_eq_true nb⟩, q3, q4.kx kx⟩
  · rcases get_set e1' with ⟨_, z, _⟩ | ⟨_, e1'⟩
    · cases z
    rcases get_set e2' with ⟨_, z, _⟩ | ⟨_, e2'⟩
    · cases z
    exact h.dis j k b us zs e1' e2' f1 f2
end
def dSeq (t u : DSt) : DSt := fun E ρ n => t { E with nx := u E } ρ n
def dNext : DSt := fun E ρ n => E.nx ρ n
def dBreak : DSt := fun E ρ n => E.bk ρ n
def dCont : DSt := fun E ρ n => E.ct ρ n
def dRet (t : DE) : DSt := fun E ρ n => t ρ n E.rt
def dRetN : DSt := fun E _ n => E.rt .non n
def dIfS (t : DT) (u v : DSt) : DSt := fun E ρ n => t ρ n fun b n' => if b = true then u E ρ n' else v E ρ n'
def dSet (i : Nat) (t : DE) : DSt := fun E ρ n => t ρ n fun d n' => E.nx (ρ.set i (.val d)) n'
def dDrop (t : DE) : DSt := fun E ρ n => t ρ n fun _ n' => E.nx ρ n'
def dOwn (i : Nat) (t : DE) : DSt := fun E ρ n => t ρ n fun d n' => match d with
  | .lst xs => E.nx (ρ.set i (.own xs)) n'
  | _ => False
def dFrz (i : Nat) (t : DSt) : DSt := fun E ρ n => match ρ[i]? with
  | some (.own xs) => t E (ρ.set i (.val (.lst xs))) n
  | _ => False
section
variable {X : Cx} {G : Gx} {st : Stmt} {sts : List Stmt} {t u : DSt} {e c : Expr} {pos : Pos}
theorem PS.of {t t' : TS} (h : PS X st t) (k : ∀ D σ H, t' D σ H → t D σ H) : PS X st t' := fun pins s σ H D I q => h pins s σ H D I (k D σ H q)
theorem PSs.imp {t t' : TS} (h : PSs X sts t) (k : ∀ D σ H, t' D σ H → t D σ H) : PSs X sts t' := fun pins s σ H D I q => h pins s σ H D I (k D σ H q)
theorem dss_nil : PSs X [] (LS G dNext) := PSs.imp pss_nil fun D σ H ⟨O, ρ, n, E, a, b, c⟩ => c.nx _ _ _ _ _ a Fr.refl b
theorem dss_one (h : PS X st (LS G t)) : PSs X [st] (LS G t) := pss_one h
theorem dss_cons (h : PS X st (LS G t)) (k : PSs X sts (LS G u)) : PSs X (st :: sts) (LS G (dSeq t u)) := PSs.imp (pss_cons h k) fun D σ H ⟨O, ρ, n, E, a, b, c⟩ =>
  ⟨O, ρ, n, _, a, b, ⟨fun O' σ' H' ρ' n' r f q => ⟨O', ρ', n', E, r, q, c.from f⟩, c.rt, c.bk, c.ct⟩⟩
theorem dss_frz {i : Nat} (h : PSs X sts (LS G t)) : PSs X sts (LS G (dFrz i t)) := PSs.imp h fun D σ H ⟨O, ρ, n, E, a, b, c⟩ => by
  unfold dFrz at b
  split at b
  · next xs e =>
    obtain ⟨O', r, f⟩ := a.frz e
    exact ⟨O', _, n, E, r, b, c.from f⟩
  · cases b
theorem ds_ret {te : DE} (h : PE X e (LEs G te)) : PS X (.Return (some e) pos) (LS G (dRet te)) := PS.of (ps_ret h) fun D σ H ⟨O, ρ, n, E, a, b, c⟩ =>
  ⟨O, ρ, n, _, a, b, fun d n' v H' r k p rv => c.rt d n' v H' (a.kp.trans k) p (by
    rcases rv with rv | ⟨l, vs, xs, e1, e2, m, el, ra⟩
    · exact rv.kx (Kx.less fun b m => List.mem_append_right _ m)
    · subst e1 e2; exact .lst el (a.notB m) (ra.kx (Kx.less fun b m => List.mem_append_right _ m))) r⟩
theorem ds_if {tc : DT} {as bs : List Stmt} (hc : PT X c (LT G tc)) (ha : PSs X as (LS G t)) (hb : PSs X bs (LS G u)) : PS X (.If c as bs pos) (LS G (dIfS tc t u)) := PS.of (ps_if hc ha hb) fun D σ H ⟨O, ρ, n, E, a, b, c⟩ => by
  refine ⟨O, ρ, n, _, a, b, fun d n' H' r k p => ?_⟩
  have f : Fr G O H O H' := Fr.kx (Kx.kp k a.pen)
  cases d with
  | true => simp only [if_true] at r ⊢; exact ⟨O, ρ, n', E, a.step k p, r, c.from f⟩
  | false => simp only [Bool.false_eq_true, if_false] at r ⊢; exact ⟨O, ρ, n', E, a.step k p, r, c.from f⟩
theorem ds_set {te : DE} {i : Nat} {x : Str} {px : Pos} (h : PS X (.Assign [.Name x px] e pos) (tAsg (LE G te) (gName i))) : PS X (.Assign [.Name x px] e pos) (LS G (dSet i te)) := PS.of h fun D σ H ⟨O, ρ, n, E, a, b, c⟩ =>
  ⟨O, ρ, n, _, a, b, fun d n' v H' r k p rv => c.nx _ _ _ _ _ ((a.step k p).set rv i) (Fr.kx (Kx.kp k a.pen)) r⟩
theorem ds_own {te : DE} {i : Nat} {x : Str} {px : Pos} (h : PS X (.Assign [.Name x px] e pos) (tAsg (LEf G te) (gName i))) : PS X (.Assign [.Name x px] e pos) (LS G (dOwn i te)) := PS.of h fun D σ H ⟨O, ρ, n, E, a, b, c⟩ =>
  ⟨O, ρ, n, _, a, b, fun d n' v H' r k p rf => by
    obtain ⟨l, vs, xs, rfl, rfl, hn, e, ra⟩ := rf
    exact c.nx _ _ _ _ _ (RS.own a hn k p e ra i) (Fr.own a hn k) r⟩
end
end Gg

namespace Gg
open PySem PySem.Spec PyProof.Rows L2
section
variable {G : Gx} {O : List Addr} {H H' : Hp} {σ : L2.St} {ρ : List Sl} {n n' : Nat}
theorem RS.more (h : RS G O H σ ρ n) {a : Addr} (hn : H a = none) (k : Kp G.p H H') (pn : Pen H' G.p G.c n') (e : H' a ≠ none) : RS G (a :: O) H' σ ρ n' := by
  have h' := h.step k pn
  refine ⟨pn, h'.kp, h.old, fun b m => ?_, fun j s z => ?_, h.dis, h.len⟩
  · rcases List.mem_cons.mp m with z | m
    · subst z; exact ⟨h.fresh0 hn, e, h.pen.newp hn, h.pen.newc hn⟩
    · exact h'.new b m
  · obtain ⟨o, e1, e2⟩ := h.sl j s z
    refine ⟨o, e1, ?_⟩
    have e3 : SlOk G.p H (a :: O) G.B o s := e2.kx (Kx.new hn) (fun _ _ _ q => q) fun _ m => List.mem_cons_of_mem _ m
    exact e3.kx (Kx.kp k h.pen) (fun b vs _ q => k.lst h.pen q) fun _ m => m
end
def dPar (i j : Nat) (k1 k2 : Bool) (t1 t2 : DE) : DSt := fun E ρ n => t1 ρ n fun d1 n1 => t2 ρ n1 fun d2 n2 =>
  match k1, k2, d1, d2 with
  | false, false, d1, d2 => E.nx ((ρ.set i (.val d1)).set j (.val d2)) n2
  | false, true, d1, .lst ys => E.nx ((ρ.set i (.val d1)).set j (.own ys)) n2
  | true, false, .lst xs, d2 => E.nx ((ρ.set i (.own xs)).set j (.val d2)) n2
  | true, true, .lst xs, .lst ys => E.nx ((ρ.set i (.own xs)).set j (.own ys)) n2
  | _, _, _, _ => False
section
variable {X : Cx} {G : Gx} {st : Stmt} {sts : List Stmt} {e c : Expr} {pos : Pos} {i j : Nat} {t1 t2 te : DE}
theorem ds_par (h : PS X st (tPar i j (tCons (LE G t1) (tCons (LE G t2) tNil)))) : PS X st (LS G (dPar i j false false t1 t2)) := PS.of h fun D σ H ⟨O, ρ, n, E, a, b, c⟩ =>
  ⟨O, ρ, n, _, a, b, fun d1 n1 v1 H1 b1 k1 p1 r1 => ⟨O, ρ, n1, _, a.step k1 p1, b1, fun d2 n2 v2 H2 b2 k2 p2 r2 => ⟨v1, v2, rfl, c.nx _ _ _ _ _ (((a.step (k1.trans k2) p2).set (r1.kx (Kx.kp k2 p1)) i).set r2 j) (Fr.kx (Kx.kp (k1.trans k2) a.pen)) b2⟩⟩⟩
theorem ds_parFF (h : PS X st (tPar i j (tCons (LEf G t1) (tCons (LEf G t2) tNil)))) : PS X st (LS G (dPar i j true true t1 t2)) := PS.of h fun D σ H ⟨O, ρ, n, E, a, b, c⟩ =>
  ⟨O, ρ, n, _, a, b, fun d1 n1 v1 H1 b1 k1 p1 r1 => by
    obtain ⟨l, vs, xs, rfl, rfl, hn, e, ra⟩ := r1
    have m1 := a.more hn k1 p1 (by rw [e]; exact fun z => nomatch z)
    refine ⟨l :: O, ρ, n1, _, m1, b1, fun d2 n2 v2 H2 b2 k2 p2 r2 => ?_⟩
    obtain ⟨l2, ws, ys, rfl, rfl, hn2, e2, ra2⟩ := r2
    have o1 := a.own hn k1 p1 e ra i
    exact ⟨_, _, rfl, c.nx _ _ _ _ _ (o1.own hn2 k2 p2 e2 ra2 j) ((Fr.own a hn k1).trans (Fr.own m1 hn2 k2)) b2⟩⟩
def dAppend (i : Nat) (t : DE) : DSt := fun E ρ n => match ρ[i]? with
  | some (.own xs) => t ρ n fun d n' => xs.length < 1000000 ∧ E.nx (ρ.set i (.own (xs ++ [d]))) n'
  | _ => False
theorem ds_app {K : PySem.W.Frag} (h : PS X st (tDrop (tBM K "list" rAppend (tVar i) (tCons (LE G te) tNil)))) : PS X st (LS G (dAppend i te)) := PS.of h fun D σ H ⟨O, ρ, n, E, a, b, c⟩ => by
  unfold dAppend at b
  split at b
  · next xs e =>
    obtain ⟨l, vs, e1, m, el, ra, _⟩ := a.mut (ys := []) e
    refine ⟨.ref l, e1, .inl ⟨rfl, _, sqL el⟩, ⟨O, ρ, n, _, a, b, fun d n' v H' r k p rv => ?_⟩⟩
    have a' := a.step k p
    obtain ⟨l', vs', e1', m', el', ra', mut'⟩ := a'.mut (ys := xs ++ [d]) e
    rw [e1] at e1'; cases e1'
    obtain ⟨rs, fr⟩ := mut' (vs' ++ [v]) (ra'.app (.cons rv .nil))
    exact ⟨l, vs', v, rfl, rfl, el', by rw [ra'.len]; exact Nat.lt_of_lt_of_le r.1 (by decide), c.nx _ _ _ _ _ rs ((Fr.kx (Kx.kp k a.pen)).trans fr) r.2⟩
  · cases b
/-- xs[k] = e -/
def dSetIx (i : Nat) (te tk : DE) : DSt := fun E ρ n => te ρ n fun d n1 => match ρ[i]? with
  | some (.own xs) => tk ρ n1 fun kd n2 => match kd with
    | .int k => ∃ j, ixN xs.length k = some j ∧ E.nx (ρ.set i (.own (xs.set j d))) n2
    | _ => False
  | _ => False
abbrev DG := D → List Sl → (List Sl → Prop) → Prop
abbrev DGs := List D → List Sl → (List Sl → Prop) → Prop
def dgName (i : Nat) : DG := fun d ρ R => R (ρ.set i (.val d))
def dgNil : DGs := fun ds ρ R => match ds with
  | [] => R ρ
  | _ => False
def dgCons (g : DG) (u : DGs) : DGs := fun ds ρ R => match ds with
  | d :: ds => g d ρ fun ρ' => u ds ρ' R
  | _ => False
def dgTup (m : Nat) (u : DGs) : DG := fun d ρ R => match d with
  | .tup ds => ds.length = m ∧ u ds ρ R
  | _ => False
def LG (G : Gx) (vs : List Nat) (g : DG) : TG := fun v σ H Q => ∃ O ρ n d R, RS G O H σ ρ n ∧ Rp G.p H (O ++ G.B) v d ∧ g d ρ R ∧ ∀ σ' ρ', RS G O H σ' ρ' n → R ρ' → (∀ k, k ∉ vs → σ'[k]? = σ[k]?) → σ'.length = σ.length → Q σ' H
def LGs (G : Gx) (vs : List Nat) (g : DGs) : TGs := fun us σ H Q => ∃ O ρ n ds R, RS G O H σ ρ n ∧ RpAll G.p H (O ++ G.B) us ds ∧ g ds ρ R ∧ ∀ σ' ρ', RS G O H σ' ρ' n → R ρ' → (∀ k, k ∉ vs → σ'[k]? = σ[k]?) → σ'.length = σ.length → Q σ' H
theorem PG.of {tg : Expr} {t t' : TG} (h : PG X tg t) (k : ∀ v σ H Q, t' v σ H Q → t v σ H Q) : PG X tg t' := fun pins s σ H v u Q I r q => h pins s σ H v u Q I r (k v σ H Q q)
theorem PGs.of {tg : List Expr} {t t' : TGs} (h : PGs X tg t) (k : ∀ v σ H Q, t' v σ H Q → t v σ H Q) : PGs X tg t' := fun pins s σ H v u Q I r q => h pins s σ H v u Q I r (k v σ H Q q)
variable {vs : List Nat} {tg : Expr} {tgs : List Expr} {g : DG} {u : DGs}
theorem dg_name (h : PG X tg (gName i)) (m : i ∈ vs := by decide) : PG X tg (LG G vs (dgName i)) := PG.of h fun v σ H Q ⟨O, ρ, n, d, R, a, r, b, c⟩ =>
  c _ _ (a.set r i) b (fun k hk => List.getElem?_set_ne (fun z => hk (by rw [← z]; exact m))) List.length_set
theorem dgs_nil : PGs X [] (LGs G vs dgNil) := PGs.of pgs_nil fun us σ H Q ⟨O, ρ, n, ds, R, a, r, b, c⟩ => by
  unfold dgNil at b
  split at b
  · cases r; exact ⟨rfl, c _ _ a b (fun _ _ => rfl) rfl⟩
  · cases b
theorem dgs_cons (h1 : PG X tg (LG G vs g)) (h2 : PGs X tgs (LGs G vs u)) (hs : (assignEach (tg :: tgs) X.env).map (·.2) = assign tg X.env :: (assignEach tgs X.env).map (·.2) := by rfl) : PGs X (tg :: tgs) (LGs G vs (dgCons g u)) := PGs.of (pgs_cons h1 h2 hs) fun us σ H Q ⟨O, ρ, n, ds, R, a, r, b, c⟩ => by
  unfold dgCons at b
  split at b
  · cases r with
    | cons r1 r2 => exact ⟨_, _, rfl, O, ρ, n, _, _, a, r1, b, fun σ' ρ' a' q k l => ⟨O, ρ', n, _, R, a', r2, q, fun σ2 ρ2 a2 q2 k2 l2 => c _ _ a2 q2 (fun m hm => (k2 m hm).trans (k m hm)) (l2.trans l)⟩⟩
  · cases b
theorem dg_tup {k m : Nat} (hc : X.calm = true) (h : PGs X tgs (LGs G vs u)) (hn : (assignEach tgs X.env).length = m := by rfl) (hst : (assignEach tgs X.env).findIdx? (·.1) = none := by rfl) : PG X (.Tuple tgs k pos) (LG G vs (dgTup m u)) := PG.of (pg_tup hc h hn hst) fun v σ H Q ⟨O, ρ, n, d, R, a, r, b, c⟩ => by
  unfold dgTup at b
  split at b
  · cases r with
    | tup e ra => exact ⟨_, _, rfl, sqT e, by rw [ra.len]; exact b.1, O, ρ, n, _, R, a, ra, b.2, c⟩
  · cases b
/-- (a, b) = e, any -/
def dAsg (t : DE) (g : DG) : DSt := fun E ρ n => t ρ n fun d n' => g d ρ fun ρ' => E.nx ρ' n'
theorem ds_asg (h : PS X st (tAsg (LE G te) (LG G vs g))) : PS X st (LS G (dAsg te g)) := PS.of h fun D σ H ⟨O, ρ, n, E, a, b, c⟩ =>
  ⟨O, ρ, n, _, a, b, fun d n' v H' r k p rv => ⟨O, ρ, n', d, _, a.step k p, rv, r, fun σ' ρ' a' q _ _ => c.nx _ _ _ _ _ a' (Fr.kx (Kx.kp k a.pen)) q⟩⟩
/-- the iterator J walks its, as long as what is clean stays so -/
def ItD (G : Gx) (J : It) (its : List D) (O : List Addr) (H : Hp) : Prop := ∀ O' H', Fr G O H O' H' → (∀ i, i < its.length → J.go i H') ∧ J.stop its.length H' ∧ ∀ i d x H'', its[i]? = some d → J.yld i H' x H'' → Same H' H'' ∧ Rp G.p H'' (O' ++ G.B) x d
/-- as long as own lists stay, too -/
def FrC (G : Gx) (O : List Addr) (H : Hp) (O' : List Addr) (H' : Hp) : Prop := Fr G O H O' H' ∧ ∀ a vs, a ∈ O → H a = some (.lst vs) → H' a = some (.lst vs)
def ItC (G : Gx) (J : It) (its : List D) (O : List Addr) (H : Hp) : Prop := ∀ O' H', FrC G O H O' H' → (∀ i, i < its.length → J.go i H') ∧ J.stop its.length H' ∧ ∀ i d x H'', its[i]? = some d → J.yld i H' x H'' → Same H' H'' ∧ Rp G.p H'' (O' ++ G.B) x d
abbrev DI := List Sl → Nat → (List D → Nat → Prop) → Prop
def LIr (G : Gx) (I : It → List D → List Addr → Hp → Prop) (t : DI) : TI := fun σ H R => ∃ O ρ n Rd, RS G O H σ ρ n ∧ t ρ n Rd ∧ ∀ its n' J H', Rd its n' → Kp G.p H H' → Pen H' G.p G.c n' → I J its O H' → R J H'
abbrev LI (G : Gx) (t : DI) : TI := LIr G (ItD G) t
abbrev LIc (G : Gx) (t : DI) : TI := LIr G (ItC G) t
theorem PI.of {tg e : Expr} {t t' : TI} (h : PI X tg e t) (k : ∀ σ H R, t' σ H R → t σ H R) : PI X tg e t' := fun pins s σ H R I q => h pins s σ H R I (k σ H R q)
theorem LI.cc {t : DI} (h : PI X tg e (LI G t)) : PI X tg e (LIc G t) := PI.of h fun σ H R ⟨O, ρ, n, Rd, a, b, c⟩ => ⟨O, ρ, n, Rd, a, b, fun its n' J H' r k p q => c its n' J H' r k p fun O' H'' f => q O' H'' f.1⟩
/-- a list, a tuple, a text -/
def iSeq (K : PySem.W.Frag) (tl : TE) : TI := fun σ H R => tl σ H fun x H1 => (∃ a, x = .ref a ∧ (∃ xs, SqL K H1 a xs) ∧ R (Itl K a) H1) ∨ (∃ a, x = .ref a ∧ (∃ xs, SqT K H1 a xs) ∧ R (Itt K a) H1) ∨ ∃ z, x = .str z ∧ R (Its z) H1
theorem pi_seq {l : Expr} {tl : TE} (hl : PE X l tl) : PI X tg l (iSeq X.K tl) := by
  intro pins s σ H R I h
  refine thn (hl pins s σ H _ I h) fun v s1 ⟨x, H1, I1, r1, q1⟩ => ?_
  rcases q1 with ⟨a, e, ⟨xs, hq⟩, q⟩ | ⟨a, e, ⟨xs, hq⟩, q⟩ | ⟨z, e, q⟩
  · subst e
    cases r1
    obtain ⟨its, rv, p, hz⟩ := I1.list hq
    refine wpAny_pyIter_list p.isList ?_
    refine ⟨s1.heap.objs.size, [s1.heap.objs.size], _, _, H1, rfl, I1.kept (t' := s1.toks) fun b o e => Heap.get?_push_of_some _ e, turn_list a _, ⟨_, Heap.get?_push_size _ rfl, rfl, rfl⟩, fun b hb => ?_, q⟩
    have e : b = s1.heap.objs.size := by simpa using hb
    subst e
    exact I1.fpOk (Nat.le_refl _) (I1.hok.fresh (Nat.le_refl _))
  · subst e
    cases r1
    obtain ⟨its, rv, p, hz⟩ := I1.tuple hq
    refine wpAny_pyIter_tuple (show s1.heap.IsTuple a its.toArray from p) ?_
    refine ⟨s1.heap.objs.size, [s1.heap.objs.size], _, _, H1, rfl, I1.kept (t' := s1.toks) fun b o e => Heap.get?_push_of_some _ e, turn_tuple a _, ⟨_, Heap.get?_push_size _ rfl, rfl, rfl⟩, fun b hb => ?_, q⟩
    have e : b = s1.heap.objs.size := by simpa using hb
    subst e
    exact I1.fpOk (Nat.le_refl _) (I1.hok.fresh (Nat.le_refl _))
  · subst e
    obtain ⟨t, rfl⟩ := r1
    cases ha : z.cps.all (· < 128)
    · exact wpAny_pyIter_wide ha (pi_one (tk := s1.toks) I1 _ (turn_str _ z t "str_iterator" (.inr rfl)) ⟨_, Heap.get?_push_size _ rfl, rfl, rfl⟩ q)
    · exact wpAny_pyIter_ascii ha (pi_one (tk := s1.toks) I1 _ (turn_str _ z t "str_ascii_iterator" (.inl rfl)) ⟨_, Heap.get?_push_size _ rfl, rfl, rfl⟩ q)
def signs (x : Str) : List D := x.cps.toList.map fun c => D.str ⟨#[c]⟩
def seqQ : D → (List D → Prop) → Prop
  | .lst xs, R => R xs
  | .tup xs, R => R xs
  | .str x, R => R (signs x)
  | _, _ => False
def dSeqI (t : DE) : DI := fun ρ n R => t ρ n fun d n' => seqQ d fun its => R its n'
theorem it_list {I : Hp → List Addr → Prop} {K : PySem.W.Frag} {a : Addr} {xs : List D} (h : ∀ O' H', I H' O' → ∃ vs, H' a = some (.lst vs) ∧ RpAll G.p H' (O' ++ G.B) vs xs) (O' : List Addr) (H' : Hp) (f : I H' O') :
    (∀ i, i < xs.length → (Itl K a).go i H') ∧ (Itl K a).stop xs.length H' ∧ ∀ i d x H'', xs[i]? = some d → (Itl K a).yld i H' x H'' → Same H' H'' ∧ Rp G.p H'' (O' ++ G.B) x d := by
  obtain ⟨vs, e, ra⟩ := h O' H' f
  have l := ra.len
  refine ⟨fun i hi => ⟨vs, vs[i]'(by omega), sqL e, List.getElem?_eq_getElem _⟩, ⟨vs, sqL e, by omega⟩, fun i d x H'' hd hy => ?_⟩
  obtain ⟨rfl, hx⟩ := hy
  obtain ⟨v, hv, rv⟩ := ra.at hd
  have := hx vs (sqL e)
  rw [this] at hv; cases hv
  exact ⟨fun _ _ z => z, rv⟩
theorem it_tup {I : Hp → List Addr → Prop} {K : PySem.W.Frag} {a : Addr} {xs : List D} (h : ∀ O' H', I H' O' → ∃ vs, H' a = some (.tup vs) ∧ RpAll G.p H' (O' ++ G.B) vs xs) (O' : List Addr) (H' : Hp) (f : I H' O') :
    (∀ i, i < xs.length → (Itt K a).go i H') ∧ (Itt K a).stop xs.length H' ∧ ∀ i d x H'', xs[i]? = some d → (Itt K a).yld i H' x H'' → Same H' H'' ∧ Rp G.p H'' (O' ++ G.B) x d := by
  obtain ⟨vs, e, ra⟩ := h O' H' f
  have l := ra.len
  refine ⟨fun i hi => ⟨vs, vs[i]'(by omega), sqT e, List.getElem?_eq_getElem _⟩, ⟨vs, sqT e, by omega⟩, fun i d x H'' hd hy => ?_⟩
  obtain ⟨rfl, hx⟩ := hy
  obtain ⟨v, hv, rv⟩ := ra.at hd
  have := hx vs (sqT e)
  rw [this] at hv; cases hv
  exact ⟨fun _ _ z => z, rv⟩
theorem it_str {z : Str} (O' : List Addr) (H' : Hp) :
    (∀ i, i < (signs z).length → (Its z).go i H') ∧ (Its z).stop (signs z).length H' ∧ ∀ i d x H'', (signs z)[i]? = some d → (Its z).yld i H' x H'' → Same H' H'' ∧ Rp G.p H'' (O' ++ G.B) x d := by
  have l : (signs z).length = z.cps.size := by unfold signs; rw [List.length_map, Array.length_toList]
  refine ⟨fun i hi => by rw [l] at hi; exact hi, (by rw [l]; exact Nat.le_refl _), fun i d x H'' hd hy => ?_⟩
  obtain ⟨rfl, c, hc, rfl⟩ := hy
  unfold signs at hd
  rw [List.getElem?_map, Array.getElem?_toList, hc] at hd
  cases hd
  exact ⟨fun _ _ z => z, .str _⟩
theorem cleanL {O O' : List Addr} {H H' : Hp} {a : Addr} {xs : List D} (f : Fr G O H O' H') (r : Rp G.p H (O ++ G.B) (.ref a) (.lst xs)) : ∃ vs, H' a = some (.lst vs) ∧ RpAll G.p H' (O' ++ G.B) vs xs := by
  cases f _ _ r with
  | lst e _ ra => exact ⟨_, e, ra⟩
theorem cleanT {O O' : List Addr} {H H' : Hp} {a : Addr} {xs : List D} (f : Fr G O H O' H') (r : Rp G.p H (O ++ G.B) (.ref a) (.tup xs)) : ∃ vs, H' a = some (.tup vs) ∧ RpAll G.p H' (O' ++ G.B) vs xs := by
  cases f _ _ r with
  | tup e ra => exact ⟨_, e, ra⟩
theorem di_seq {t : DE} (h : PE X e (LE G t)) : PI X tg e (LI G (dSeqI t)) := PI.of (pi_seq h) fun σ H R ⟨O, ρ, n, Rd, a, b, c⟩ => by
  refine ⟨O, ρ, n, _, a, b, fun d n' v H' r k p rv => ?_⟩
  unfold seqQ at r
  split at r
  · cases rv with
    | lst e nb ra => exact .inl ⟨_, rfl, ⟨_, sqL e⟩, c _ _ _ _ r k p fun O' H'' f => it_list (I := fun H2 O2 => Fr G O H' O2 H2) (fun O2 H2 f2 => cleanL f2 (.lst e nb ra)) O' H'' f⟩
  · cases rv with
    | tup e ra => exact .inr (.inl ⟨_, rfl, ⟨_, sqT e⟩, c _ _ _ _ r k p fun O' H'' f => it_tup (I := fun H2 O2 => Fr G O H' O2 H2) (fun O2 H2 f2 => cleanT f2 (.tup e ra)) O' H'' f⟩)
  · cases rv
    exact .inr (.inr ⟨_, rfl, c _ _ _ _ r k p fun O' H'' f => it_str O' H''⟩)
  · cases r
/-- .. in a comprehension an own list may be walked -/
theorem di_seqc {t : DE} (h : PE X e (LEs G t)) : PI X tg e (LIc G (dSeqI t)) := PI.of (pi_seq h) fun σ H R ⟨O, ρ, n, Rd, a, b, c⟩ => by
  refine ⟨O, ρ, n, _, a, b, fun d n' v H' r k p rv => ?_⟩
  unfold seqQ at r
  split at r
  · rcases rv with rv | ⟨l, vs, xs', e1, e2, m, e, ra⟩
    · cases rv with
      | lst e nb ra => exact .inl ⟨_, rfl, ⟨_, sqL e⟩, c _ _ _ _ r k p fun O' H'' f => it_list (I := fun H2 O2 => Fr G O H' O2 H2) (fun O2 H2 f2 => cleanL f2 (.lst e nb ra)) O' H'' f.1⟩
    · subst e1; cases e2
      exact .inl ⟨_, rfl, ⟨_, sqL e⟩, c _ _ _ _ r k p fun O' H'' f => it_list (I := fun H2 O2 => FrC G O H' O2 H2) (fun O2 H2 f2 => ⟨vs, f2.2 _ _ m e, f2.1.all ra⟩) O' H'' f⟩
  · obtain ⟨l, vs, rfl, e, ra⟩ := Rv.tup rv
    exact .inr (.inl ⟨_, rfl, ⟨_, sqT e⟩, c _ _ _ _ r k p fun O' H'' f => it_tup (I := fun H2 O2 => Fr G O H' O2 H2) (fun O2 H2 f2 => cleanT f2 (.tup e ra)) O' H'' f.1⟩)
  · cases Rv.str rv
    exact .inr (.inr ⟨_, rfl, c _ _ _ _ r k p fun O' H'' f => it_str O' H''⟩)
  · cases r
def rangeL (lo : Int) (m : Nat) : List D := (List.range m).map fun k : Nat => D.int (lo + k)
theorem rangeL_len {lo : Int} {m : Nat} : (rangeL lo m).length = m := by unfold rangeL; rw [List.length_map, List.length_range]
theorem it_range {lo : Int} {m : Nat} (O' : List Addr) (H' : Hp) :
    (∀ i, i < (rangeL lo m).length → (Itr lo m).go i H') ∧ (Itr lo m).stop (rangeL lo m).length H' ∧ ∀ i d x H'', (rangeL lo m)[i]? = some d → (Itr lo m).yld i H' x H'' → Same H' H'' ∧ Rp G.p H'' (O' ++ G.B) x d := by
  refine ⟨fun i hi => by rw [rangeL_len] at hi; exact hi, (by rw [rangeL_len]; exact Nat.le_refl _), fun i d x H'' hd hy => ?_⟩
  obtain ⟨rfl, rfl⟩ := hy
  unfold rangeL at hd
  rw [List.getElem?_map] at hd
  cases hk : (List.range m)[i]? with
  | none => rw [hk] at hd; cases hd
  | some k =>
    rw [hk] at hd
    have : k = i := by
      have := List.getElem?_eq_some_iff.mp hk
      obtain ⟨_, z⟩ := this
      rw [List.getElem_range] at z; exact z.symm
    subst this
    cases hd
    exact ⟨fun _ _ z => z, .int _⟩
def dRng1 (u : DA) : DI := fun ρ n R => u ρ n fun ds n' => match ds with
  | [.int j] => j < 2 ^ 62 ∧ -(2 ^ 62) ≤ j ∧ R (rangeL 0 j.toNat) n'
  | _ => False
def dRng2 (u : DA) : DI := fun ρ n R => u ρ n fun ds n' => match ds with
  | [.int i, .int j] => (-(2 ^ 62) ≤ i ∧ i < 2 ^ 62 ∧ -(2 ^ 62) ≤ j ∧ j < 2 ^ 62) ∧ R (rangeL i (j - i).toNat) n'
  | _ => False
theorem di_range1 {u : DA} (h : PI X tg e (iRng1 (LA G u))) : PI X tg e (LI G (dRng1 u)) := PI.of h fun σ H R ⟨O, ρ, n, Rd, a, b, c⟩ => by
  refine ⟨O, ρ, n, _, a, b, fun ds n' vs H' r k p rv => ?_⟩
  split at r
  · cases rv with
    | cons r1 r2 => cases r2; cases r1; exact ⟨_, rfl, r.2.1, r.1, c _ _ _ _ r.2.2 k p fun O' H'' f => it_range O' H''⟩
  · cases r
def zipL (xs ys : List D) : List D := List.zipWith (fun x y => D.tup [x, y]) xs ys
def dZip (u : DA) : DI := fun ρ n R => u ρ n fun ds n' => match ds with
  | [.tup xs, .tup ys] => R (zipL xs ys) n'
  | _ => False
def enumL (xs : List D) : List D := xs.zipIdx.map fun p : D × Nat => D.tup [.int (p.2 : Int), p.1]
def dEnum (u : DA) : DI := fun ρ n R => u ρ n fun ds n' => match ds with
  | [.lst xs] => R (enumL xs) n'
  | _ => False
end
end Gg

namespace Gg
open PySem PySem.Spec PyProof.Rows L2
def wipeS (ρ : List Sl) : List Nat → List Sl
  | [] => ρ
  | v :: vs => (wipeS ρ vs).set v .no
section
variable {G : Gx} {O : List Addr} {H H' : Hp} {σ : L2.St} {ρ : List Sl} {n n' : Nat}
theorem RS.clear (h : RS G O H σ ρ n) (i : Nat) : RS G O H (σ.set i none) (ρ.set i .no) n := by
  refine ⟨h.pen, h.kp, h.old, h.new, fun j s e => ?_, fun j k a xs ys e1 e2 f1 f2 => ?_, by rw [List.length_set, List.length_set, h.len]⟩
  · rcases get_set e with ⟨rfl, rfl, hl⟩ | ⟨ne, e⟩
    · exact ⟨none, by rw [List.getElem?_set_self (by rw [← h.len]; exact hl)], trivial⟩
    · obtain ⟨o, e1, e2⟩ := h.sl j s e
      exact ⟨o, by rw [List.getElem?_set_ne ne]; exact e1, e2⟩
  · rcases get_set e1 with ⟨_, z, _⟩ | ⟨n1, e1⟩
    · cases z
    rcases get_set e2 with ⟨_, z, _⟩ | ⟨n2, e2⟩
    · cases z
    rw [List.getElem?_set_ne n1] at f1
    rw [List.getElem?_set_ne n2] at f2
    exact h.dis j k a xs ys e1 e2 f1 f2
theorem RS.wipe (h : RS G O H σ ρ n) : ∀ vs : List Nat, RS G O H (L2.wipe σ vs) (wipeS ρ vs) n
  | [] => h
  | v :: vs => (RS.wipe h vs).clear v
theorem wipe_get (σ : L2.St) : ∀ (vs : List Nat) (k : Nat), (L2.wipe σ vs)[k]? = if k ∈ vs then (if k < σ.length then some none else none) else σ[k]?
  | [], k => by simp [L2.wipe]
  | v :: vs, k => by
    show ((L2.wipe σ vs).set v none)[k]? = _
    by_cases e : v = k
    · subst e
      by_cases hl : v < σ.length
      · rw [List.getElem?_set_self (by rw [wipe_length]; exact hl), if_pos (List.mem_cons_self ..), if_pos hl]
      · rw [List.getElem?_eq_none (by rw [List.length_set, wipe_length]; omega), if_pos (List.mem_cons_self ..), if_neg hl]
    · rw [List.getElem?_set_ne e, wipe_get σ vs k]
      by_cases m : k ∈ vs
      · rw [if_pos m, if_pos (List.mem_cons_of_mem _ m)]
      · rw [if_neg m, if_neg (fun z => (List.mem_cons.mp z).elim (fun q => e q.symm) m)]
theorem wipe_ext {σ' : L2.St} {vs : List Nat} (h : ∀ k, k ∉ vs → σ'[k]? = (L2.wipe σ vs)[k]?) (l : σ'.length = (L2.wipe σ vs).length) : L2.wipe σ' vs = L2.wipe σ vs := by
  apply List.ext_getElem?
  intro k
  rw [wipe_get, wipe_get]
  rw [wipe_length] at l
  by_cases m : k ∈ vs
  · rw [if_pos m, if_pos m, l]
  · rw [if_neg m, if_neg m, h k m, wipe_get, if_neg m]
end
def dLcL (g : DG) (tt : DT) (te : DE) (ρw : List Sl) : List D → List D → Nat → (D → Nat → Prop) → Prop
  | [], acc, n, R => R (.lst acc) n
  | d :: ds, acc, n, R => g d ρw fun ρ' => tt ρ' n fun b n1 => if b = true then te ρ' n1 fun r n2 => dLcL g tt te ρw ds (acc ++ [r]) n2 R else dLcL g tt te ρw ds acc n1 R
def dLc (t : DI) (g : DG) (tt : DT) (te : DE) (vs : List Nat) : DE := fun ρ n R => t ρ n fun its n' => its.length ≤ 1000000 ∧ dLcL g tt te (wipeS ρ vs) its [] n' R
def dYes : DT := fun _ n R => R true n
section
variable {X : Cx} {G : Gx} {st : Stmt} {e c : Expr} {pos : Pos} {vs : List Nat} {t : DI} {g : DG} {tt : DT} {te : DE}
theorem PTs.of {es : List Expr} {t t' : TT} (h : PTs X es t) (k : ∀ σ H Q, t' σ H Q → t σ H Q) : PTs X es t' := fun pins s σ H Q I q => h pins s σ H Q I (k σ H Q q)
theorem dts_nil : PTs X [] (LT G dYes) := PTs.of pts_nil fun σ H Q ⟨O, ρ, n, R, a, b, c⟩ => c _ _ _ b Kp.refl a.pen
theorem dts_one (h : PT X c (LT G tt)) : PTs X [c] (LT G tt) := pts_one h
theorem lc_lift {σ : L2.St} {H : Hp} {Q : VK} (h : LEf G (dLc t g tt te vs) σ H Q) : tLc (LIc G t) (LG G vs g) (LT G tt) (LE G te) vs σ H Q := by
  obtain ⟨O, ρ, n, R, a, b, c⟩ := h
  refine ⟨O, ρ, n, _, a, b, fun its n1 J H1 r1 k1 p1 itc => fun Dd hD => ?_⟩
  obtain ⟨small, r1⟩ := r1
  have a1 := (a.step k1 p1).wipe vs
  have ad := a.step k1 p1
  have more : ∀ {H2 : Hp} {n2 : Nat}, Kp G.p H1 H2 → Pen H2 G.p G.c n2 → H2 Dd ≠ none → RS G (Dd :: O) H2 (L2.wipe σ vs) (wipeS ρ vs) n2 := fun k p e => a1.more hD k p e
  have frc : ∀ {H2 : Hp}, Kp G.p H1 H2 → FrC G O H1 (Dd :: O) H2 := fun k => ⟨fun v d r => (r.kx (Kx.new hD)).kx (Kx.kp k p1), fun b us _ e => k.lst p1 e⟩
  have nDp := p1.newp hD
  have nDc := p1.newc hD
  refine ⟨fun i m H2 => m = its.length - i ∧ i ≤ its.length ∧ ∃ acc us n2, H2 Dd = some (.lst us) ∧ RpAll G.p H2 (Dd :: (O ++ G.B)) us acc ∧ acc.length ≤ i ∧ Kp G.p H1 H2 ∧ Pen H2 G.p G.c n2 ∧ dLcL g tt te (wipeS ρ vs) (its.drop i) acc n2 R,
    ⟨its.length, by simp, Nat.zero_le _, [], [], n1, upd_same, .nil, Nat.le_refl _, Kp.new hD, p1.upd nDp nDc, by rw [List.drop_zero]; exact r1⟩, ?_⟩
  rintro i m H2 ⟨rfl, hi, acc, us, n2, eD, ra, la, kp, p2, q⟩
  have neD : H2 Dd ≠ none := by rw [eD]; exact fun z => nomatch z
  obtain ⟨go, stop, yld⟩ := itc (Dd :: O) H2 (frc kp)
  by_cases hlt : i < its.length
  · have ed : its.drop i = its[i] :: its.drop (i + 1) := List.drop_eq_getElem_cons hlt
    rw [ed] at q
    refine .inr ⟨go i hlt, fun H' => ∃ acc us n2, H' Dd = some (.lst us) ∧ RpAll G.p H' (Dd :: (O ++ G.B)) us acc ∧ acc.length ≤ i + 1 ∧ Kp G.p H1 H' ∧ Pen H' G.p G.c n2 ∧ dLcL g tt te (wipeS ρ vs) (its.drop (i + 1)) acc n2 R, fun H' z => ⟨its.length - (i + 1), by omega, rfl, hlt, z⟩, fun x H3 hy => ?_⟩
    obtain ⟨sm, rx⟩ := yld i its[i] x H3 (List.getElem?_eq_getElem hlt) hy
    have p3 := p2.keep sm
    have kp3 : Kp G.p H1 H3 := kp.trans (Kp.of_same sm)
    refine ⟨Dd :: O, wipeS ρ vs, n2, its[i], _, more kp3 p3 (by rw [sm _ _ eD]; exact fun z => nomatch z), rx, q, fun σ' ρ' a' q' hk hl => ⟨wipe_ext hk hl, Dd :: O, ρ', n2, _, a', q', fun bb n3 H5 q5 k5 p5 => ?_⟩⟩
    have kp5 : Kp G.p H1 H5 := kp3.trans k5
    have ra5 : RpAll G.p H5 (Dd :: (O ++ G.B)) us acc := (ra.kx (Kx.same sm)).kx (Kx.kp k5 p3)
    have eD5 : H5 Dd = some (.lst us) := k5.lst p3 (sm _ _ eD)
    cases bb with
    | false =>
      simp only [Bool.false_eq_true, if_false] at q5 ⊢
      exact ⟨acc, us, n3, eD5, ra5, by omega, kp5, p5, q5⟩
    | true =>
      simp only [if_true] at q5 ⊢
      refine ⟨Dd :: O, ρ', n3, _, a'.step k5 p5, q5, fun r n4 v H6 q6 k6 p6 rv => ?_⟩
      have eD6 : H6 Dd = some (.lst us) := k6.lst p5 eD5
      refine ⟨us, eD6, ?_, acc ++ [r], us ++ [v], n4, upd_same, ?_, by rw [List.length_append]; show acc.length + 1 ≤ i + 1; omega, (kp5.trans k6).put hD, p6.upd nDp nDc, q6⟩
      · rw [ra5.len]; exact Nat.lt_of_lt_of_le (show acc.length < 1000001 by omega) (by decide)
      · exact ((ra5.kx (Kx.kp k6 p5)).app (.cons rv .nil)).kx (Kx.put eD6 (List.mem_cons_self ..))
  · have e : i = its.length := by omega
    subst e
    rw [List.drop_length] at q
    exact .inl ⟨stop, c _ _ _ _ q (k1.trans kp) p2 ⟨Dd, us, acc, rfl, rfl, k1.none p1.some hD, eD, ra⟩⟩
theorem de_lc (h : PE X e (tLc (LIc G t) (LG G vs g) (LT G tt) (LE G te) vs)) : PE X e (LEf G (dLc t g tt te vs)) := PE.of h fun _ _ _ h => lc_lift h
/-- name = [..] -/
theorem ds_setLc {i : Nat} (h : PS X st (tAsg (tLc (LIc G t) (LG G vs g) (LT G tt) (LE G te) vs) (gName i))) : PS X st (tAsg (LEf G (dLc t g tt te vs)) (gName i)) := PS.of h fun D σ H q => lc_lift q
theorem ds_f {i : Nat} {te : DE} (h : PS X st (tAsg (LEf G te) (gName i))) : PS X st (tAsg (LE G te) (gName i)) := PS.of h fun D σ H ⟨O, ρ, n, R, a, b, c⟩ => ⟨O, ρ, n, R, a, b, fun d n' v H' r k p q => c d n' v H' r k p (q.clean a.all)⟩
def dLoop (g : DG) (tb : DSt) (E : DEnds) : List D → List Sl → Nat → Prop
  | [], ρ, n => E.nx ρ n
  | d :: ds, ρ, n => g d ρ fun ρ' => tb ⟨dLoop g tb E ds, E.rt, E.nx, dLoop g tb E ds⟩ ρ' n
def dFor (t : DI) (g : DG) (tb : DSt) : DSt := fun E ρ n => t ρ n fun its n' => dLoop g tb E its ρ n'
theorem ds_for {tb : DSt} (h : PS X st (tFor (LI G t) (LG G vs g) (LS G tb))) : PS X st (LS G (dFor t g tb)) := PS.of h fun D σ H ⟨O, ρ, n, E, a, b, c⟩ => by
  refine ⟨O, ρ, n, _, a, b, fun its n1 J H1 r1 k1 p1 itd => ?_⟩
  have f1 : Fr G O H O H1 := Fr.kx (Kx.kp k1 a.pen)
  refine ⟨fun i m σ2 H2 => m = its.length - i ∧ i ≤ its.length ∧ ∃ O2 ρ2 n2, RS G O2 H2 σ2 ρ2 n2 ∧ Fr G O H1 O2 H2 ∧ dLoop g tb E (its.drop i) ρ2 n2, ⟨its.length, by simp, Nat.zero_le _, O, ρ, n1, a.step k1 p1, Fr.refl, by rw [List.drop_zero]; exact r1⟩, ?_⟩
  rintro i m σ2 H2 ⟨rfl, hi, O2, ρ2, n2, a2, f2, q⟩
  obtain ⟨go, stop, yld⟩ := itd O2 H2 f2
  by_cases hlt : i < its.length
  · have ed : its.drop i = its[i] :: its.drop (i + 1) := List.drop_eq_getElem_cons hlt
    rw [ed] at q
    refine .inr ⟨go i hlt, fun σ' H' => ∃ O2 ρ2 n2, RS G O2 H' σ' ρ2 n2 ∧ Fr G O H1 O2 H' ∧ dLoop g tb E (its.drop (i + 1)) ρ2 n2, fun σ' H' z => ⟨its.length - (i + 1), by omega, rfl, hlt, z⟩, fun x H3 hy => ?_⟩
    obtain ⟨sm, rx⟩ := yld i its[i] x H3 (List.getElem?_eq_getElem hlt) hy
    have f3 : Fr G O H1 O2 H3 := f2.trans (Fr.kx (Kx.same sm))
    refine ⟨O2, ρ2, n2, its[i], _, a2.same sm, rx, q, fun σ' ρ' a' q' _ _ => ⟨O2, ρ', n2, _, a', q', ⟨fun O4 σ4 H4 ρ4 n4 a4 f4 q4 => ⟨O4, ρ4, n4, a4, f3.trans f4, q4⟩, c.rt, fun O4 σ4 H4 ρ4 n4 a4 f4 q4 => c.nx _ _ _ _ _ a4 (f1.trans (f3.trans f4)) q4, fun O4 σ4 H4 ρ4 n4 a4 f4 q4 => ⟨O4, ρ4, n4, a4, f3.trans f4, q4⟩⟩⟩⟩
  · have e : i = its.length := by omega
    subst e
    rw [List.drop_length] at q
    exact .inl ⟨stop, c.nx _ _ _ _ _ a2 (f1.trans f2) q⟩
def dWhile (c : DT) (tb : DSt) : DSt := fun E ρ n => ∃ W : Nat → List Sl → Nat → Prop, (∃ m, W m ρ n) ∧ ∀ m ρ n, W m ρ n → c ρ n fun b n1 => if b = true then tb ⟨fun ρ' n' => ∃ m', m' < m ∧ W m' ρ' n', E.rt, E.nx, fun ρ' n' => ∃ m', m' < m ∧ W m' ρ' n'⟩ ρ n1 else E.nx ρ n1
theorem ds_while {tc : DT} {tb : DSt} (h : PS X st (tWhile (LT G tc) (LS G tb))) : PS X st (LS G (dWhile tc tb)) := PS.of h fun D σ H ⟨O, ρ, n, E, a, b, c⟩ => by
  obtain ⟨W, ⟨m0, w0⟩, turn⟩ := b
  refine ⟨fun m σ2 H2 => ∃ O2 ρ2 n2, RS G O2 H2 σ2 ρ2 n2 ∧ Fr G O H O2 H2 ∧ W m ρ2 n2, ⟨m0, O, ρ, n, a, Fr.refl, w0⟩, ?_⟩
  rintro m σ2 H2 ⟨O2, ρ2, n2, a2, f2, w⟩
  refine ⟨O2, ρ2, n2, _, a2, turn m ρ2 n2 w, fun bb n3 H3 q k p => ?_⟩
  have f3 : Fr G O H O2 H3 := f2.trans (Fr.kx (Kx.kp k a2.pen))
  cases bb with
  | false => simp only [Bool.false_eq_true, if_false] at q ⊢; exact c.nx _ _ _ _ _ (a2.step k p) f3 q
  | true =>
    simp only [if_true] at q ⊢
    exact ⟨fun σ' H' => ∃ O2 ρ2 n2 m', RS G O2 H' σ' ρ2 n2 ∧ Fr G O H O2 H' ∧ m' < m ∧ W m' ρ2 n2, fun σ' H' ⟨O4, ρ4, n4, m', x1, x2, x3, x4⟩ => ⟨m', x3, O4, ρ4, n4, x1, x2, x4⟩, O2, ρ2, n3, _, a2.step k p, q,
      ⟨fun O4 σ4 H4 ρ4 n4 a4 f4 ⟨m', x1, x2⟩ => ⟨O4, ρ4, n4, m', a4, f3.trans f4, x1, x2⟩, c.rt, fun O4 σ4 H4 ρ4 n4 a4 f4 q4 => c.nx _ _ _ _ _ a4 (f3.trans f4) q4, fun O4 σ4 H4 ρ4 n4 a4 f4 ⟨m', x1, x2⟩ => ⟨O4, ρ4, n4, m', a4, f3.trans f4, x1, x2⟩⟩⟩
/-- x op= e, ints -/
def dAug (i : Nat) (g : Int → Int → (D → Prop) → Prop) (t : DE) : DSt := fun E ρ n => match ρ[i]? with
  | some (.val (.int k)) => t ρ n fun d n' => match d with
    | .int j => g k j fun r => E.nx (ρ.set i (.val r)) n'
    | _ => False
  | _ => False
end
def startD (N : List Str) (ds : List D) : List Sl := ds.map Sl.val ++ List.replicate (N.length - ds.length) Sl.no
section
variable {P : Program} {w : World} {K : PySem.W.Frag} {mg : Str → Option Value} {base : Heap}
theorem start_get {N : List Str} {ds : List D} {i : Nat} {s : Sl} (h : (startD N ds)[i]? = some s) : (∃ d, ds[i]? = some d ∧ s = .val d) ∨ (s = .no ∧ ds.length ≤ i ∧ i < ds.length + (N.length - ds.length)) := by
  unfold startD at h
  rw [List.getElem?_append] at h
  split at h
  · rw [List.getElem?_map] at h
    cases e : ds[i]? with
    | none => rw [e] at h; cases h
    | some d => rw [e] at h; cases h; exact .inl ⟨d, rfl, rfl⟩
  · next hl =>
    rw [List.length_map] at hl h
    rw [List.getElem?_replicate] at h
    split at h
    · cases h; exact .inr ⟨rfl, by omega, by omega⟩
    · cases h
theorem Fun.okD {x qual : Str} {st : Stmt} {f : Addr} {fd : FuncData} {N ps : List Str} {k : Nat} {C : DC} {t : DSt} (F : Fun K x qual st f fd) (S : FnScope N ps (defScope st)) (hl : ∀ ds n R, C ds n R → ds.length = ps.length)
    (hb : ∀ (cdv : Value) (A : Around) (outer : List Env) (s : Shared) (H : Hp) (E : XK) (G : Gx), Room k (A.deeper (envOfC qual (defScope st) s.heap.objs.size f cdv)) → PSs (cxOf CX0 P w K mg base N qual (defScope st) f cdv A outer s H E).nox (defBody st) (LS G t))
    (hd : ∀ ds n R, C ds n R → t ⟨fun _ n' => R .non n', R, fun _ _ => False, fun _ _ => False⟩ (startD N ds) n) : FnOk P w K mg base CX0 (k + 1) f fd ps (spD C) := by
  refine F.ok S (fun vs H Q E ⟨p, c, n, B, ds, R, pn, od, ra, hc, q⟩ => by rw [ra.len]; exact hl _ _ _ hc) fun cdv A outer s H vs Q E hr ⟨p, c, n, B, ds, R, pn, od, ra, hc, q⟩ => ?_
  refine ⟨_, hb cdv A outer s H E ⟨p, c, B, H⟩ hr, [], startD N ds, n, _, ?_, hd ds n R hc, ?_⟩
  · have l := ra.len
    refine ⟨pn, Kp.refl, od, (fun a m => nomatch m), fun i s' e => ?_, fun i j a xs ys e1 => ?_, ?_⟩
    · rcases start_get e with ⟨d, hd, rfl⟩ | ⟨rfl, h1, h2⟩
      · obtain ⟨v, hv, rv⟩ := ra.at hd
        refine ⟨some v, ?_, v, rfl, rv⟩
        unfold L2.start
        rw [List.getElem?_append_left (by rw [List.length_map]; exact (List.getElem?_eq_some_iff.mp hv).1), List.getElem?_map, hv]
        rfl
      · refine ⟨none, ?_, trivial⟩
        unfold L2.start
        rw [List.getElem?_append_right (by rw [List.length_map]; omega), List.getElem?_replicate, if_pos (by rw [List.length_map]; omega)]
    · rcases start_get e1 with ⟨d, hd, z⟩ | ⟨z, _⟩ <;> cases z
    · unfold startD L2.start
      rw [List.length_append, List.length_append, List.length_map, List.length_map, List.length_replicate, List.length_replicate, l]
  · exact ⟨fun O' σ' H' ρ' n' r f e => q _ _ _ _ e r.kp r.pen .non, fun d n' v H' k pn' rp e => q _ _ _ _ e k pn' rp, fun _ _ _ _ _ _ _ z => z.elim, fun _ _ _ _ _ _ _ z => z.elim⟩
end
end Gg

namespace Gg
open PySem PySem.Spec PyProof.Rows L2
section
variable {X : Cx} {G : Gx} {x : Str} {pos : Pos}
theorem de_gint {i : Int} (hg : Gl X x) (hm : ∃ t, X.mg x = some (.int i t)) (hd : (x == ("__debug__" : Str)) = false := by decide) : PE X (.Name x pos) (LE G (dC (.int i))) := by
  obtain ⟨t, hm⟩ := hm
  exact de_con (pe_glob (v := .int i) hg hm ⟨t, rfl⟩ hd) fun _ _ _ => .int _
end
mutual
def ofP : PyData → D
  | .none => .non
  | .bool b => .bl b
  | .int i => .int i
  | .str x => .str x
  | .list xs => .lst (ofPs xs)
  | .tuple xs => .tup (ofPs xs)
  | .dict _ => .emp
def ofPs : List PyData → List D
  | [] => []
  | x :: xs => ofP x :: ofPs xs
end
section
variable {p : Addr} {H : Hp} {B : List Addr}
mutual
theorem Dx.rp : ∀ (d : PyData) (v : V), Dx H B v d → Rp p H B v (ofP d) ∧ plain (ofP d) = true ∧ toP (ofP d) = d
  | .none, _, h => by cases h; exact ⟨.non, rfl, rfl⟩
  | .bool _, _, h => by cases h; exact ⟨.bl _, rfl, rfl⟩
  | .int _, _, h => by cases h; exact ⟨.int _, rfl, rfl⟩
  | .str _, _, h => by cases h; exact ⟨.str _, rfl, rfl⟩
  | .list ds, _, h => by
    cases h with
    | lst e n ha =>
      obtain ⟨r1, r2, r3⟩ := DxAll.rp ds _ ha
      exact ⟨.lst e n r1, by rw [ofP, plain]; exact r2, by rw [ofP, toP, r3]⟩
  | .tuple ds, _, h => by
    cases h with
    | tup e ha =>
      obtain ⟨r1, r2, r3⟩ := DxAll.rp ds _ ha
      exact ⟨.tup e r1, by rw [ofP, plain]; exact r2, by rw [ofP, toP, r3]⟩
  | .dict _, _, h => by
    cases h with
    | emp e n => exact ⟨.emp e n, rfl, rfl⟩
theorem DxAll.rp : ∀ (ds : List PyData) (vs : List V), DxAll H B vs ds → RpAll p H B vs (ofPs ds) ∧ plains (ofPs ds) = true ∧ toPs (ofPs ds) = ds
  | [], _, h => by cases h; exact ⟨.nil, rfl, rfl⟩
  | d :: ds, _, h => by
    cases h with
    | cons h1 h2 =>
      obtain ⟨r1, r2, r3⟩ := Dx.rp d _ h1
      obtain ⟨s1, s2, s3⟩ := DxAll.rp ds _ h2
      exact ⟨.cons r1 s1, by rw [ofPs, plains, r2, s2]; rfl, by rw [ofPs, toPs, r3, s3]⟩
end
end
theorem rp1 {p : Addr} {H : Hp} {B : List Addr} {vs : List V} {d : D} (h : RpAll p H B vs [d]) : ∃ v, vs = [v] ∧ Rp p H B v d := by
  cases h with
  | cons h1 h2 => cases h2; exact ⟨_, rfl, h1⟩
theorem rp2 {p : Addr} {H : Hp} {B : List Addr} {vs : List V} {d e : D} (h : RpAll p H B vs [d, e]) : ∃ v w, vs = [v, w] ∧ Rp p H B v d ∧ Rp p H B w e := by
  cases h with
  | cons h1 h2 => obtain ⟨w, ew, h3⟩ := rp1 h2; subst ew; exact ⟨_, _, rfl, h1, h3⟩
def cDraw : DC := fun ds n R => match ds with
  | [.pen, .int m] => 0 < m ∧ m < 1073741824 ∧ n ≤ 1000000000 ∧ ∀ d : Int, 0 ≤ d → d < m → R (.int d) (n + 1)
  | _ => False
section
variable {P : Program} {w : World} {K : PySem.W.Frag} {mg : Str → Option Value} {base : Heap} {k : Nat} {x : Str} {ps : List Str}
def Ow.imp {sp sp' : Sp} (o : Ow P w K mg base x k ps sp) (h : ∀ vs H Q E, sp' vs H Q E → sp vs H Q E) : Ow P w K mg base x k ps sp' := ⟨o.f, o.fd, o.G.imp h, o.M, o.kp, o.b⟩
def Ow.draw (o : Ow P w K mg base x k ps spDraw) : Ow P w K mg base x k ps (spD cDraw) := o.imp fun vs H Q E ⟨p, c, n, B, ds, R, pn, od, ra, h, z⟩ => by
  unfold cDraw at h
  split at h
  · next m =>
    obtain ⟨v, u, rfl, r1, r2⟩ := rp2 ra
    cases r1; cases r2
    exact ⟨p, c, n, m, rfl, pn, h.2.2.1, h.1, h.2.1, fun d H' h0 h1 k pn' => z _ _ _ _ (h.2.2.2 d h0 h1) k pn' (.int _)⟩
  · exact h.elim
end
def LSx (t : DSt) : TS := fun D σ H => ∃ G, LS G t D σ H
theorem PSs.ex {X : Cx} {sts : List Stmt} {t : DSt} (h : ∀ G, PSs X sts (LS G t)) : PSs X sts (LSx t) := fun pins s σ H D I ⟨G, q⟩ => h G pins s σ H D I q
theorem law_loop {p c : Addr} {H1 : Hp} {N k cost m : Nat} {σ : L2.St} {D : Ends} {tb : DSt} (pn : Pen H1 p c 0) (hσ : σ.length = N) (h1 : σ[1]? = some (some (.ref p))) (hN : 1 < N) (hk : k ≠ 1) (hD : ∀ σ H, D.nx σ H)
    (hb : ∀ (ρ : List Sl) (n i : Nat), ρ.length = N → ρ[1]? = some (.val .pen) → i < m → n ≤ cost * i →
      tb ⟨fun ρ' n' => ρ'.length = N ∧ ρ'[1]? = some (.val .pen) ∧ n' ≤ cost * (i + 1), fun _ _ => False, fun _ _ => False, fun ρ' n' => ρ'.length = N ∧ ρ'[1]? = some (.val .pen) ∧ n' ≤ cost * (i + 1)⟩ (ρ.set k (.val (.int i))) n) :
    ∃ W : Nat → Nat → L2.St → Hp → Prop, (∃ m', W 0 m' σ H1) ∧ ∀ i m' σ H, W i m' σ H → ((Itr 0 m).stop i H ∧ D.nx σ H) ∨ ((Itr 0 m).go i H ∧ ∃ Nn : L2.St → Hp → Prop, (∀ σ' H', Nn σ' H' → ∃ m'', m'' < m' ∧ W (i + 1) m'' σ' H') ∧ ∀ x H', (Itr 0 m).yld i H x H' → gName k x σ H' fun σ2 H2 => LSx tb { D with nx := Nn, ct := Nn, bk := D.nx } σ2 H2) := by
  let G : Gx := ⟨p, c, [], H1⟩
  refine for_range (lo := 0) (fun i σ' H' => ∃ O ρ n, RS G O H' σ' ρ n ∧ ρ.length = N ∧ ρ[1]? = some (.val .pen) ∧ n ≤ cost * i) ?_ ?_ (fun σ' H' _ => hD σ' H')
  · refine ⟨[], (List.replicate N Sl.no).set 1 (.val .pen), 0, ⟨pn, Kp.refl, (fun _ z => nomatch z), (fun _ z => nomatch z), fun i s e => ?_, fun i j a xs ys e => ?_, by rw [List.length_set, List.length_replicate, hσ]⟩, by rw [List.length_set, List.length_replicate], by rw [List.getElem?_set_self (by rw [List.length_replicate]; exact hN)], Nat.zero_le _⟩
    · rcases get_set e with ⟨rfl, rfl, hl⟩ | ⟨ne, e⟩
      · exact ⟨_, h1, _, rfl, .pen⟩
      · rw [List.getElem?_replicate] at e
        split at e
        · next hl => cases e; exact ⟨σ[i]'(by omega), List.getElem?_eq_getElem _, trivial⟩
        · cases e
    · rcases get_set e with ⟨rfl, z, hl⟩ | ⟨ne, e⟩
      · cases z
      · rw [List.getElem?_replicate] at e
        split at e <;> cases e
  · rintro i σ' H2 hi ⟨O, ρ, n, rs, hl, hp, hn⟩
    show LSx tb _ (σ'.set k (some (.int (0 + i)))) H2
    have e0 : (0 + (i : Int)) = (i : Int) := by omega
    rw [e0]
    exact ⟨G, O, _, n, _, rs.set (.int _) k, hb ρ n i hl hp hi hn, ⟨fun O' σ2 H3 ρ2 n2 a _ ⟨q1, q2, q3⟩ => ⟨O', ρ2, n2, a, q1, q2, q3⟩, fun _ _ _ _ _ _ _ z => z.elim, fun _ _ _ _ _ _ _ z => z.elim, fun O' σ2 H3 ρ2 n2 a _ ⟨q1, q2, q3⟩ => ⟨O', ρ2, n2, a, q1, q2, q3⟩⟩⟩
end Gg

namespace Gg
open PySem PySem.Spec PyProof.Rows L2
section
variable {g : DG} {tt : DT} {te : DE} {ρw : List Sl}
theorem lcl_fm (f : D → Option D) : ∀ (its : List D) (acc : List D) (n : Nat) (R : D → Nat → Prop), (∀ d, d ∈ its → ∀ (n : Nat) (S : D → Nat → Prop) (S' : Nat → Prop), (match f d with | some r => S r n | none => S' n) → g d ρw fun ρ' => tt ρ' n fun b n1 => if b = true then te ρ' n1 S else S' n1) →
    R (.lst (acc ++ its.filterMap f)) n → dLcL g tt te ρw its acc n R
  | [], acc, n, R, _, h => by rw [List.filterMap_nil, List.append_nil] at h; exact h
  | d :: ds, acc, n, R, hs, h => by
    rw [dLcL]
    refine hs d (List.mem_cons_self ..) n _ _ ?_
    rw [List.filterMap_cons] at h
    split
    · next r e => rw [e] at h; exact lcl_fm f ds _ n R (fun x hx => hs x (List.mem_cons_of_mem _ hx)) (by rw [List.append_assoc]; exact h)
    · next e => rw [e] at h; exact lcl_fm f ds _ n R (fun x hx => hs x (List.mem_cons_of_mem _ hx)) h
theorem lcl_map (φ : D → D) {its : List D} {n : Nat} {R : D → Nat → Prop} (hs : ∀ d, d ∈ its → ∀ (n : Nat) (S : D → Nat → Prop), S (φ d) n → g d ρw fun ρ' => te ρ' n S) (h : R (.lst (its.map φ)) n) : dLcL g dYes te ρw its [] n R := by
  refine lcl_fm (fun d => some (φ d)) its [] n R (fun d hd n S S' q => ?_) (by rw [List.nil_append]; rw [show its.filterMap (fun d => some (φ d)) = its.map φ from by rw [← List.filterMap_eq_map]; rfl]; exact h)
  simp only [dYes, if_true]
  exact hs d hd n S q
/-- draws: each item P, at most c turns of the pen -/
theorem lcl_draw (P : Nat → D → Prop) (c : Nat) : ∀ (its : List D) (k : Nat) (acc : List D) (n : Nat) (R : D → Nat → Prop), (∀ i d, its[i]? = some d → ∀ (n' : Nat) (S : D → Nat → Prop), n ≤ n' → n' ≤ n + c * i → (∀ r n'', P (k + i) r → n' ≤ n'' → n'' ≤ n' + c → S r n'') → g d ρw fun ρ' => te ρ' n' S) →
    (∀ rs n', rs.length = its.length → (∀ i r, rs[i]? = some r → P (k + i) r) → n ≤ n' → n' ≤ n + c * its.length → R (.lst (acc ++ rs)) n') → dLcL g dYes te ρw its acc n R
  | [], k, acc, n, R, _, h => by
    have := h [] n rfl (fun i r e => by simp at e) (Nat.le_refl _) (Nat.le_add_right _ _)
    rw [List.append_nil] at this; exact this
  | d :: ds, k, acc, n, R, hs, h => by
    rw [dLcL]
    simp only [dYes, if_true]
    refine hs 0 d rfl n _ (Nat.le_refl _) (by omega) fun r n1 pr l1 l2 => ?_
    refine lcl_draw P c ds (k + 1) _ n1 R (fun i x hx n' S b1 b2 q => ?_) fun rs n' hl hp b1 b2 => ?_
    · refine hs (i + 1) x (by simpa using hx) n' S (by omega) (by rw [Nat.mul_add]; omega) fun r' n'' p b3 b4 => q r' n'' ?_ b3 b4
      have e : k + (i + 1) = k + 1 + i := by omega
      rw [← e]; exact p
    · rw [List.append_assoc]
      refine h ([r] ++ rs) n' (by rw [List.length_append, hl, List.length_cons]; show 1 + ds.length = ds.length + 1; omega) (fun i x hx => ?_) (by omega) (by rw [List.length_cons, Nat.mul_add]; omega)
      cases i with
      | zero => simp at hx; subst hx; exact pr
      | succ i =>
        have e : k + (i + 1) = k + 1 + i := by omega
        rw [e]
        exact hp i x (by simpa using hx)
theorem lc_draws (P : D → Prop) (c : Nat) {its : List D} {n : Nat} {R : D → Nat → Prop} (hs : ∀ d, d ∈ its → ∀ (n' : Nat) (S : D → Nat → Prop), n ≤ n' → n' ≤ n + c * its.length → (∀ r n'', P r → n' ≤ n'' → n'' ≤ n' + c → S r n'') → g d ρw fun ρ' => te ρ' n' S)
    (h : ∀ rs n', rs.length = its.length → (∀ r, r ∈ rs → P r) → n ≤ n' → n' ≤ n + c * its.length → R (.lst rs) n') : dLcL g dYes te ρw its [] n R := by
  refine lcl_draw (fun _ => P) c its 0 [] n R (fun i d hd n' S b1 b2 q => hs d (List.mem_of_getElem? hd) n' S b1 ?_ q) fun rs n' hl hp b1 b2 => by
    rw [List.nil_append]
    refine h rs n' hl (fun r hr => ?_) b1 b2
    obtain ⟨i, hi⟩ := List.getElem?_of_mem hr
    exact hp i r hi
  have hi : i < its.length := (List.getElem?_eq_some_iff.mp hd).1
  have : c * i ≤ c * its.length := Nat.mul_le_mul_left c (by omega)
  omega
end
theorem loop_inv {g : DG} {tb : DSt} {E : DEnds} (I : Nat → List Sl → Nat → Prop) : ∀ (its : List D) (k : Nat) (ρ : List Sl) (n : Nat), I k ρ n →
    (∀ i d ρ n (K : List Sl → Nat → Prop), its[i]? = some d → I (k + i) ρ n → (∀ ρ' n', I (k + i + 1) ρ' n' → K ρ' n') → g d ρ fun ρ' => tb ⟨K, E.rt, E.nx, K⟩ ρ' n) → (∀ ρ n, I (k + its.length) ρ n → E.nx ρ n) → dLoop g tb E its ρ n
  | [], k, ρ, n, h0, _, hd => hd ρ n h0
  | d :: ds, k, ρ, n, h0, hs, hd => by
    rw [dLoop]
    refine hs 0 d ρ n _ rfl h0 fun ρ' n' h1 => loop_inv I ds (k + 1) ρ' n' h1 (fun i x ρ n K hx hi hK => ?_) fun ρ n h => hd ρ n ?_
    case refine_2 =>
      have e : k + (d :: ds).length = k + 1 + ds.length := by rw [List.length_cons]; omega
      rw [e]; exact h
    have e : k + 1 + i = k + (i + 1) := by omega
    rw [e] at hi hK
    exact hs (i + 1) x ρ n K (by simpa using hx) hi hK
theorem loop0 {g : DG} {tb : DSt} {E : DEnds} (I : Nat → List Sl → Nat → Prop) {its : List D} {ρ : List Sl} {n : Nat} (h0 : I 0 ρ n) (hs : ∀ i d ρ n (K : List Sl → Nat → Prop), its[i]? = some d → I i ρ n → (∀ ρ' n', I (i + 1) ρ' n' → K ρ' n') → g d ρ fun ρ' => tb ⟨K, E.rt, E.nx, K⟩ ρ' n)
    (hd : ∀ ρ n, I its.length ρ n → E.nx ρ n) : dLoop g tb E its ρ n := loop_inv I its 0 ρ n h0 (fun i d ρ n K hx hi hK => hs i d ρ n K hx (by rw [Nat.zero_add] at hi; exact hi) (by rw [Nat.zero_add] at hK; exact hK)) fun ρ n h => hd ρ n (by rw [Nat.zero_add] at h; exact h)
theorem rangeL_get {lo : Int} {m i : Nat} {d : D} (h : (rangeL lo m)[i]? = some d) : d = .int (lo + i) ∧ i < m := by
  have hi : i < (rangeL lo m).length := (List.getElem?_eq_some_iff.mp h).1
  rw [rangeL_len] at hi
  unfold rangeL at h
  rw [List.getElem?_map, List.getElem?_range hi] at h
  cases h
  exact ⟨rfl, hi⟩
theorem rangeL_mem {lo : Int} {m : Nat} {d : D} (h : d ∈ rangeL lo m) : ∃ i : Nat, d = .int (lo + i) ∧ i < m := by
  obtain ⟨i, hi⟩ := List.getElem?_of_mem h
  exact ⟨i, rangeL_get hi⟩
theorem plains_mem : ∀ {xs : List D}, plains xs = true → ∀ d, d ∈ xs → plain d = true
  | [], _, _, m => by cases m
  | x :: xs, h, d, m => by
    rw [plains, Bool.and_eq_true] at h
    rcases List.mem_cons.mp m with z | z
    · rw [z]; exact h.1
    · exact plains_mem h.2 d z
theorem toPs_len : ∀ xs : List D, (toPs xs).length = xs.length
  | [] => rfl
  | x :: xs => by rw [toPs, List.length_cons, List.length_cons, toPs_len xs]
end Gg

namespace Gg
open PySem PySem.Spec PyProof.Rows L2
abbrev ends (R : D → Nat → Prop) : DEnds := ⟨fun _ n' => R .non n', R, fun _ _ => False, fun _ _ => False⟩
def startN (k : Nat) (ds : List D) : List Sl := ds.map Sl.val ++ List.replicate (k - ds.length) Sl.no
def dNever : DSt := fun _ _ _ => False
section
variable {X : Cx} {G : Gx} {e : Expr} {es : List Expr} {st : Stmt} {pos : Pos}
/-- written data -/
theorem de_lit {d : D} (h : litOk e = true) (hd : ofP (litD e) = d) : PE X e (LE G (dC d)) := PE.of (pe_litD h) fun σ H Q ⟨O, ρ, n, R, a, b, c⟩ => by
  intro v H' s dx
  refine c d n v H' b (Kp.of_same s) (a.pen.keep s) ?_
  rw [← hd]
  exact (Dx.rp (p := G.p) _ _ (dx _ a.all)).1
end
section
variable {P : Program} {w : World} {K : PySem.W.Frag} {mg : Str → Option Value} {base : Heap}
theorem Fun.ok3 {x qual : Str} {st : Stmt} {f : Addr} {fd : FuncData} {N ps : List Str} {k m : Nat} {C : DC} {t : DSt} (F : Fun K x qual st f fd) (S : FnScope N ps (defScope st)) (hm : N.length = m) (hl : ∀ ds n R, C ds n R → ds.length = ps.length)
    (hb : ∀ (cdv : Value) (A : Around) (outer : List Env) (s : Shared) (H : Hp) (E : XK) (G : Gx), Room k (A.deeper (envOfC qual (defScope st) s.heap.objs.size f cdv)) → PSs (cxOf CX0 P w K mg base N qual (defScope st) f cdv A outer s H E).nox (defBody st) (LS G t))
    (hd : ∀ {ds n R}, C ds n R → t (ends R) (startN m ds) n) : FnOk P w K mg base CX0 (k + 1) f fd ps (spD C) := Fun.okD F S hl hb fun ds n R h => by
  have := hd h
  rw [← hm] at this
  exact this
end
end Gg

namespace Gg
open PySem PySem.Spec PyProof.Rows L2
structure QE (X : Cx) (G : Gx) (e : Expr) (t : DE) : Prop where
  h : PE X e (LE G t)
structure QV (X : Cx) (G : Gx) (e : Expr) (t : DE) : Prop where
  h : PE X e (LEs G t)
structure QF (X : Cx) (G : Gx) (e : Expr) (t : DE) : Prop where
  h : PE X e (LEf G t)
structure QT (X : Cx) (G : Gx) (e : Expr) (t : DT) : Prop where
  h : PT X e (LT G t)
structure QW (X : Cx) (G : Gx) (e : Expr) (t : DT) : Prop where
  h : PW X e (LT G t)
structure QA (X : Cx) (G : Gx) (es : List Expr) (u : DA) : Prop where
  h : PA X es (LA G u)
structure QB (X : Cx) (G : Gx) (es : List Expr) (u : DA) : Prop where
  h : PA X es (LAs G u)
structure QO (X : Cx) (G : Gx) (o : Option Expr) (t : DO) : Prop where
  h : PO X o (LO G t)
structure QI (X : Cx) (G : Gx) (tg e : Expr) (t : DI) : Prop where
  h : PI X tg e (LI G t)
structure QJ (X : Cx) (G : Gx) (tg e : Expr) (t : DI) : Prop where
  h : PI X tg e (LIc G t)
structure QG (X : Cx) (G : Gx) (vs : List Nat) (tg : Expr) (g : DG) : Prop where
  h : PG X tg (LG G vs g)
structure QGs (X : Cx) (G : Gx) (vs : List Nat) (tgs : List Expr) (g : DGs) : Prop where
  h : PGs X tgs (LGs G vs g)
structure QTs (X : Cx) (G : Gx) (es : List Expr) (t : DT) : Prop where
  h : PTs X es (LT G t)
structure QS (X : Cx) (G : Gx) (st : Stmt) (t : DSt) : Prop where
  h : PS X st (LS G t)
structure QSs (X : Cx) (G : Gx) (sts : List Stmt) (t : DSt) : Prop where
  h : PSs X sts (LS G t)
/-- which operators on data -/
structure QOp (X : Cx) (G : Gx) (f : Value → Value → Sem Value) (g : Op2) : Prop where
  h : OpR X f (rD G g)
structure QC (X : Cx) (G : Gx) (f : Value) (g : Bi1) : Prop where
  h : CallR X f (rCD G g)
def notStar : Expr → Bool
  | .Starred _ _ => false
  | _ => true
theorem star_of {e : Expr} (h : notStar e = true) (es : List Expr) (env : Env) : starEach (e :: es) env = (false, eval e env) :: starEach es env := by
  cases e <;> first | rfl | cases h
def plainArgs : List Expr → Bool
  | [] => true
  | e :: es => notStar e && plainArgs es
theorem any_of : ∀ {es : List Expr} (h : plainArgs es = true) (pos : Pos) (env : Env), (backTo pos (starEach es env)).any (·.1) = false
  | [], _, _, _ => rfl
  | e :: es, h, pos, env => by
    rw [plainArgs, Bool.and_eq_true] at h
    rw [star_of h.1]
    show (false || (backTo pos (starEach es env)).any (·.1)) = false
    rw [any_of h.2]; rfl
section
variable {X : Cx} {G : Gx} {i j : Nat} {x y : Str} {pos p px py p2 : Pos} {e a b c m : Expr} {es rest : List Expr} {t ta tb tc te : DE} {tA tB tt : DT} {u : DA} {g g' : Op2} {vs : List Nat} {tg : Expr} {tgs : List Expr} {gg : DG} {gs : DGs} {st : Stmt} {sts as bs : List Stmt} {s1 s2 tb' : DSt}
theorem qvC (i : Nat) (hN : X.N[i]? = some x := by rfl) (hv : Vis X.env.scope x := by first | exact Or.inl rfl | exact Or.inr (Or.inl rfl) | exact Or.inr (Or.inr rfl)) (hd : (x == ("__debug__" : Str)) = false := by decide) (hcd : (x == ("__classdict__" : Str)) = false := by decide) : QE X G (.Name x pos) (dVarC i) := ⟨de_varC (pv i hN hv hd hcd)⟩
theorem qv (i : Nat) (hN : X.N[i]? = some x := by rfl) (hv : Vis X.env.scope x := by first | exact Or.inl rfl | exact Or.inr (Or.inl rfl) | exact Or.inr (Or.inr rfl)) (hd : (x == ("__debug__" : Str)) = false := by decide) (hcd : (x == ("__classdict__" : Str)) = false := by decide) : QV X G (.Name x pos) (dVar i) := ⟨de_var (pv i hN hv hd hcd)⟩
theorem q_ty {n : String} (hg : Gl X x) (hm : X.mg x = none) (hv : bootBuiltins x = some (.type n)) (hn : x ≠ "__name__" := by decide) (hd : (x == ("__debug__" : Str)) = false := by decide) : QE X G (.Name x pos) (dC (.ty n)) := ⟨de_con (pe_bltn (v := .ty n) hg hm hv rfl hn hd) fun _ _ _ => .ty _⟩
theorem q_gint {i : Int} (hg : Gl X x) (hm : ∃ t, X.mg x = some (.int i t)) (hd : (x == ("__debug__" : Str)) = false := by decide) : QE X G (.Name x pos) (dC (.int i)) := ⟨de_gint hg hm hd⟩
theorem q_non {k : Nat} : QE X G (.Constant .none k pos) (dC .non) := ⟨de_con pe_non fun _ _ _ => .non⟩
theorem q_bl {v : Bool} {k : Nat} : QE X G (.Constant (.bool v) k pos) (dC (.bl v)) := ⟨de_con pe_bl fun _ _ _ => .bl _⟩
theorem q_int {v : Int} {k : Nat} : QE X G (.Constant (.int v) k pos) (dC (.int v)) := ⟨de_con pe_int fun _ _ _ => .int _⟩
theorem q_str {v : Str} {k : Nat} : QE X G (.Constant (.str v) k pos) (dC (.str v)) := ⟨de_con pe_str fun _ _ _ => .str _⟩
theorem q_lit {d : D} (h : litOk e = true) (hd : ofP (litD e) = d) : QE X G e (dC d) := ⟨de_lit h hd⟩
theorem q_tup {x1} (h : QA X G es u) : QE X G (.Tuple es x1 pos) (dTup u) := ⟨de_tup h.h⟩
theorem q_lst (h : QA X G es u) : QF X G (.List es pos) (dLst u) := ⟨de_lstf h.h⟩
theorem q_s (h : QE X G e t) : QV X G e t := ⟨LE.s h.h⟩
theorem q_f (h : QF X G e t) : QE X G e t := ⟨LE.f h.h⟩
theorem q_neg (h : QV X G e t) : QE X G (.UnaryOp .USub e pos) (dNeg t) := ⟨de_neg h.h⟩
theorem q_not (h : QE X G e t) : QE X G (.UnaryOp .Not e pos) (dNotV t) := ⟨de_not h.h⟩
theorem q_op {op : Operator} (ho : QOp X G (binaryOp op) g) (ha : QV X G a ta) (hb : QV X G b tb) : QE X G (.BinOp a op b pos) (dOp g ta tb) := ⟨de_op ho.h ha.h hb.h⟩
theorem q_cmp {op : CmpOp} (ho : QOp X G (compareOp op) g) (ha : QV X G a ta) (hb : QV X G b tb) (hm : behindInMarks op b = false) : QE X G (.Compare a [op] [b] pos) (dOp g ta tb) := ⟨de_cmp ho.h ha.h hb.h hm⟩
theorem q_chain {op op' : CmpOp} (ho : QOp X G (compareOp op) g) (ho' : QOp X G (compareOp op') g') (ha : QV X G a ta) (hb : QV X G b tb) (hc : QV X G c tc) (hm : lastMarks [op, op'] [b, c] = false := by with_unfolding_all rfl) : QE X G (.Compare a [op, op'] [b, c] pos) (dChain g g' ta tb tc) := ⟨de_chain ho.h ho'.h ha.h hb.h hc.h hm⟩
theorem q_one {op : BoolOp} (h : QE X G a ta) : QE X G (.BoolOp op [a] pos) ta := ⟨de_one h.h⟩
theorem q_and (ha : QE X G a ta) (hb : QE X G (.BoolOp .And (b :: rest) pos) tb) : QE X G (.BoolOp .And (a :: b :: rest) pos) (dAndV ta tb) := ⟨de_and ha.h hb.h⟩
theorem q_if (hc : QT X G c tA) (ha : QE X G a ta) (hb : QE X G b tb) : QE X G (.IfExp c a b pos) (dIf tA ta tb) := ⟨de_if hc.h ha.h hb.h⟩
theorem qo_none : QO X G none dNoPart := ⟨do_none⟩
theorem qo_some (h : QE X G e t) : QO X G (some e) (dPart t) := ⟨do_some h.h⟩
theorem q_slice {lo hi : Option Expr} {tl th : DO} (he : QV X G e t) (hl : QO X G lo tl) (hh : QO X G hi th) : QE X G (.Subscript e (.Slice lo hi none p2) pos) (dSl t tl th) := ⟨de_slice he.h hl.h hh.h⟩
theorem q_rev {tm : DO} (he : QV X G e t) (hm : QO X G (some m) tm) : QE X G (.Subscript e (.Slice none none (some m) p2) pos) (dRv t tm) := ⟨de_rev he.h hm.h⟩
theorem q_ix (ha : QV X G a ta) (hb : QV X G b tb) (hs : PlainIx b := by exact fun _ _ => rfl) : QE X G (.Subscript a b pos) (dOp ixD ta tb) := ⟨de_ix ha.h hb.h hs⟩
theorem q_nil : QA X G [] dNil := ⟨da_nil⟩
theorem q_cons (he : QE X G e t) (hr : QA X G es u) (hs : notStar e = true := by rfl) : QA X G (e :: es) (dCons t u) := ⟨da_cons he.h hr.h (star_of hs _ _)⟩
theorem q_nils : QB X G [] dNil := ⟨da_nils⟩
theorem q_conss (he : QV X G e t) (hr : QB X G es u) (hs : notStar e = true := by rfl) : QB X G (e :: es) (dCons t u) := ⟨da_conss he.h hr.h (star_of hs _ _)⟩
theorem q_call {f : Addr} {fd : FuncData} {k : Nat} {ps : List Str} {C : DC} (F : FnOk X.prog X.w X.K X.mg X.base CX0 k f fd ps (spD C)) (hr : Room k X.A) (hg : Gl X x) (hm : X.mg x = some (.ref f)) (hk : PySem.W.keepIn X.K (.ref f) = true) (hb : Binds X.K fd ps [])
    (ha : QA X G (e :: es) u) (hs : plainArgs (e :: es) = true := by rfl) (hdb : (x == ("__debug__" : Str)) = false := by decide) : QE X G (.Call (.Name x p) (e :: es) [] pos) (dCall C u) := by
  have hs' := hs
  rw [plainArgs, Bool.and_eq_true] at hs'
  exact ⟨de_call F hr hg hm hk hb ha.h hdb (star_of hs'.1 _ _) (any_of hs'.2 _ _)⟩
theorem q_bi {id : String} {g : Bi1} (hc : QC X G (.builtin id) g) (hg : Gl X x) (hm : X.mg x = none) (hv : bootBuiltins x = some (.builtin id)) (ha : QB X G (e :: es) u) (hs : plainArgs (e :: es) = true := by rfl) (hn : x ≠ "__name__" := by decide) (hdb : (x == ("__debug__" : Str)) = false := by decide) : QE X G (.Call (.Name x p) (e :: es) [] pos) (dB g u) := by
  have hs' := hs
  rw [plainArgs, Bool.and_eq_true] at hs'
  exact ⟨de_bi hc.h hg hm hv ha.h hn hdb (star_of hs'.1 _ _) (any_of hs'.2 _ _)⟩
theorem q_bty {T : String} {g : Bi1} (hc : QC X G (.type T) g) (hg : Gl X x) (hm : X.mg x = none) (hv : bootBuiltins x = some (.type T)) (ha : QB X G (e :: es) u) (hs : plainArgs (e :: es) = true := by rfl) (hn : x ≠ "__name__" := by decide) (hdb : (x == ("__debug__" : Str)) = false := by decide) : QE X G (.Call (.Name x p) (e :: es) [] pos) (dB g u) := by
  have hs' := hs
  rw [plainArgs, Bool.and_eq_true] at hs'
  exact ⟨de_ty hc.h hg hm hv ha.h hn hdb (star_of hs'.1 _ _) (any_of hs'.2 _ _)⟩
theorem q_list (hg : Gl X x) (hm : X.mg x = none) (hv : bootBuiltins x = some (.type "list")) (ha : QB X G (e :: es) u) (hs : plainArgs (e :: es) = true := by rfl) (hn : x ≠ "__name__" := by decide) (hdb : (x == ("__debug__" : Str)) = false := by decide) : QF X G (.Call (.Name x p) (e :: es) [] pos) (dB listD u) := by
  have hs' := hs
  rw [plainArgs, Bool.and_eq_true] at hs'
  exact ⟨de_list hg hm hv ha.h hn hdb (star_of hs'.1 _ _) (any_of hs'.2 _ _)⟩
theorem q_cat (ha : QV X G a ta) (hb : QV X G b tb) : QF X G (.BinOp a .Add b pos) (dOp catLD ta tb) := ⟨de_cat ha.h hb.h⟩
theorem qt_cmp {op : CmpOp} (ho : QOp X G (compareOp op) g) (ha : QV X G a ta) (hb : QV X G b tb) (hm : behindInMarks op b = false) : QT X G (.Compare a [op] [b] pos) (dTest (dOp g ta tb)) := ⟨dt_cmp ho.h ha.h hb.h hm⟩
theorem qt_not (h : QT X G a tA) : QT X G (.UnaryOp .Not a pos) (dNotT tA) := ⟨dt_not h.h⟩
theorem qw_and1 (h : QT X G a tA) : QW X G (.BoolOp .And [a] pos) tA := ⟨pw_and1 h.h⟩
theorem qw_or1 (h : QT X G a tA) : QW X G (.BoolOp .Or [a] pos) tA := ⟨pw_or1 h.h⟩
theorem qw_and (ha : QT X G a tA) (hb : QW X G (.BoolOp .And (b :: rest) pos) tB) : QW X G (.BoolOp .And (a :: b :: rest) pos) (dAndT tA tB) := ⟨dw_and ha.h hb.h⟩
theorem qw_or (ha : QT X G a tA) (hb : QW X G (.BoolOp .Or (b :: rest) pos) tB) : QW X G (.BoolOp .Or (a :: b :: rest) pos) (dOrT tA tB) := ⟨dw_or ha.h hb.h⟩
theorem qt_w (h : QW X G e tA) : QT X G e tA := ⟨PW.pt h.h⟩
theorem qt_truth (h : QV X G e t) (he : ∀ whole, isTrue e X.env whole = (do let v ← whole; standAt e.pos; holding [v] (truthy v)) := by intro _; rfl) : QT X G e (dTruth t) := ⟨dt_truth h.h he⟩
theorem qg_name (i : Nat) (hN : X.N.Nodup) (hi : X.N[i]? = some x) (hx : Loc X.env.scope x) (m : i ∈ vs := by decide) (hf : X.fn x = true ∨ X.env.scope.names.lookup x = some .local := by first | exact .inl rfl | exact .inr rfl | assumption) : QG X G vs (.Name x pos) (dgName i) := ⟨dg_name (pg_name hN hi hx hf) m⟩
theorem qgs_nil : QGs X G vs [] dgNil := ⟨dgs_nil⟩
theorem qgs_cons (h1 : QG X G vs tg gg) (h2 : QGs X G vs tgs gs) (hs : (assignEach (tg :: tgs) X.env).map (·.2) = assign tg X.env :: (assignEach tgs X.env).map (·.2) := by rfl) : QGs X G vs (tg :: tgs) (dgCons gg gs) := ⟨dgs_cons h1.h h2.h hs⟩
theorem qg_tup {k m : Nat} (hc : X.calm = true) (h : QGs X G vs tgs gs) (hn : (assignEach tgs X.env).length = m := by rfl) (hst : (assignEach tgs X.env).findIdx? (·.1) = none := by rfl) : QG X G vs (.Tuple tgs k pos) (dgTup m gs) := ⟨dg_tup hc h.h hn hst⟩
theorem qi_range1 (hg : Gl X "range") (hm : X.mg "range" = none) (ha : QA X G [a] u) (hs : notStar a = true := by rfl) : QI X G tg (.Call (.Name "range" p) [a] [] pos) (dRng1 u) := ⟨di_range1 (pi_range1 hg hm ha.h (star_of hs _ _))⟩
theorem qi_seq (h : QE X G e t) : QI X G tg e (dSeqI t) := ⟨di_seq h.h⟩
theorem qi_seqc (h : QV X G e t) : QJ X G tg e (dSeqI t) := ⟨di_seqc h.h⟩
theorem qi_c {ti : DI} (h : QI X G tg e ti) : QJ X G tg e ti := ⟨LI.cc h.h⟩
theorem qts_nil : QTs X G [] dYes := ⟨dts_nil⟩
theorem qts_one (h : QT X G c tt) : QTs X G [c] tt := ⟨dts_one h.h⟩
theorem q_lc {elt iter : Expr} {ifs : List Expr} {scope : Scope} {own : List (Str × Nat)} {ti : DI} (hc : X.calm = true) (hN : X.N.Nodup) (hi : QJ X G tg iter ti) (ok : BlkOk X.N X.env.scope scope own) (hv : own.map (·.2) = vs)
    (hg : ∀ (s : Shared) (H : Hp) (C : Addr) (cl : List (Str × Addr)) (fp : List Addr), QG (X.blk s H scope (compEnvC scope cl C X.env) fp) G vs tg gg) (ht : ∀ (s : Shared) (H : Hp) (C : Addr) (cl : List (Str × Addr)) (fp : List Addr), QTs (X.blk s H scope (compEnvC scope cl C X.env) fp) G ifs tt)
    (he : ∀ (s : Shared) (H : Hp) (C : Addr) (cl : List (Str × Addr)) (fp : List Addr), QE (X.blk s H scope (compEnvC scope cl C X.env) fp) G elt te) (hs : ∀ x, foldedSetIterable iter X.env x = pure x := by intro _; rfl) :
    QF X G (.ListComp elt [⟨tg, iter, ifs, 0⟩] scope pos) (dLc ti gg tt te vs) := by
  subst hv
  exact ⟨de_lc (pe_lc hc hN hi.h ok (fun s H C cl fp => (hg s H C cl fp).h) (fun s H C cl fp => (ht s H C cl fp).h) (fun s H C cl fp => (he s H C cl fp).h) hs)⟩
theorem qs_lc {elt iter : Expr} {ifs : List Expr} {scope : Scope} {own : List (Str × Nat)} {ti : DI} (i : Nat) (hc : X.calm = true) (hN : X.N.Nodup) (hy : X.N[i]? = some y) (hyl : X.env.scope.names.lookup y = some .local)
    (hsw : swapsWith (.ListComp elt [⟨tg, iter, ifs, 0⟩] scope p2) (some (.Name y py)) pos.line X.env = pure true) (hi : QJ X G tg iter ti) (ok : BlkOk X.N X.env.scope scope own) (hv : own.map (·.2) = vs)
    (hg : ∀ (s : Shared) (H : Hp) (C : Addr) (cl : List (Str × Addr)) (fp : List Addr), QG (X.blk s H scope (compEnvC scope cl C X.env) fp) G vs tg gg) (ht : ∀ (s : Shared) (H : Hp) (C : Addr) (cl : List (Str × Addr)) (fp : List Addr), QTs (X.blk s H scope (compEnvC scope cl C X.env) fp) G ifs tt)
    (he : ∀ (s : Shared) (H : Hp) (C : Addr) (cl : List (Str × Addr)) (fp : List Addr), QE (X.blk s H scope (compEnvC scope cl C X.env) fp) G elt te) (hs : ∀ x, foldedSetIterable iter X.env x = pure x := by intro _; rfl) :
    QS X G (.Assign [.Name y py] (.ListComp elt [⟨tg, iter, ifs, 0⟩] scope p2) pos) (dSet i (dLc ti gg tt te vs)) := by
  subst hv
  exact ⟨ds_set (ds_f (ds_setLc (ps_setLc hc hN hy hyl hsw hi.h ok (fun s H C cl fp => (hg s H C cl fp).h) (fun s H C cl fp => (ht s H C cl fp).h) (fun s H C cl fp => (he s H C cl fp).h) hs)))⟩
theorem qss_nil : QSs X G [] dNext := ⟨dss_nil⟩
theorem qss_one (h : QS X G st s1) : QSs X G [st] s1 := ⟨dss_one h.h⟩
theorem qss_cons (h : QS X G st s1) (k : QSs X G sts s2) : QSs X G (st :: sts) (dSeq s1 s2) := ⟨dss_cons h.h k.h⟩
theorem qss_frz (i : Nat) (h : QSs X G sts s1) : QSs X G sts (dFrz i s1) := ⟨dss_frz h.h⟩
theorem qs_ret (h : QV X G e t) : QS X G (.Return (some e) pos) (dRet t) := ⟨ds_ret h.h⟩
theorem qs_if (hc : QT X G c tA) (ha : QSs X G as s1) (hb : QSs X G bs s2) : QS X G (.If c as bs pos) (dIfS tA s1 s2) := ⟨ds_if hc.h ha.h hb.h⟩
theorem qs_app (i : Nat) {apos : Pos} (hi : X.N[i]? = some x) (h : QE X G e t) (hv : Vis X.env.scope x := by first | exact Or.inl rfl | exact Or.inr (Or.inl rfl) | exact Or.inr (Or.inr rfl)) (hs : notStar e = true := by rfl) (hd : (x == ("__debug__" : Str)) = false := by decide) (hcd : (x == ("__classdict__" : Str)) = false := by decide)
    (hbase : attributeBase (.Name x px) "append" X.env (eval (.Name x px) X.env) = eval (.Name x px) X.env := by rfl)
    (hfew : ((backTo p2 (starEach [e] X.env)).all (fun x => !x.1) && (backToKw p2 (keywordEach [] X.env)).all (fun x => x.1.isSome) && decide (([e] : List Expr).length + ([] : List Keyword).length + (if ([] : List Keyword).isEmpty then 0 else 1) < 30)) = true := by rfl)
    (hline : (apos.endLine == p2.line) = true := by rfl) (hsw : swapsWith (.Call (.Attribute (.Name x px) "append" apos) [e] [] p2) none pos.line X.env = pure false := by rfl) : QS X G (.Expr (.Call (.Attribute (.Name x px) "append" apos) [e] [] p2) pos) (dAppend i t) :=
  ⟨ds_app (ps_expr (pe_bm PySem.F.plainAttrs_list PySem.F.slot_list_append PySem.F.type_list_append mt_append (pv i hi hv hd hcd) (pa_cons h.h pa_nil (star_of hs _ _)) hbase hfew hline (star_of hs _ _) rfl) hsw)⟩
theorem qs_set (i : Nat) (hN : X.N.Nodup) (hi : X.N[i]? = some x) (hx : Loc X.env.scope x) (he : QE X G e t) (hs : swapsWith e (some (.Name x px)) pos.line X.env = pure false := by rfl) (hf : X.fn x = true ∨ X.env.scope.names.lookup x = some .local := by first | exact .inl rfl | exact .inr rfl | assumption) : QS X G (.Assign [.Name x px] e pos) (dSet i t) := ⟨ds_set (ps_set hN hi hx he.h hs hf)⟩
theorem qs_own (i : Nat) (hN : X.N.Nodup) (hi : X.N[i]? = some x) (hx : Loc X.env.scope x) (he : QF X G e t) (hs : swapsWith e (some (.Name x px)) pos.line X.env = pure false := by rfl) (hf : X.fn x = true ∨ X.env.scope.names.lookup x = some .local := by first | exact .inl rfl | exact .inr rfl | assumption) : QS X G (.Assign [.Name x px] e pos) (dOwn i t) := ⟨ds_own (ps_set hN hi hx he.h hs hf)⟩
section
variable {kt k2 : Nat} {pt pt2 : Pos}
theorem qs_par (i j : Nat) (hc : X.calm = true) (hN : X.N.Nodup) (hi : X.N[i]? = some x) (hj : X.N[j]? = some y) (hij : i ≠ j) (hx : X.env.scope.names.lookup x = some .local) (hy : X.env.scope.names.lookup y = some .local) (ha : QE X G a ta) (hb : QE X G b tb) (hw : swappedStores [.Tuple [.Name x px, .Name y py] kt pt] (.Tuple [a, b] k2 pt2) X.env = pure (some [x, y]))
    (sa : notStar a = true := by rfl) (sb : notStar b = true := by rfl) (hs : swapsWithSole [.Tuple [.Name x px, .Name y py] kt pt] (.Tuple [a, b] k2 pt2) pos.line X.env = pure false := by rfl) : QS X G (.Assign [.Tuple [.Name x px, .Name y py] kt pt] (.Tuple [a, b] k2 pt2) pos) (dPar i j false false ta tb) :=
  ⟨ds_par (ps_par hc hN hi hj hij hx hy (pa_cons ha.h (pa_cons hb.h pa_nil (star_of sb _ _)) (star_of sa _ _)) hw hs)⟩
theorem qs_parFF (i j : Nat) (hc : X.calm = true) (hN : X.N.Nodup) (hi : X.N[i]? = some x) (hj : X.N[j]? = some y) (hij : i ≠ j) (hx : X.env.scope.names.lookup x = some .local) (hy : X.env.scope.names.lookup y = some .local) (ha : QF X G a ta) (hb : QF X G b tb) (hw : swappedStores [.Tuple [.Name x px, .Name y py] kt pt] (.Tuple [a, b] k2 pt2) X.env = pure (some [x, y]))
    (sa : notStar a = true := by rfl) (sb : notStar b = true := by rfl) (hs : swapsWithSole [.Tuple [.Name x px, .Name y py] kt pt] (.Tuple [a, b] k2 pt2) pos.line X.env = pure false := by rfl) : QS X G (.Assign [.Tuple [.Name x px, .Name y py] kt pt] (.Tuple [a, b] k2 pt2) pos) (dPar i j true true ta tb) :=
  ⟨ds_parFF (ps_par hc hN hi hj hij hx hy (pa_cons ha.h (pa_cons hb.h pa_nil (star_of sb _ _)) (star_of sa _ _)) hw hs)⟩
end
theorem qs_asg (he : QE X G e t) (hg : QG X G vs tg gg) (hs : swapsWithSole [tg] e pos.line X.env = pure false := by rfl) (hw : swappedStores [tg] e X.env = pure none := by rfl) (h1 : (assignEach [tg] X.env).map (·.2) = [assign tg X.env] := by rfl) : QS X G (.Assign [tg] e pos) (dAsg t gg) := ⟨ds_asg (ps_asg he.h hg.h hs hw h1)⟩
theorem qs_for {ti : DI} (hp : PassesOwn (model X.prog X.w) X.A X.env X.xe) (hc : X.calm = true) (hi : QI X G tg e ti) (hg : QG X G vs tg gg) (hb : QSs X G sts s1) (hs : ∀ x, foldedSetIterable e X.env x = pure x := by intro _; rfl) : QS X G (.For tg e sts [] pos) (dFor ti gg s1) := ⟨ds_for (ps_for hp hc hi.h hg.h hb.h hs)⟩
theorem qs_while (hp : PassesOwn (model X.prog X.w) X.A X.env X.xe) (hc : QT X G c tA) (hb : QSs X G sts s1) : QS X G (.While c sts [] pos) (dWhile tA s1) := ⟨ds_while (ps_while hp hc.h hb.h)⟩
def TupK (K : PySem.W.Frag) (mg : Str → Option Value) (x : Str) (ss : List Str) : Prop := ∃ p, mg x = some (.ref p) ∧ ∃ (o : Obj) (its : Array Value) (n : Nat), K.lookup p = some o ∧ o.cls = .type "tuple" ∧ o.data = .seq its n ∧ its.size ≤ sizeLine ∧ Vals (ss.map V.str) its.toList
theorem flat_plain {d : D} (h : flatD d = true) : plain d = true := by cases d <;> first | rfl | cases h
theorem inG_lift {ss : List Str} {ds : List D} {pp : Addr} (hk : ∃ (o : Obj) (its : Array Value) (n : Nat), X.K.lookup pp = some o ∧ o.cls = .type "tuple" ∧ o.data = .seq its n ∧ its.size ≤ sizeLine ∧ Vals (ss.map V.str) its.toList) (hds : ds = ss.map D.str) {σ : L2.St} {H : Hp} {Q : VK} (h : LE G (dOp inD ta (dC (.tup ds))) σ H Q) : tOp (rInS X.K G false) (LEs G ta) (tC (.ref pp)) σ H Q := by
  obtain ⟨O, ρ, n, R, a, b, c⟩ := h
  refine ⟨O, ρ, n, _, a, b, fun dx n1 x H1 b1 k1 p1 r1 => ?_⟩
  subst hds
  have b2 : inQ dx (.tup (ss.map D.str)) fun b => R (.bl b) n1 := b1
  have b3 : (flatD dx = true ∧ (ss.map D.str).all flatD = true ∨ plain dx = true ∧ (ss.map D.str).all isStrD = true) ∧ R (.bl ((ss.map D.str).any fun y => eqF y dx)) n1 := b2
  obtain ⟨f, r⟩ := b3
  have pl : plain dx = true := f.elim (fun z => flat_plain z.1) fun z => z.1
  rw [any_eqF _ pl] at r
  exact ⟨O, dx, pp, ss, r1, pl, rfl, .inr (.inr hk), by rw [if_neg (by decide)]; exact c _ _ _ _ r k1 p1 (.bl _)⟩
theorem qt_inG {ss : List Str} {ds : List D} (ha : QV X G a ta) (hg : Gl X x) (hm : TupK X.K X.mg x ss) (hu : X.A.units + 64 < cLine) (hds : ds = ss.map D.str := by rfl) (hmk : behindInMarks .In (.Name x p) = false := by rfl) (hd : (x == ("__debug__" : Str)) = false := by decide) : QT X G (.Compare a [.In] [.Name x p] pos) (dTest (dOp inD ta (dC (.tup ds)))) := by
  obtain ⟨pp, hm, hk⟩ := hm
  exact ⟨PT.of (pt_cmpR (op_inS (G := G) hu) ha.h (pe_glob (v := .ref pp) hg hm rfl hd) hmk) fun σ H Q h => test_lift (te := tOp _ _ _) (fun _ h => inG_lift hk hds h) h⟩
theorem qo_add : QOp X G (binaryOp .Add) addD := ⟨op_addD⟩
theorem qo_sub : QOp X G (binaryOp .Sub) subD := ⟨op_subD⟩
theorem qo_mul : QOp X G (binaryOp .Mult) mulD := ⟨op_mulD⟩
theorem qo_mod : QOp X G (binaryOp .Mod) modD := ⟨op_modD⟩
theorem qo_fdiv : QOp X G (binaryOp .FloorDiv) fdivD := ⟨op_fdivD⟩
theorem qo_lt : QOp X G (compareOp .Lt) ltD := ⟨op_ltD⟩
theorem qo_le : QOp X G (compareOp .LtE) leD := ⟨op_leD⟩
theorem qo_gt : QOp X G (compareOp .Gt) gtD := ⟨op_gtD⟩
theorem qo_eq (hu : X.A.units + 64 < cLine) : QOp X G (compareOp .Eq) eqD := ⟨op_eqDD hu⟩
theorem qo_ne (hu : X.A.units + 64 < cLine) : QOp X G (compareOp .NotEq) neD := ⟨op_neDD hu⟩
theorem qo_in (hu : X.A.units + 64 < cLine) : QOp X G (compareOp .In) inD := ⟨op_inD hu⟩
theorem qo_nin (hu : X.A.units + 64 < cLine) : QOp X G (compareOp .NotIn) ninD := ⟨op_ninD hu⟩
theorem qc_len : QC X G (.builtin "len") lenD := ⟨cb_len⟩
theorem qc_min2 (hc : X.calm = true) : QC X G (.builtin "min") min2D := ⟨cb_min2 hc⟩
theorem qc_max2 (hc : X.calm = true) : QC X G (.builtin "max") max2D := ⟨cb_max2 hc⟩
theorem qc_min (hc : X.calm = true) : QC X G (.builtin "min") minD := ⟨cb_min hc⟩
theorem qc_max (hc : X.calm = true) : QC X G (.builtin "max") maxD := ⟨cb_max hc⟩
theorem qc_sum (hc : X.calm = true) : QC X G (.builtin "sum") sumD := ⟨cb_sum hc⟩
theorem qc_all (hc : X.calm = true) : QC X G (.builtin "all") allD := ⟨cb_all hc⟩
theorem qc_repr (hg : X.A.guards = some []) (hu : X.A.units + 65 < cLine) : QC X G (.builtin "repr") reprD := ⟨cb_repr hg hu⟩
theorem qc_isi : QC X G (.builtin "isinstance") isiD := ⟨cb_isi⟩
theorem qc_int : QC X G (.type "int") Gg.intOfD := ⟨cb_int⟩
theorem qc_str : QC X G (.type "str") strD := ⟨cb_str⟩
theorem qc_tuple : QC X G (.type "tuple") tupleD := ⟨cb_tuple⟩
end
section
variable {P : Program} {w : World} {K : PySem.W.Frag} {mg : Str → Option Value} {base : Heap}
theorem Fun.okQ {x qual : Str} {st : Stmt} {f : Addr} {fd : FuncData} {N ps : List Str} {k m : Nat} {C : DC} {t : DSt} (F : Fun K x qual st f fd) (S : FnScope N ps (defScope st)) (hm : N.length = m) (hl : ∀ ds n R, C ds n R → ds.length = ps.length)
    (hb : ∀ (cdv : Value) (A : Around) (outer : List Env) (s : Shared) (H : Hp) (E : XK) (G : Gx), Room k (A.deeper (envOfC qual (defScope st) s.heap.objs.size f cdv)) → QSs (cxOf CX0 P w K mg base N qual (defScope st) f cdv A outer s H E).nox G (defBody st) t)
    (hd : ∀ {ds n R}, C ds n R → t (ends R) (startN m ds) n) : FnOk P w K mg base CX0 (k + 1) f fd ps (spD C) := Fun.ok3 F S hm hl (fun cdv A outer s H E G hr => (hb cdv A outer s H E G hr).h) hd
theorem QSs.ex {X : Cx} {sts : List Stmt} {t : DSt} (h : ∀ G, QSs X G sts t) : PSs X sts (LSx t) := PSs.ex fun G => (h G).h
end
end Gg

namespace Gg
open PySem PySem.Spec PyProof.Rows L2
def fldD (C : Addr) (f : Str) : D → (D → Prop) → Prop
  | .obj C' ns ds, R => C' = C ∧ ∃ v, (ns.zip ds).lookup f = some v ∧ R v
  | _, _ => False
def dFld (C : Addr) (f : Str) (t : DE) : DE := fun ρ n R => t ρ n fun d n' => fldD C f d fun r => R r n'
def isO (C : Addr) (m : Str) : D → Prop
  | .obj C' ns _ => C' = C ∧ m ∉ ns
  | _ => False
def dMeth (C : Addr) (m : Str) (cM : DC) (t : DE) (u : DA) : DE := fun ρ n R => t ρ n fun d n1 => isO C m d ∧ u ρ n1 fun es n2 => cM (d :: es) n2 R
section
variable {X : Cx} {G : Gx} {O : List Addr} {H : Hp} {v : V} {C C' : Addr} {f m : Str} {ns : List Str} {ds : List D}
theorem Rv.obj (h : Rv G O H v (.obj C ns ds)) : ∃ a dx fs, v = .ref a ∧ H a = some (.ins C dx fs) ∧ fs.map (·.1) = ns ∧ RpAll G.p H (O ++ G.B) (fs.map (·.2)) ds := by
  rcases h with h | ⟨a, vs, xs, _, e, _⟩
  · cases h with
    | obj e nb f ha => exact ⟨_, _, _, rfl, e, f, ha⟩
  · cases e
end
section
variable {X : Cx} {G : Gx} {C : Addr} {f m : Str} {e o : Expr} {es : List Expr} {t : DE} {u : DA} {pos apos p : Pos}
def dNo : DE := fun _ _ _ => False
end
abbrev DIn := List Str → List D → List Sl → Nat → (List Str → List D → Nat → Prop) → Prop
def iNil : DIn := fun ns ds _ n K => K ns ds n
def iDrop (t : DE) (r : DIn) : DIn := fun ns ds ρ n K => t ρ n fun _ n1 => r ns ds ρ n1 K
def iSet (i : Nat) (t : DE) (r : DIn) : DIn := fun ns ds ρ n K => t ρ n fun d n1 => i ≠ 0 ∧ r ns ds (ρ.set i (.val d)) n1 K
def iFld (f : Str) (t : DE) (r : DIn) : DIn := fun ns ds ρ n K => t ρ n fun d n1 => f ∉ ns ∧ ns.length < 90 ∧ r (ns ++ [f]) (ds ++ [d]) ρ n1 K
def iIf (c : DT) (r : DIn) : DIn := fun ns ds ρ n K => c ρ n fun b n1 => b = false ∧ r ns ds ρ n1 K
section
variable {X : Cx} {G : Gx} {C x : Addr} {f y : Str} {e c : Expr} {sts as : List Stmt} {t : DE} {tc : DT} {r : DIn} {pos px p2 : Pos}
end
def startI (m : Nat) (ds : List D) : List Sl := Sl.no :: startN (m - 1) ds
section
variable {P : Program} {w : World} {K : PySem.W.Frag} {mg : Str → Option Value} {base : Heap}
end
end Gg

namespace Gg
open PySem PySem.Spec PyProof.Rows L2
def joinD : Op2
  | .str a, .lst xs, R => ∃ ys : List Str, xs = ys.map D.str ∧ (ys.map (·.length)).sum + ys.length * a.length ≤ 1000000 ∧ R (.str (Txt.join a ys))
  | _, _, _ => False
theorem joinD_l {a : Str} {xs : List D} {R : D → Prop} : joinD (.str a) (.lst xs) R = ∃ ys : List Str, xs = ys.map D.str ∧ (ys.map (·.length)).sum + ys.length * a.length ≤ 1000000 ∧ R (.str (Txt.join a ys)) := rfl
def isS : D → Prop
  | .str _ => True
  | _ => False
/-- o.m(e), o a text -/
def dM1 (g : Op2) (t u : DE) : DE := fun ρ n R => t ρ n fun x n1 => isS x ∧ u ρ n1 fun y n2 => g x y fun d => R d n2
section
variable {X : Cx} {G : Gx} {o e : Expr} {to te : DE} {apos pos : Pos}
end
end Gg

namespace Gg
open PySem PySem.Spec PyProof.Rows L2


theorem min2D_i {i j : Int} {R : D → Prop} : min2D [.int i, .int j] R = R (.int (mn i j)) := rfl
theorem max2D_i {i j : Int} {R : D → Prop} : max2D [.int i, .int j] R = R (.int (mx i j)) := rfl
theorem mn_le {i j : Int} : mn i j ≤ i ∧ mn i j ≤ j ∧ (mn i j = i ∨ mn i j = j) := by
  unfold mn; split <;> omega
theorem mx_ge {i j : Int} : i ≤ mx i j ∧ j ≤ mx i j ∧ (mx i j = i ∨ mx i j = j) := by
  unfold mx; split <;> omega
def cPick : DC := fun ds n R => match ds with
  | [.pen, .lst xs] => 0 < xs.length ∧ xs.length ≤ 1000000 ∧ n ≤ 900000000 ∧ ∀ d, d ∈ xs → R d (n + 1)
  | [.pen, .str z] => 0 < z.length ∧ z.length ≤ 1000000 ∧ n ≤ 900000000 ∧ ∀ c, c ∈ z.cps.toList → R (.str ⟨#[c]⟩) (n + 1)
  | _ => False
theorem atI_in {α : Type} {xs : List α} {d : Int} (h0 : 0 ≤ d) (h1 : d < (xs.length : Int)) : ∃ x, atI xs d = some x ∧ x ∈ xs ∧ xs[d.toNat]? = some x := by
  have hk : d.toNat < xs.length := by omega
  have e : atI xs ((d.toNat : Nat) : Int) = some xs[d.toNat] := atI_nat (List.getElem?_eq_getElem hk)
  rw [show ((d.toNat : Nat) : Int) = d by omega] at e
  exact ⟨_, e, List.getElem_mem hk, List.getElem?_eq_getElem hk⟩

theorem wp_law_pick {ds : List D} {n : Nat} {R : D → Nat → Prop} (h : cPick ds n R) : (dRet (dOp ixD (dVar 1) (dCall cDraw (dCons (dVarC 0) (dCons (dB lenD (dCons (dVar 1) dNil)) dNil))))) (ends R) (startN 2 ds) n := by
  unfold cPick at h
  split at h
  · obtain ⟨h0, h1, h2, h⟩ := h
    simp only [dSeq, dSet, dOwn, dVar, dVarC, dC, dOp, dTest, dChain, dAndT, dOrT, dNotT, dAndV, dOrV, dNotV, dIf, dIfS, dRet, dRetN, dNext, dDrop, dAppend, dSetIx, dFrz, dPar, dB, dCall, dCons, dNil, dTup, dLst, dLc, dYes, dSeqI, seqQ, dRng1, dRng2, dZip, dEnum, dFor, dAsg, dgName, dgTup, dgCons, dgNil, dTruth, truD, dNeg, negQ, dNoPart, dPart, dSl, slD, dRv, rvD, dAug, dBreak, dCont, dNever, wipeS, startN, ends, lenD, absD, min2D_i, max2D_i, Gg.intOfD, tupleD, listD, isiD, strD, addD, Gg.intD, subD, mulD, modD, fdivD, powD, ltD, leD, gtD, geD, isND, notND, catLD, ixD, inD, ninD, eqD, neD, eqQ, List.map_cons, List.map_nil, List.length_cons, List.length_nil, List.cons_append, List.nil_append, List.replicate, List.getElem?_cons_zero, List.getElem?_cons_succ, List.set_cons_zero, List.set_cons_succ, Nat.reduceAdd, Nat.reduceSub, cDraw]
    refine ⟨by omega, by omega, by omega, fun d d0 d1 => ?_⟩
    obtain ⟨x, e, m, _⟩ := atI_in d0 d1
    exact ⟨x, e, h x m⟩
  · obtain ⟨h0, h1, h2, h⟩ := h
    simp only [dSeq, dSet, dOwn, dVar, dVarC, dC, dOp, dTest, dChain, dAndT, dOrT, dNotT, dAndV, dOrV, dNotV, dIf, dIfS, dRet, dRetN, dNext, dDrop, dAppend, dSetIx, dFrz, dPar, dB, dCall, dCons, dNil, dTup, dLst, dLc, dYes, dSeqI, seqQ, dRng1, dRng2, dZip, dEnum, dFor, dAsg, dgName, dgTup, dgCons, dgNil, dTruth, truD, dNeg, negQ, dNoPart, dPart, dSl, slD, dRv, rvD, dAug, dBreak, dCont, dNever, wipeS, startN, ends, lenD, absD, min2D_i, max2D_i, Gg.intOfD, tupleD, listD, isiD, strD, addD, Gg.intD, subD, mulD, modD, fdivD, powD, ltD, leD, gtD, geD, isND, notND, catLD, ixD, inD, ninD, eqD, neD, eqQ, List.map_cons, List.map_nil, List.length_cons, List.length_nil, List.cons_append, List.nil_append, List.replicate, List.getElem?_cons_zero, List.getElem?_cons_succ, List.set_cons_zero, List.set_cons_succ, Nat.reduceAdd, Nat.reduceSub, cDraw]
    refine ⟨h1, by omega, by omega, by omega, fun d d0 d1 => ⟨h1, ?_⟩⟩
    obtain ⟨x, e, m, _⟩ := atI_in (xs := _) d0 d1
    exact ⟨x, e, h x m⟩
  · exact h.elim


def isW : D → Bool
  | .int _ => true
  | _ => false
def inB (lo hi : Int) : D → Bool
  | .int i => decide (lo ≤ i) && decide (i ≤ hi)
  | _ => false
def cIsW : DC := fun ds n R => match ds with
  | [d] => plain d = true ∧ R (.bl (isW d)) n
  | _ => False
def cIsWF : DC := fun ds n R => match ds with
  | [d, .int lo, .int hi] => plain d = true ∧ R (.bl (inB lo hi d)) n
  | _ => False
def cFar : DC := fun ds n R => match ds with
  | [.pen, .int u] => 100 ≤ u ∧ n ≤ 900000000 ∧ ∀ d : Int, 0 ≤ d → d ≤ u → R (.int d) (n + 3)
  | _ => False

theorem wp_is_whole {ds : List D} {n : Nat} {R : D → Nat → Prop} (h : cIsW ds n R) : (dRet (dAndV (dB isiD (dCons (dVar 0) (dCons (dC (.ty "int")) dNil))) (dNotV (dB isiD (dCons (dVar 0) (dCons (dC (.ty "bool")) dNil)))))) (ends R) (startN 1 ds) n := by
  unfold cIsW at h
  split at h
  case h_2 => exact h.elim
  next d =>
  obtain ⟨pl, h⟩ := h
  cases d <;> first | (simp [Gg.plain] at pl; done) | (simp [isW] at h; simp [dSeq, dSet, dOwn, dVar, dVarC, dC, dOp, dTest, dChain, dAndT, dOrT, dNotT, dAndV, dOrV, dNotV, dIf, dIfS, dRet, dRetN, dNext, dDrop, dAppend, dSetIx, dFrz, dPar, dB, dCall, dCons, dNil, dTup, dLst, dLc, dYes, dSeqI, seqQ, dRng1, dRng2, dZip, dEnum, dFor, dAsg, dgName, dgTup, dgCons, dgNil, dTruth, truD, dNeg, negQ, dNoPart, dPart, dSl, slD, dRv, rvD, dAug, dBreak, dCont, dNever, wipeS, startN, ends, lenD, absD, min2D_i, max2D_i, Gg.intOfD, tupleD, listD, isiD, strD, addD, Gg.intD, subD, mulD, modD, fdivD, powD, ltD, leD, gtD, geD, isND, notND, catLD, ixD, inD, ninD, eqD, neD, eqQ, List.map_cons, List.map_nil, List.length_cons, List.length_nil, List.cons_append, List.nil_append, List.replicate, List.getElem?_cons_zero, List.getElem?_cons_succ, List.set_cons_zero, List.set_cons_succ, Nat.reduceAdd, Nat.reduceSub, tyOf, isT, plainT]; exact h)

theorem wp_is_whole_from {ds : List D} {n : Nat} {R : D → Nat → Prop} (h : cIsWF ds n R) : (dRet (dAndV (dCall cIsW (dCons (dVarC 0) dNil)) (dChain leD leD (dVar 1) (dVar 0) (dVar 2)))) (ends R) (startN 3 ds) n := by
  unfold cIsWF at h
  split at h
  case h_2 => exact h.elim
  next d lo hi =>
  obtain ⟨pl, h⟩ := h
  simp only [dSeq, dSet, dOwn, dVar, dVarC, dC, dOp, dTest, dChain, dAndT, dOrT, dNotT, dAndV, dOrV, dNotV, dIf, dIfS, dRet, dRetN, dNext, dDrop, dAppend, dSetIx, dFrz, dPar, dB, dCall, dCons, dNil, dTup, dLst, dLc, dYes, dSeqI, seqQ, dRng1, dRng2, dZip, dEnum, dFor, dAsg, dgName, dgTup, dgCons, dgNil, dTruth, truD, dNeg, negQ, dNoPart, dPart, dSl, slD, dRv, rvD, dAug, dBreak, dCont, dNever, wipeS, startN, ends, lenD, absD, min2D_i, max2D_i, Gg.intOfD, tupleD, listD, isiD, strD, addD, Gg.intD, subD, mulD, modD, fdivD, powD, ltD, leD, gtD, geD, isND, notND, catLD, ixD, inD, ninD, eqD, neD, eqQ, List.map_cons, List.map_nil, List.length_cons, List.length_nil, List.cons_append, List.nil_append, List.replicate, List.getElem?_cons_zero, List.getElem?_cons_succ, List.set_cons_zero, List.set_cons_succ, Nat.reduceAdd, Nat.reduceSub, cIsW]
  refine ⟨pl, ?_⟩
  cases d <;> first | (simp [isW, inB] at h ⊢; exact h) | skip
  next i =>
  simp only [isW, if_true, dSeq, dSet, dOwn, dVar, dVarC, dC, dOp, dTest, dChain, dAndT, dOrT, dNotT, dAndV, dOrV, dNotV, dIf, dIfS, dRet, dRetN, dNext, dDrop, dAppend, dSetIx, dFrz, dPar, dB, dCall, dCons, dNil, dTup, dLst, dLc, dYes, dSeqI, seqQ, dRng1, dRng2, dZip, dEnum, dFor, dAsg, dgName, dgTup, dgCons, dgNil, dTruth, truD, dNeg, negQ, dNoPart, dPart, dSl, slD, dRv, rvD, dAug, dBreak, dCont, dNever, wipeS, startN, ends, lenD, absD, min2D_i, max2D_i, Gg.intOfD, tupleD, listD, isiD, strD, addD, Gg.intD, subD, mulD, modD, fdivD, powD, ltD, leD, gtD, geD, isND, notND, catLD, ixD, inD, ninD, eqD, neD, eqQ, List.map_cons, List.map_nil, List.length_cons, List.length_nil, List.cons_append, List.nil_append, List.replicate, List.getElem?_cons_zero, List.getElem?_cons_succ, List.set_cons_zero, List.set_cons_succ, Nat.reduceAdd, Nat.reduceSub]
  simp only [inB] at h
  by_cases z : lo ≤ i
  · simp only [z, decide_true, Bool.true_and, if_true] at h ⊢; exact h
  · simp only [z, decide_false, Bool.false_and, Bool.false_eq_true, if_false] at h ⊢; exact h

theorem wp_law_is_from {ds : List D} {n : Nat} {R : D → Nat → Prop} (h : cIsWF ds n R) : (dRet (dAndV (dB isiD (dCons (dVar 0) (dCons (dC (.ty "int")) dNil))) (dAndV (dNotV (dB isiD (dCons (dVar 0) (dCons (dC (.ty "bool")) dNil)))) (dChain leD leD (dVar 1) (dVar 0) (dVar 2))))) (ends R) (startN 3 ds) n := by
  unfold cIsWF at h
  split at h
  case h_2 => exact h.elim
  next d lo hi =>
  obtain ⟨pl, h⟩ := h
  cases d <;> first | (simp [Gg.plain] at pl; done) | (simp [inB] at h; simp [dSeq, dSet, dOwn, dVar, dVarC, dC, dOp, dTest, dChain, dAndT, dOrT, dNotT, dAndV, dOrV, dNotV, dIf, dIfS, dRet, dRetN, dNext, dDrop, dAppend, dSetIx, dFrz, dPar, dB, dCall, dCons, dNil, dTup, dLst, dLc, dYes, dSeqI, seqQ, dRng1, dRng2, dZip, dEnum, dFor, dAsg, dgName, dgTup, dgCons, dgNil, dTruth, truD, dNeg, negQ, dNoPart, dPart, dSl, slD, dRv, rvD, dAug, dBreak, dCont, dNever, wipeS, startN, ends, lenD, absD, min2D_i, max2D_i, Gg.intOfD, tupleD, listD, isiD, strD, addD, Gg.intD, subD, mulD, modD, fdivD, powD, ltD, leD, gtD, geD, isND, notND, catLD, ixD, inD, ninD, eqD, neD, eqQ, List.map_cons, List.map_nil, List.length_cons, List.length_nil, List.cons_append, List.nil_append, List.replicate, List.getElem?_cons_zero, List.getElem?_cons_succ, List.set_cons_zero, List.set_cons_succ, Nat.reduceAdd, Nat.reduceSub, tyOf, isT, plainT]; exact h) | skip
  next i =>
  simp [dSeq, dSet, dOwn, dVar, dVarC, dC, dOp, dTest, dChain, dAndT, dOrT, dNotT, dAndV, dOrV, dNotV, dIf, dIfS, dRet, dRetN, dNext, dDrop, dAppend, dSetIx, dFrz, dPar, dB, dCall, dCons, dNil, dTup, dLst, dLc, dYes, dSeqI, seqQ, dRng1, dRng2, dZip, dEnum, dFor, dAsg, dgName, dgTup, dgCons, dgNil, dTruth, truD, dNeg, negQ, dNoPart, dPart, dSl, slD, dRv, rvD, dAug, dBreak, dCont, dNever, wipeS, startN, ends, lenD, absD, min2D_i, max2D_i, Gg.intOfD, tupleD, listD, isiD, strD, addD, Gg.intD, subD, mulD, modD, fdivD, powD, ltD, leD, gtD, geD, isND, notND, catLD, ixD, inD, ninD, eqD, neD, eqQ, List.map_cons, List.map_nil, List.length_cons, List.length_nil, List.cons_append, List.nil_append, List.replicate, List.getElem?_cons_zero, List.getElem?_cons_succ, List.set_cons_zero, List.set_cons_succ, Nat.reduceAdd, Nat.reduceSub, tyOf, isT, plainT]
  simp only [inB] at h
  by_cases z : lo ≤ i
  · simp only [z, decide_true, Bool.true_and, if_true] at h ⊢; exact h
  · simp only [z, decide_false, Bool.false_and, Bool.false_eq_true, if_false] at h ⊢; exact h

theorem wp_law_far {ds : List D} {n : Nat} {R : D → Nat → Prop} (h : cFar ds n R) : (dSeq (dSet 2 (dOp addD (dOp mulD (dCall cDraw (dCons (dVarC 0) (dCons (dC (.int 63245)) dNil))) (dC (.int 63247))) (dCall cDraw (dCons (dVarC 0) (dCons (dC (.int 63247)) dNil)))))
    (dRet (dOp ixD (dLst (dCons (dOp modD (dVar 2) (dOp addD (dVar 1) (dC (.int 1)))) (dCons (dC (.int 0)) (dCons (dC (.int 1)) (dCons (dC (.int 9)) (dCons (dC (.int 10)) (dCons (dC (.int 99)) (dCons (dC (.int 100)) (dCons (dOp subD (dVar 1) (dC (.int 1))) (dCons (dVarC 1) dNil)))))))))) (dOp fdivD (dCall cDraw (dCons (dVarC 0) (dCons (dC (.int 18)) dNil))) (dC (.int 2)))))) (ends R) (startN 3 ds) n := by
  unfold cFar at h
  split at h
  case h_2 => exact h.elim
  next u =>
  obtain ⟨u0, hn, h⟩ := h
  simp only [dSeq, dSet, dOwn, dVar, dVarC, dC, dOp, dTest, dChain, dAndT, dOrT, dNotT, dAndV, dOrV, dNotV, dIf, dIfS, dRet, dRetN, dNext, dDrop, dAppend, dSetIx, dFrz, dPar, dB, dCall, dCons, dNil, dTup, dLst, dLc, dYes, dSeqI, seqQ, dRng1, dRng2, dZip, dEnum, dFor, dAsg, dgName, dgTup, dgCons, dgNil, dTruth, truD, dNeg, negQ, dNoPart, dPart, dSl, slD, dRv, rvD, dAug, dBreak, dCont, dNever, wipeS, startN, ends, lenD, absD, min2D_i, max2D_i, Gg.intOfD, tupleD, listD, isiD, strD, addD, Gg.intD, subD, mulD, modD, fdivD, powD, ltD, leD, gtD, geD, isND, notND, catLD, ixD, inD, ninD, eqD, neD, eqQ, List.map_cons, List.map_nil, List.length_cons, List.length_nil, List.cons_append, List.nil_append, List.replicate, List.getElem?_cons_zero, List.getElem?_cons_succ, List.set_cons_zero, List.set_cons_succ, Nat.reduceAdd, Nat.reduceSub, cDraw]
  refine ⟨by decide, by decide, by omega, fun a a0 a1 => ⟨.inr ⟨by decide, by decide⟩, by decide, by decide, by omega, fun b b0 b1 => ⟨by omega, by decide, by decide, by decide, by omega, fun c c0 c1 => ⟨by decide, by decide, ?_⟩⟩⟩⟩
  have e0 := Int.emod_nonneg (a * 63247 + b) (show u + 1 ≠ 0 by omega)
  have e1 := Int.emod_lt_of_pos (a * 63247 + b) (show 0 < u + 1 by omega)
  obtain ⟨x, e, m, _⟩ := atI_in (xs := [D.int ((a * 63247 + b) % (u + 1)), D.int 0, D.int 1, D.int 9, D.int 10, D.int 99, D.int 100, D.int (u - 1), D.int u]) (d := c / 2) (by omega) (by show c / 2 < 9; omega)
  refine ⟨x, e, ?_⟩
  simp only [List.mem_cons, List.not_mem_nil, or_false] at m
  rcases m with rfl | rfl | rfl | rfl | rfl | rfl | rfl | rfl | rfl <;> exact h _ (by omega) (by omega)

end Gg

namespace Gg
open PySem PySem.Spec PyProof.Rows L2


def wtsB (many : Int) : D → Bool
  | .tup xs => decide ((xs.length : Int) = many) && xs.all (inB 0 1000)
  | _ => false
def scaleB (many : Int) : Nat → D → Bool
  | 0, _ => false
  | k + 1, .tup (x :: xs) =>
    if [D.str "times", D.str "low", D.str "high"].any fun y => eqF y x then xs.isEmpty
    else if strIs "sum" x then (match xs with | [w] => wtsB many w | _ => false)
    else if [D.str "add", D.str "lesser", D.str "greater"].any fun y => eqF y x then (match xs with | [a, b] => scaleB many k a && scaleB many k b | _ => false)
    else false
  | _ + 1, _ => false
def Sz (d : D) : Prop := plain d = true ∧ ∃ k m, Bd k m 1000000 (toP d)
theorem toPs_mem : ∀ {xs : List D} {x : D}, x ∈ xs → toP x ∈ toPs xs
  | y :: ys, x, h => by
    rw [toPs]
    rcases List.mem_cons.mp h with rfl | h
    · exact List.mem_cons_self ..
    · exact List.mem_cons_of_mem _ (toPs_mem h)
theorem Sz.tup {xs : List D} (h : Sz (.tup xs)) : xs.length ≤ 1000000 ∧ ∀ x, x ∈ xs → Sz x := by
  obtain ⟨pl, k, m, b⟩ := h
  rw [Gg.plain] at pl
  rw [toP] at b
  obtain ⟨m', v, bs, _, hv⟩ := b.ofTup
  refine ⟨?_, fun x hx => ⟨plains_mem pl x hx, k, m', ((bs.mem (toPs_mem hx)).mono (Nat.le_refl _) (by omega))⟩⟩
  have := bs.len
  rw [toPs_len] at this
  omega
theorem Sz.cons {x : D} {xs : List D} (h : Sz (.tup (x :: xs))) : Sz x ∧ xs.length ≤ 1000000 ∧ ∀ y, y ∈ xs → Sz y := by
  obtain ⟨h1, h2⟩ := h.tup
  rw [List.length_cons] at h1
  exact ⟨h2 x (List.mem_cons_self ..), by omega, fun y hy => h2 y (List.mem_cons_of_mem _ hy)⟩
theorem cut1D (x : D) (xs : List D) : cutL (x :: xs) (some 1) none = xs := by
  simp [cutL, HT.sIx]
def cWts : DC := fun ds n R => match ds with
  | [d, .int many] => Sz d ∧ R (.bl (wtsB many d)) n
  | _ => False
def cScW (m : Nat) : DC := fun ds n R => match ds with
  | [d, .int many, .int w] => Sz d ∧ 0 ≤ w ∧ w < m ∧ R (.bl (scaleB many w.toNat d)) n
  | _ => False
theorem cScW_zero {ds : List D} {n : Nat} {R : D → Nat → Prop} (h : cScW 0 ds n R) : False := by
  unfold cScW at h
  split at h
  · obtain ⟨_, h1, h2, _⟩ := h; omega
  · exact h
def cSc : DC := fun ds n R => match ds with
  | [d, .int many] => Sz d ∧ R (.bl (scaleB many 4 d)) n
  | _ => False
theorem fm_all (f : D → Bool) : ∀ xs : List D, (xs.filterMap fun d => if f d then none else some d).isEmpty = xs.all f
  | [] => rfl
  | x :: xs => by
    rw [List.filterMap_cons, List.all_cons]
    cases h : f x
    · rfl
    · simpa using fm_all f xs

theorem wp_are_weights {ds : List D} {n : Nat} {R : D → Nat → Prop} (h : cWts ds n R) : (dSeq (dIfS (dOrT (dNotT (dTruth (dB isiD (dCons (dVar 0) (dCons (dC (.ty "tuple")) dNil))))) (dTest (dOp neD (dB lenD (dCons (dVar 0) dNil)) (dVar 1)))) (dRet (dC (.bl false))) dNext)
    (dRet (dB allD (dCons (dLc (dSeqI (dVar 0)) (dgName 2) dYes (dCall cIsWF (dCons (dVarC 2) (dCons (dC (.int 0)) (dCons (dC (.int 1000)) dNil)))) [2]) dNil)))) (ends R) (startN 3 ds) n := by
  unfold cWts at h
  split at h
  case h_2 => exact h.elim
  next d many =>
  obtain ⟨sz, h⟩ := h
  cases d <;> first | (have pl := sz.1; simp [Gg.plain] at pl; done) | (simp only [wtsB] at h; simp [dSeq, dSet, dOwn, dVar, dVarC, dC, dOp, dTest, dChain, dAndT, dOrT, dNotT, dAndV, dOrV, dNotV, dIf, dIfS, dRet, dRetN, dNext, dDrop, dAppend, dSetIx, dFrz, dPar, dB, dCall, dCons, dNil, dTup, dLst, dLc, dYes, dSeqI, seqQ, dRng1, dRng2, dZip, dEnum, dFor, dAsg, dgName, dgTup, dgCons, dgNil, dTruth, truD, dNeg, negQ, dNoPart, dPart, dSl, slD, dRv, rvD, dAug, dBreak, dCont, dNever, wipeS, startN, ends, lenD, absD, min2D_i, max2D_i, Gg.intOfD, tupleD, listD, isiD, strD, addD, Gg.intD, subD, mulD, modD, fdivD, powD, ltD, leD, gtD, geD, isND, notND, catLD, List.map_cons, List.map_nil, List.length_cons, List.length_nil, List.cons_append, List.nil_append, List.replicate, List.getElem?_cons_zero, List.getElem?_cons_succ, List.set_cons_zero, List.set_cons_succ, Nat.reduceAdd, Nat.reduceSub, eqD_int, neD_int, eqD_bl, neD_bl, eqD_ss, neD_ss, eqD_ln, neD_ln, eqD_tn, neD_tn, ixD_0, tyOf, isT, plainT]; exact h) | skip
  next xs =>
  simp only [dSeq, dSet, dOwn, dVar, dVarC, dC, dOp, dTest, dChain, dAndT, dOrT, dNotT, dAndV, dOrV, dNotV, dIf, dIfS, dRet, dRetN, dNext, dDrop, dAppend, dSetIx, dFrz, dPar, dB, dCall, dCons, dNil, dTup, dLst, dLc, dYes, dSeqI, seqQ, dRng1, dRng2, dZip, dEnum, dFor, dAsg, dgName, dgTup, dgCons, dgNil, dTruth, truD, dNeg, negQ, dNoPart, dPart, dSl, slD, dRv, rvD, dAug, dBreak, dCont, dNever, wipeS, startN, ends, lenD, absD, min2D_i, max2D_i, Gg.intOfD, tupleD, listD, isiD, strD, addD, Gg.intD, subD, mulD, modD, fdivD, powD, ltD, leD, gtD, geD, isND, notND, catLD, List.map_cons, List.map_nil, List.length_cons, List.length_nil, List.cons_append, List.nil_append, List.replicate, List.getElem?_cons_zero, List.getElem?_cons_succ, List.set_cons_zero, List.set_cons_succ, Nat.reduceAdd, Nat.reduceSub, eqD_int, neD_int, eqD_bl, neD_bl, eqD_ss, neD_ss, eqD_ln, neD_ln, eqD_tn, neD_tn, ixD_0, tyOf, isT, plainT, Option.isSome_some, beq_self_eq_true, Bool.true_or, Bool.or_true, Bool.not_true, Bool.not_false, Bool.false_eq_true, if_false, if_true, true_and, Option.some.injEq]
  obtain ⟨l, sx⟩ := sz.tup
  simp only [wtsB] at h
  by_cases z : (xs.length : Int) = many
  case neg => simp only [z, decide_true, decide_false, Bool.true_and, Bool.false_and, Bool.and_true, Bool.and_false, Bool.not_true, Bool.not_false, Bool.false_eq_true, if_true, if_false, Bool.true_or, Bool.or_true, Bool.false_or, Bool.or_false] at h ⊢; exact h
  simp only [z, decide_true, decide_false, Bool.true_and, Bool.false_and, Bool.and_true, Bool.and_false, Bool.not_true, Bool.not_false, Bool.false_eq_true, if_true, if_false, Bool.true_or, Bool.or_true, Bool.false_or, Bool.or_false] at h ⊢
  refine ⟨l, lcl_map (fun d => .bl (inB 0 1000 d)) (fun d hd n S q => ?_) ?_⟩
  · simp only [dSeq, dSet, dOwn, dVar, dVarC, dC, dOp, dTest, dChain, dAndT, dOrT, dNotT, dAndV, dOrV, dNotV, dIf, dIfS, dRet, dRetN, dNext, dDrop, dAppend, dSetIx, dFrz, dPar, dB, dCall, dCons, dNil, dTup, dLst, dLc, dYes, dSeqI, seqQ, dRng1, dRng2, dZip, dEnum, dFor, dAsg, dgName, dgTup, dgCons, dgNil, dTruth, truD, dNeg, negQ, dNoPart, dPart, dSl, slD, dRv, rvD, dAug, dBreak, dCont, dNever, wipeS, startN, ends, lenD, absD, min2D_i, max2D_i, Gg.intOfD, tupleD, listD, isiD, strD, addD, Gg.intD, subD, mulD, modD, fdivD, powD, ltD, leD, gtD, geD, isND, notND, catLD, List.map_cons, List.map_nil, List.length_cons, List.length_nil, List.cons_append, List.nil_append, List.replicate, List.getElem?_cons_zero, List.getElem?_cons_succ, List.set_cons_zero, List.set_cons_succ, Nat.reduceAdd, Nat.reduceSub, eqD_int, neD_int, eqD_bl, neD_bl, eqD_ss, neD_ss, eqD_ln, neD_ln, eqD_tn, neD_tn, ixD_0, cIsWF]
    exact ⟨(sx d hd).1, q⟩
  · simp only [allD]
    refine ⟨xs.map (inB 0 1000), by rw [List.map_map]; rfl, ?_⟩
    rw [List.all_map]
    exact h

theorem wp_is_scale_within {m : Nat} {ds : List D} {n : Nat} {R : D → Nat → Prop} (h : cScW (m + 1) ds n R) : (dSeq (dIfS (dOrT (dTest (dOp eqD (dVar 2) (dC (.int 0)))) (dOrT (dNotT (dTruth (dB isiD (dCons (dVar 0) (dCons (dC (.ty "tuple")) dNil))))) (dTest (dOp eqD (dB lenD (dCons (dVar 0) dNil)) (dC (.int 0)))))) (dRet (dC (.bl false))) dNext)
    (dSeq (dIfS (dTest (dOp inD (dOp ixD (dVar 0) (dC (.int 0))) (dC (.tup [.str "times", .str "low", .str "high"])))) (dRet (dOp eqD (dB lenD (dCons (dVar 0) dNil)) (dC (.int 1)))) dNext)
    (dSeq (dIfS (dTest (dOp eqD (dOp ixD (dVar 0) (dC (.int 0))) (dC (.str "sum")))) (dRet (dAndV (dOp eqD (dB lenD (dCons (dVar 0) dNil)) (dC (.int 2))) (dCall cWts (dCons (dOp ixD (dVar 0) (dC (.int 1))) (dCons (dVarC 1) dNil))))) dNext)
    (dSeq (dIfS (dAndT (dTest (dOp inD (dOp ixD (dVar 0) (dC (.int 0))) (dC (.tup [.str "add", .str "lesser", .str "greater"])))) (dTest (dOp eqD (dB lenD (dCons (dVar 0) dNil)) (dC (.int 3))))) (dRet (dB allD (dCons (dLc (dSeqI (dSl (dVar 0) (dPart (dC (.int 1))) dNoPart)) (dgName 3) dYes (dCall (cScW m) (dCons (dVarC 3) (dCons (dVarC 1) (dCons (dOp subD (dVar 2) (dC (.int 1))) dNil)))) [3]) dNil))) dNext)
    (dRet (dC (.bl false))))))) (ends R) (startN 4 ds) n := by
  unfold cScW at h
  split at h
  case h_2 => exact h.elim
  next d many w =>
  obtain ⟨sz, w0, w1, h⟩ := h
  simp only [dSeq, dSet, dOwn, dVar, dVarC, dC, dOp, dTest, dChain, dAndT, dOrT, dNotT, dAndV, dOrV, dNotV, dIf, dIfS, dRet, dRetN, dNext, dDrop, dAppend, dSetIx, dFrz, dPar, dB, dCall, dCons, dNil, dTup, dLst, dLc, dYes, dSeqI, seqQ, dRng1, dRng2, dZip, dEnum, dFor, dAsg, dgName, dgTup, dgCons, dgNil, dTruth, truD, dNeg, negQ, dNoPart, dPart, dSl, slD, dRv, rvD, dAug, dBreak, dCont, dNever, wipeS, startN, ends, lenD, absD, min2D_i, max2D_i, Gg.intOfD, tupleD, listD, isiD, strD, addD, Gg.intD, subD, mulD, modD, fdivD, powD, ltD, leD, gtD, geD, isND, notND, catLD, List.map_cons, List.map_nil, List.length_cons, List.length_nil, List.cons_append, List.nil_append, List.replicate, List.getElem?_cons_zero, List.getElem?_cons_succ, List.set_cons_zero, List.set_cons_succ, Nat.reduceAdd, Nat.reduceSub, eqD_int, neD_int, eqD_bl, neD_bl, eqD_ss, neD_ss, eqD_ln, neD_ln, eqD_tn, neD_tn, ixD_0]
  by_cases z : w = 0
  case pos => subst z; simp only [decide_true, decide_false, Bool.true_and, Bool.false_and, Bool.and_true, Bool.and_false, Bool.not_true, Bool.not_false, Bool.false_eq_true, if_true, if_false, Bool.true_or, Bool.or_true, Bool.false_or, Bool.or_false, Int.toNat_zero, scaleB] at h ⊢; exact h
  obtain ⟨k, rfl⟩ : ∃ k : Nat, w = k + 1 := ⟨w.toNat - 1, by omega⟩
  rw [show ((k : Int) + 1).toNat = k + 1 by omega] at h
  simp only [z, decide_true, decide_false, Bool.true_and, Bool.false_and, Bool.and_true, Bool.and_false, Bool.not_true, Bool.not_false, Bool.false_eq_true, if_true, if_false, Bool.true_or, Bool.or_true, Bool.false_or, Bool.or_false]
  cases d <;> first | (have pl := sz.1; simp [Gg.plain] at pl; done) | (simp only [scaleB] at h; simp [dSeq, dSet, dOwn, dVar, dVarC, dC, dOp, dTest, dChain, dAndT, dOrT, dNotT, dAndV, dOrV, dNotV, dIf, dIfS, dRet, dRetN, dNext, dDrop, dAppend, dSetIx, dFrz, dPar, dB, dCall, dCons, dNil, dTup, dLst, dLc, dYes, dSeqI, seqQ, dRng1, dRng2, dZip, dEnum, dFor, dAsg, dgName, dgTup, dgCons, dgNil, dTruth, truD, dNeg, negQ, dNoPart, dPart, dSl, slD, dRv, rvD, dAug, dBreak, dCont, dNever, wipeS, startN, ends, lenD, absD, min2D_i, max2D_i, Gg.intOfD, tupleD, listD, isiD, strD, addD, Gg.intD, subD, mulD, modD, fdivD, powD, ltD, leD, gtD, geD, isND, notND, catLD, List.map_cons, List.map_nil, List.length_cons, List.length_nil, List.cons_append, List.nil_append, List.replicate, List.getElem?_cons_zero, List.getElem?_cons_succ, List.set_cons_zero, List.set_cons_succ, Nat.reduceAdd, Nat.reduceSub, eqD_int, neD_int, eqD_bl, neD_bl, eqD_ss, neD_ss, eqD_ln, neD_ln, eqD_tn, neD_tn, ixD_0, tyOf, isT, plainT]; exact h) | skip
  next xs =>
  cases xs with
  | nil => simp only [scaleB] at h; simp [dSeq, dSet, dOwn, dVar, dVarC, dC, dOp, dTest, dChain, dAndT, dOrT, dNotT, dAndV, dOrV, dNotV, dIf, dIfS, dRet, dRetN, dNext, dDrop, dAppend, dSetIx, dFrz, dPar, dB, dCall, dCons, dNil, dTup, dLst, dLc, dYes, dSeqI, seqQ, dRng1, dRng2, dZip, dEnum, dFor, dAsg, dgName, dgTup, dgCons, dgNil, dTruth, truD, dNeg, negQ, dNoPart, dPart, dSl, slD, dRv, rvD, dAug, dBreak, dCont, dNever, wipeS, startN, ends, lenD, absD, min2D_i, max2D_i, Gg.intOfD, tupleD, listD, isiD, strD, addD, Gg.intD, subD, mulD, modD, fdivD, powD, ltD, leD, gtD, geD, isND, notND, catLD, List.map_cons, List.map_nil, List.length_cons, List.length_nil, List.cons_append, List.nil_append, List.replicate, List.getElem?_cons_zero, List.getElem?_cons_succ, List.set_cons_zero, List.set_cons_succ, Nat.reduceAdd, Nat.reduceSub, eqD_int, neD_int, eqD_bl, neD_bl, eqD_ss, neD_ss, eqD_ln, neD_ln, eqD_tn, neD_tn, ixD_0, tyOf, isT, plainT]; exact h
  | cons x xs =>
  obtain ⟨sx, l, sxs⟩ := sz.cons
  have i0 : ¬ ((xs.length + 1 : Nat) : Int) = 0 := by omega
  have ia := fun R => inD_t (R := R) (ys := [D.str "times", D.str "low", D.str "high"]) sx.1 (by decide)
  have ib := fun R => inD_t (R := R) (ys := [D.str "add", D.str "lesser", D.str "greater"]) sx.1 (by decide)
  simp only [dSeq, dSet, dOwn, dVar, dVarC, dC, dOp, dTest, dChain, dAndT, dOrT, dNotT, dAndV, dOrV, dNotV, dIf, dIfS, dRet, dRetN, dNext, dDrop, dAppend, dSetIx, dFrz, dPar, dB, dCall, dCons, dNil, dTup, dLst, dLc, dYes, dSeqI, seqQ, dRng1, dRng2, dZip, dEnum, dFor, dAsg, dgName, dgTup, dgCons, dgNil, dTruth, truD, dNeg, negQ, dNoPart, dPart, dSl, slD, dRv, rvD, dAug, dBreak, dCont, dNever, wipeS, startN, ends, lenD, absD, min2D_i, max2D_i, Gg.intOfD, tupleD, listD, isiD, strD, addD, Gg.intD, subD, mulD, modD, fdivD, powD, ltD, leD, gtD, geD, isND, notND, catLD, List.map_cons, List.map_nil, List.length_cons, List.length_nil, List.cons_append, List.nil_append, List.replicate, List.getElem?_cons_zero, List.getElem?_cons_succ, List.set_cons_zero, List.set_cons_succ, Nat.reduceAdd, Nat.reduceSub, eqD_int, neD_int, eqD_bl, neD_bl, eqD_ss, neD_ss, eqD_ln, neD_ln, eqD_tn, neD_tn, ixD_0, tyOf, isT, plainT, Option.isSome_some, beq_self_eq_true, true_and, Option.some.injEq, String.reduceBEq, reduceCtorEq, String.reduceEq, decide_true, decide_false, Bool.true_and, Bool.false_and, Bool.and_true, Bool.and_false, Bool.not_true, Bool.not_false, Bool.false_eq_true, if_true, if_false, Bool.true_or, Bool.or_true, Bool.false_or, Bool.or_false, i0, ia, ib, eqD_s sx.1]
  simp only [scaleB] at h
  by_cases c1 : ([D.str "times", D.str "low", D.str "high"].any fun y => eqF y x) = true
  · simp only [c1, if_true] at h ⊢
    rw [show decide (((xs.length + 1 : Nat) : Int) = 1) = xs.isEmpty from by cases xs <;> simp <;> omega]
    exact h
  simp only [c1, Bool.false_eq_true, if_false] at h ⊢
  by_cases c2 : strIs "sum" x = true
  · simp only [c2, if_true] at h ⊢
    cases xs with
    | nil => simp only [decide_true, decide_false, Bool.true_and, Bool.false_and, Bool.and_true, Bool.and_false, Bool.not_true, Bool.not_false, Bool.false_eq_true, if_true, if_false, Bool.true_or, Bool.or_true, Bool.false_or, Bool.or_false, List.length_nil] at h ⊢; exact h
    | cons a xs =>
      cases xs with
      | nil =>
        simp only [ixD_1, List.length_cons, List.length_nil, cWts] at h ⊢
        exact ⟨sxs a (List.mem_cons_self ..), h⟩
      | cons b xs =>
        rw [show decide ((((a :: b :: xs).length + 1 : Nat) : Int) = 2) = false from decide_eq_false (by simp only [List.length_cons]; omega)]
        exact h
  simp only [c2, Bool.false_eq_true, if_false] at h ⊢
  by_cases c3 : ([D.str "add", D.str "lesser", D.str "greater"].any fun y => eqF y x) = true
  · simp only [c3, if_true] at h ⊢
    rw [cut1D]
    cases xs with
    | nil => simp only [decide_true, decide_false, Bool.true_and, Bool.false_and, Bool.and_true, Bool.and_false, Bool.not_true, Bool.not_false, Bool.false_eq_true, if_true, if_false, Bool.true_or, Bool.or_true, Bool.false_or, Bool.or_false, List.length_nil] at h ⊢; exact h
    | cons a xs =>
    cases xs with
    | nil => simp only [decide_true, decide_false, Bool.true_and, Bool.false_and, Bool.and_true, Bool.and_false, Bool.not_true, Bool.not_false, Bool.false_eq_true, if_true, if_false, Bool.true_or, Bool.or_true, Bool.false_or, Bool.or_false, List.length_nil, List.length_cons] at h ⊢; exact h
    | cons b xs =>
    cases xs with
    | cons c xs =>
      rw [show decide ((((a :: b :: c :: xs).length + 1 : Nat) : Int) = 3) = false from decide_eq_false (by simp only [List.length_cons]; omega)]
      exact h
    | nil =>
    rw [show decide (((([a, b] : List D).length + 1 : Nat) : Int) = 3) = true from rfl]
    simp only [if_true]
    refine ⟨by simp, lcl_map (fun d => .bl (scaleB many k d)) (fun d hd n S q => ?_) ?_⟩
    · simp only [dSeq, dSet, dOwn, dVar, dVarC, dC, dOp, dTest, dChain, dAndT, dOrT, dNotT, dAndV, dOrV, dNotV, dIf, dIfS, dRet, dRetN, dNext, dDrop, dAppend, dSetIx, dFrz, dPar, dB, dCall, dCons, dNil, dTup, dLst, dLc, dYes, dSeqI, seqQ, dRng1, dRng2, dZip, dEnum, dFor, dAsg, dgName, dgTup, dgCons, dgNil, dTruth, truD, dNeg, negQ, dNoPart, dPart, dSl, slD, dRv, rvD, dAug, dBreak, dCont, dNever, wipeS, startN, ends, lenD, absD, min2D_i, max2D_i, Gg.intOfD, tupleD, listD, isiD, strD, addD, Gg.intD, subD, mulD, modD, fdivD, powD, ltD, leD, gtD, geD, isND, notND, catLD, List.map_cons, List.map_nil, List.length_cons, List.length_nil, List.cons_append, List.nil_append, List.replicate, List.getElem?_cons_zero, List.getElem?_cons_succ, List.set_cons_zero, List.set_cons_succ, Nat.reduceAdd, Nat.reduceSub, eqD_int, neD_int, eqD_bl, neD_bl, eqD_ss, neD_ss, eqD_ln, neD_ln, eqD_tn, neD_tn, ixD_0, cScW]
      refine ⟨sxs d hd, by omega, by omega, ?_⟩
      rw [show ((k : Int) + 1 - 1).toNat = k by omega]
      exact q
    · simp only [allD, List.map_cons, List.map_nil]
      refine ⟨[scaleB many k a, scaleB many k b], rfl, ?_⟩
      simp only [List.all_cons, List.all_nil, id, Bool.and_true]
      exact h
  · simp only [c3, Bool.false_eq_true, if_false] at h ⊢
    exact h

theorem wp_is_scale {ds : List D} {n : Nat} {R : D → Nat → Prop} (h : cSc ds n R) : (dRet (dCall (cScW 5) (dCons (dVarC 0) (dCons (dVarC 1) (dCons (dC (.int 4)) dNil))))) (ends R) (startN 2 ds) n := by
  unfold cSc at h
  split at h
  case h_2 => exact h.elim
  next d many =>
  simp only [dSeq, dSet, dOwn, dVar, dVarC, dC, dOp, dTest, dChain, dAndT, dOrT, dNotT, dAndV, dOrV, dNotV, dIf, dIfS, dRet, dRetN, dNext, dDrop, dAppend, dSetIx, dFrz, dPar, dB, dCall, dCons, dNil, dTup, dLst, dLc, dYes, dSeqI, seqQ, dRng1, dRng2, dZip, dEnum, dFor, dAsg, dgName, dgTup, dgCons, dgNil, dTruth, truD, dNeg, negQ, dNoPart, dPart, dSl, slD, dRv, rvD, dAug, dBreak, dCont, dNever, wipeS, startN, ends, lenD, absD, min2D_i, max2D_i, Gg.intOfD, tupleD, listD, isiD, strD, addD, Gg.intD, subD, mulD, modD, fdivD, powD, ltD, leD, gtD, geD, isND, notND, catLD, List.map_cons, List.map_nil, List.length_cons, List.length_nil, List.cons_append, List.nil_append, List.replicate, List.getElem?_cons_zero, List.getElem?_cons_succ, List.set_cons_zero, List.set_cons_succ, Nat.reduceAdd, Nat.reduceSub, eqD_int, neD_int, eqD_bl, neD_bl, eqD_ss, neD_ss, eqD_ln, neD_ln, eqD_tn, neD_tn, ixD_0, cScW]
  exact ⟨h.1, by decide, by decide, h.2⟩

theorem wp_law_is_scale {m : Nat} {ds : List D} {n : Nat} {R : D → Nat → Prop} (h : cScW (m + 1) ds n R) : (dSeq (dIfS (dOrT (dTest (dOp eqD (dVar 2) (dC (.int 0)))) (dOrT (dNotT (dTruth (dB isiD (dCons (dVar 0) (dCons (dC (.ty "tuple")) dNil))))) (dOrT (dTest (dOp eqD (dVar 0) (dC (.tup [])))) (dNotT (dTruth (dB isiD (dCons (dOp ixD (dVar 0) (dC (.int 0))) (dCons (dC (.ty "str")) dNil)))))))) (dRet (dC (.bl false))) dNext)
    (dSeq (dIfS (dTest (dOp inD (dOp ixD (dVar 0) (dC (.int 0))) (dC (.tup [.str "times", .str "low", .str "high"])))) (dRet (dOp eqD (dB lenD (dCons (dVar 0) dNil)) (dC (.int 1)))) dNext)
    (dSeq (dIfS (dTest (dOp inD (dOp ixD (dVar 0) (dC (.int 0))) (dC (.tup [.str "add", .str "lesser", .str "greater"])))) (dSeq (dSet 3 (dLc (dSeqI (dSl (dVar 0) (dPart (dC (.int 1))) dNoPart)) (dgName 4) (dNotT (dTruth (dCall (cScW m) (dCons (dVarC 4) (dCons (dVarC 1) (dCons (dOp subD (dVar 2) (dC (.int 1))) dNil)))))) (dVarC 4) [4]))
    (dRet (dAndV (dOp eqD (dB lenD (dCons (dVar 0) dNil)) (dC (.int 3))) (dOp eqD (dVar 3) (dC (.lst [])))))) dNext)
    (dSeq (dIfS (dOrT (dTest (dOp neD (dOp ixD (dVar 0) (dC (.int 0))) (dC (.str "sum")))) (dOrT (dTest (dOp neD (dB lenD (dCons (dVar 0) dNil)) (dC (.int 2)))) (dOrT (dNotT (dTruth (dB isiD (dCons (dOp ixD (dVar 0) (dC (.int 1))) (dCons (dC (.ty "tuple")) dNil))))) (dTest (dOp neD (dB lenD (dCons (dOp ixD (dVar 0) (dC (.int 1))) dNil)) (dVar 1)))))) (dRet (dC (.bl false))) dNext)
    (dRet (dOp eqD (dLc (dSeqI (dOp ixD (dVar 0) (dC (.int 1)))) (dgName 4) (dNotT (dTruth (dCall cIsWF (dCons (dVarC 4) (dCons (dC (.int 0)) (dCons (dC (.int 1000)) dNil)))))) (dVarC 4) [4]) (dC (.lst [])))))))) (ends R) (startN 5 ds) n := by
  unfold cScW at h
  split at h
  case h_2 => exact h.elim
  next d many w =>
  obtain ⟨sz, w0, w1, h⟩ := h
  simp only [dSeq, dSet, dOwn, dVar, dVarC, dC, dOp, dTest, dChain, dAndT, dOrT, dNotT, dAndV, dOrV, dNotV, dIf, dIfS, dRet, dRetN, dNext, dDrop, dAppend, dSetIx, dFrz, dPar, dB, dCall, dCons, dNil, dTup, dLst, dLc, dYes, dSeqI, seqQ, dRng1, dRng2, dZip, dEnum, dFor, dAsg, dgName, dgTup, dgCons, dgNil, dTruth, truD, dNeg, negQ, dNoPart, dPart, dSl, slD, dRv, rvD, dAug, dBreak, dCont, dNever, wipeS, startN, ends, lenD, absD, min2D_i, max2D_i, Gg.intOfD, tupleD, listD, isiD, strD, addD, Gg.intD, subD, mulD, modD, fdivD, powD, ltD, leD, gtD, geD, isND, notND, catLD, List.map_cons, List.map_nil, List.length_cons, List.length_nil, List.cons_append, List.nil_append, List.replicate, List.getElem?_cons_zero, List.getElem?_cons_succ, List.set_cons_zero, List.set_cons_succ, Nat.reduceAdd, Nat.reduceSub, eqD_int, neD_int, eqD_bl, neD_bl, eqD_ss, neD_ss, eqD_ln, neD_ln, eqD_tn, neD_tn, ixD_0]
  by_cases z : w = 0
  case pos => subst z; simp only [decide_true, decide_false, Bool.true_and, Bool.false_and, Bool.and_true, Bool.and_false, Bool.not_true, Bool.not_false, Bool.false_eq_true, if_true, if_false, Bool.true_or, Bool.or_true, Bool.false_or, Bool.or_false, Int.toNat_zero, scaleB] at h ⊢; exact h
  obtain ⟨k, rfl⟩ : ∃ k : Nat, w = k + 1 := ⟨w.toNat - 1, by omega⟩
  rw [show ((k : Int) + 1).toNat = k + 1 by omega] at h
  simp only [z, decide_true, decide_false, Bool.true_and, Bool.false_and, Bool.and_true, Bool.and_false, Bool.not_true, Bool.not_false, Bool.false_eq_true, if_true, if_false, Bool.true_or, Bool.or_true, Bool.false_or, Bool.or_false]
  cases d <;> first | (have pl := sz.1; simp [Gg.plain] at pl; done) | (simp only [scaleB] at h; simp [dSeq, dSet, dOwn, dVar, dVarC, dC, dOp, dTest, dChain, dAndT, dOrT, dNotT, dAndV, dOrV, dNotV, dIf, dIfS, dRet, dRetN, dNext, dDrop, dAppend, dSetIx, dFrz, dPar, dB, dCall, dCons, dNil, dTup, dLst, dLc, dYes, dSeqI, seqQ, dRng1, dRng2, dZip, dEnum, dFor, dAsg, dgName, dgTup, dgCons, dgNil, dTruth, truD, dNeg, negQ, dNoPart, dPart, dSl, slD, dRv, rvD, dAug, dBreak, dCont, dNever, wipeS, startN, ends, lenD, absD, min2D_i, max2D_i, Gg.intOfD, tupleD, listD, isiD, strD, addD, Gg.intD, subD, mulD, modD, fdivD, powD, ltD, leD, gtD, geD, isND, notND, catLD, List.map_cons, List.map_nil, List.length_cons, List.length_nil, List.cons_append, List.nil_append, List.replicate, List.getElem?_cons_zero, List.getElem?_cons_succ, List.set_cons_zero, List.set_cons_succ, Nat.reduceAdd, Nat.reduceSub, eqD_int, neD_int, eqD_bl, neD_bl, eqD_ss, neD_ss, eqD_ln, neD_ln, eqD_tn, neD_tn, ixD_0, tyOf, isT, plainT]; exact h) | skip
  next xs =>
  cases xs with
  | nil => simp only [scaleB] at h; simp [dSeq, dSet, dOwn, dVar, dVarC, dC, dOp, dTest, dChain, dAndT, dOrT, dNotT, dAndV, dOrV, dNotV, dIf, dIfS, dRet, dRetN, dNext, dDrop, dAppend, dSetIx, dFrz, dPar, dB, dCall, dCons, dNil, dTup, dLst, dLc, dYes, dSeqI, seqQ, dRng1, dRng2, dZip, dEnum, dFor, dAsg, dgName, dgTup, dgCons, dgNil, dTruth, truD, dNeg, negQ, dNoPart, dPart, dSl, slD, dRv, rvD, dAug, dBreak, dCont, dNever, wipeS, startN, ends, lenD, absD, min2D_i, max2D_i, Gg.intOfD, tupleD, listD, isiD, strD, addD, Gg.intD, subD, mulD, modD, fdivD, powD, ltD, leD, gtD, geD, isND, notND, catLD, List.map_cons, List.map_nil, List.length_cons, List.length_nil, List.cons_append, List.nil_append, List.replicate, List.getElem?_cons_zero, List.getElem?_cons_succ, List.set_cons_zero, List.set_cons_succ, Nat.reduceAdd, Nat.reduceSub, eqD_int, neD_int, eqD_bl, neD_bl, eqD_ss, neD_ss, eqD_ln, neD_ln, eqD_tn, neD_tn, ixD_0, tyOf, isT, plainT]; exact h
  | cons x xs =>
  obtain ⟨sx, l, sxs⟩ := sz.cons
  simp only [scaleB] at h
  cases x <;> first | (have pl := sx.1; simp [Gg.plain] at pl; done) | (simp [eqF, strIs] at h; simp [dSeq, dSet, dOwn, dVar, dVarC, dC, dOp, dTest, dChain, dAndT, dOrT, dNotT, dAndV, dOrV, dNotV, dIf, dIfS, dRet, dRetN, dNext, dDrop, dAppend, dSetIx, dFrz, dPar, dB, dCall, dCons, dNil, dTup, dLst, dLc, dYes, dSeqI, seqQ, dRng1, dRng2, dZip, dEnum, dFor, dAsg, dgName, dgTup, dgCons, dgNil, dTruth, truD, dNeg, negQ, dNoPart, dPart, dSl, slD, dRv, rvD, dAug, dBreak, dCont, dNever, wipeS, startN, ends, lenD, absD, min2D_i, max2D_i, Gg.intOfD, tupleD, listD, isiD, strD, addD, Gg.intD, subD, mulD, modD, fdivD, powD, ltD, leD, gtD, geD, isND, notND, catLD, List.map_cons, List.map_nil, List.length_cons, List.length_nil, List.cons_append, List.nil_append, List.replicate, List.getElem?_cons_zero, List.getElem?_cons_succ, List.set_cons_zero, List.set_cons_succ, Nat.reduceAdd, Nat.reduceSub, eqD_int, neD_int, eqD_bl, neD_bl, eqD_ss, neD_ss, eqD_ln, neD_ln, eqD_tn, neD_tn, ixD_0, tyOf, isT, plainT]; exact h) | skip
  next st =>
  have ia := fun R => inD_t (x := .str st) (R := R) (ys := [D.str "times", D.str "low", D.str "high"]) rfl (by decide)
  have ib := fun R => inD_t (x := .str st) (R := R) (ys := [D.str "add", D.str "lesser", D.str "greater"]) rfl (by decide)
  simp only [dSeq, dSet, dOwn, dVar, dVarC, dC, dOp, dTest, dChain, dAndT, dOrT, dNotT, dAndV, dOrV, dNotV, dIf, dIfS, dRet, dRetN, dNext, dDrop, dAppend, dSetIx, dFrz, dPar, dB, dCall, dCons, dNil, dTup, dLst, dLc, dYes, dSeqI, seqQ, dRng1, dRng2, dZip, dEnum, dFor, dAsg, dgName, dgTup, dgCons, dgNil, dTruth, truD, dNeg, negQ, dNoPart, dPart, dSl, slD, dRv, rvD, dAug, dBreak, dCont, dNever, wipeS, startN, ends, lenD, absD, min2D_i, max2D_i, Gg.intOfD, tupleD, listD, isiD, strD, addD, Gg.intD, subD, mulD, modD, fdivD, powD, ltD, leD, gtD, geD, isND, notND, catLD, List.map_cons, List.map_nil, List.length_cons, List.length_nil, List.cons_append, List.nil_append, List.replicate, List.getElem?_cons_zero, List.getElem?_cons_succ, List.set_cons_zero, List.set_cons_succ, Nat.reduceAdd, Nat.reduceSub, eqD_int, neD_int, eqD_bl, neD_bl, eqD_ss, neD_ss, eqD_ln, neD_ln, eqD_tn, neD_tn, ixD_0, tyOf, isT, plainT, Option.isSome_some, beq_self_eq_true, true_and, Option.some.injEq, String.reduceBEq, reduceCtorEq, String.reduceEq, decide_true, decide_false, Bool.true_and, Bool.false_and, Bool.and_true, Bool.and_false, Bool.not_true, Bool.not_false, Bool.false_eq_true, if_true, if_false, Bool.true_or, Bool.or_true, Bool.false_or, Bool.or_false, ia, ib, List.isEmpty_cons]
  by_cases c1 : ([D.str "times", D.str "low", D.str "high"].any fun y => eqF y (.str st)) = true
  · simp only [c1, if_true] at h ⊢
    rw [show decide (((xs.length + 1 : Nat) : Int) = 1) = xs.isEmpty from by cases xs <;> simp <;> omega]
    exact h
  simp only [c1, Bool.false_eq_true, if_false] at h ⊢
  have e : strIs "sum" (.str st) = decide (st = "sum") := by unfold strIs; by_cases e : st = "sum" <;> simp [e]
  rw [e] at h
  by_cases c3 : ([D.str "add", D.str "lesser", D.str "greater"].any fun y => eqF y (.str st)) = true
  · have c2 : ¬ st = "sum" := fun z => by subst z; revert c3; decide
    simp only [c2, c3, decide_true, decide_false, Bool.true_and, Bool.false_and, Bool.and_true, Bool.and_false, Bool.not_true, Bool.not_false, Bool.false_eq_true, if_true, if_false, Bool.true_or, Bool.or_true, Bool.false_or, Bool.or_false] at h ⊢
    rw [cut1D]
    refine ⟨l, lcl_fm (fun d => if scaleB many k d then none else some d) xs [] n _ (fun d hd n S S' q => ?_) ?_⟩
    · simp only [dSeq, dSet, dOwn, dVar, dVarC, dC, dOp, dTest, dChain, dAndT, dOrT, dNotT, dAndV, dOrV, dNotV, dIf, dIfS, dRet, dRetN, dNext, dDrop, dAppend, dSetIx, dFrz, dPar, dB, dCall, dCons, dNil, dTup, dLst, dLc, dYes, dSeqI, seqQ, dRng1, dRng2, dZip, dEnum, dFor, dAsg, dgName, dgTup, dgCons, dgNil, dTruth, truD, dNeg, negQ, dNoPart, dPart, dSl, slD, dRv, rvD, dAug, dBreak, dCont, dNever, wipeS, startN, ends, lenD, absD, min2D_i, max2D_i, Gg.intOfD, tupleD, listD, isiD, strD, addD, Gg.intD, subD, mulD, modD, fdivD, powD, ltD, leD, gtD, geD, isND, notND, catLD, List.map_cons, List.map_nil, List.length_cons, List.length_nil, List.cons_append, List.nil_append, List.replicate, List.getElem?_cons_zero, List.getElem?_cons_succ, List.set_cons_zero, List.set_cons_succ, Nat.reduceAdd, Nat.reduceSub, eqD_int, neD_int, eqD_bl, neD_bl, eqD_ss, neD_ss, eqD_ln, neD_ln, eqD_tn, neD_tn, ixD_0, cScW]
      refine ⟨sxs d hd, by omega, by omega, ?_⟩
      rw [show ((k : Int) + 1 - 1).toNat = k by omega]
      cases zz : scaleB many k d <;> (simp only [zz] at q; exact q)
    rw [List.nil_append, eqD_ln, fm_all]
    cases xs with
    | nil => simp only [decide_true, decide_false, Bool.true_and, Bool.false_and, Bool.and_true, Bool.and_false, Bool.not_true, Bool.not_false, Bool.false_eq_true, if_true, if_false, Bool.true_or, Bool.or_true, Bool.false_or, Bool.or_false, List.length_nil] at h ⊢; exact h
    | cons a xs =>
    cases xs with
    | nil => simp only [decide_true, decide_false, Bool.true_and, Bool.false_and, Bool.and_true, Bool.and_false, Bool.not_true, Bool.not_false, Bool.false_eq_true, if_true, if_false, Bool.true_or, Bool.or_true, Bool.false_or, Bool.or_false, List.length_nil, List.length_cons] at h ⊢; exact h
    | cons b xs =>
    cases xs with
    | cons c xs =>
      rw [show decide ((((a :: b :: c :: xs).length + 1 : Nat) : Int) = 3) = false from decide_eq_false (by simp only [List.length_cons]; omega)]
      exact h
    | nil =>
    rw [show decide (((([a, b] : List D).length + 1 : Nat) : Int) = 3) = true from rfl]
    simp only [if_true, List.all_cons, List.all_nil, Bool.and_true]
    exact h
  by_cases c2 : st = "sum"
  case neg => simp only [c2, c3, decide_true, decide_false, Bool.true_and, Bool.false_and, Bool.and_true, Bool.and_false, Bool.not_true, Bool.not_false, Bool.false_eq_true, if_true, if_false, Bool.true_or, Bool.or_true, Bool.false_or, Bool.or_false] at h ⊢; exact h
  subst c2
  simp only [c3, decide_true, decide_false, Bool.true_and, Bool.false_and, Bool.and_true, Bool.and_false, Bool.not_true, Bool.not_false, Bool.false_eq_true, if_true, if_false, Bool.true_or, Bool.or_true, Bool.false_or, Bool.or_false] at h ⊢
  cases xs with
  | nil => simp only [decide_true, decide_false, Bool.true_and, Bool.false_and, Bool.and_true, Bool.and_false, Bool.not_true, Bool.not_false, Bool.false_eq_true, if_true, if_false, Bool.true_or, Bool.or_true, Bool.false_or, Bool.or_false, List.length_nil] at h ⊢; exact h
  | cons a xs =>
  cases xs with
  | cons b xs =>
    rw [show decide ((((a :: b :: xs).length + 1 : Nat) : Int) = 2) = false from decide_eq_false (by simp only [List.length_cons]; omega)]
    exact h
  | nil =>
  simp only [ixD_1, List.length_cons, List.length_nil]
  have sa := sxs a (List.mem_cons_self ..)
  cases a <;> first | (have pl := sa.1; simp [Gg.plain] at pl; done) | (simp only [wtsB] at h; simp [dSeq, dSet, dOwn, dVar, dVarC, dC, dOp, dTest, dChain, dAndT, dOrT, dNotT, dAndV, dOrV, dNotV, dIf, dIfS, dRet, dRetN, dNext, dDrop, dAppend, dSetIx, dFrz, dPar, dB, dCall, dCons, dNil, dTup, dLst, dLc, dYes, dSeqI, seqQ, dRng1, dRng2, dZip, dEnum, dFor, dAsg, dgName, dgTup, dgCons, dgNil, dTruth, truD, dNeg, negQ, dNoPart, dPart, dSl, slD, dRv, rvD, dAug, dBreak, dCont, dNever, wipeS, startN, ends, lenD, absD, min2D_i, max2D_i, Gg.intOfD, tupleD, listD, isiD, strD, addD, Gg.intD, subD, mulD, modD, fdivD, powD, ltD, leD, gtD, geD, isND, notND, catLD, List.map_cons, List.map_nil, List.length_cons, List.length_nil, List.cons_append, List.nil_append, List.replicate, List.getElem?_cons_zero, List.getElem?_cons_succ, List.set_cons_zero, List.set_cons_succ, Nat.reduceAdd, Nat.reduceSub, eqD_int, neD_int, eqD_bl, neD_bl, eqD_ss, neD_ss, eqD_ln, neD_ln, eqD_tn, neD_tn, ixD_0, tyOf, isT, plainT]; exact h) | skip
  next ys =>
  obtain ⟨ly, sy⟩ := sa.tup
  simp only [wtsB] at h
  simp only [dSeq, dSet, dOwn, dVar, dVarC, dC, dOp, dTest, dChain, dAndT, dOrT, dNotT, dAndV, dOrV, dNotV, dIf, dIfS, dRet, dRetN, dNext, dDrop, dAppend, dSetIx, dFrz, dPar, dB, dCall, dCons, dNil, dTup, dLst, dLc, dYes, dSeqI, seqQ, dRng1, dRng2, dZip, dEnum, dFor, dAsg, dgName, dgTup, dgCons, dgNil, dTruth, truD, dNeg, negQ, dNoPart, dPart, dSl, slD, dRv, rvD, dAug, dBreak, dCont, dNever, wipeS, startN, ends, lenD, absD, min2D_i, max2D_i, Gg.intOfD, tupleD, listD, isiD, strD, addD, Gg.intD, subD, mulD, modD, fdivD, powD, ltD, leD, gtD, geD, isND, notND, catLD, List.map_cons, List.map_nil, List.length_cons, List.length_nil, List.cons_append, List.nil_append, List.replicate, List.getElem?_cons_zero, List.getElem?_cons_succ, List.set_cons_zero, List.set_cons_succ, Nat.reduceAdd, Nat.reduceSub, eqD_int, neD_int, eqD_bl, neD_bl, eqD_ss, neD_ss, eqD_ln, neD_ln, eqD_tn, neD_tn, ixD_0, tyOf, isT, plainT, Option.isSome_some, beq_self_eq_true, true_and, Option.some.injEq, String.reduceBEq, reduceCtorEq, String.reduceEq, decide_true, decide_false, Bool.true_and, Bool.false_and, Bool.and_true, Bool.and_false, Bool.not_true, Bool.not_false, Bool.false_eq_true, if_true, if_false, Bool.true_or, Bool.or_true, Bool.false_or, Bool.or_false]
  by_cases c4 : (ys.length : Int) = many
  case neg => simp only [c4, decide_true, decide_false, Bool.true_and, Bool.false_and, Bool.and_true, Bool.and_false, Bool.not_true, Bool.not_false, Bool.false_eq_true, if_true, if_false, Bool.true_or, Bool.or_true, Bool.false_or, Bool.or_false] at h ⊢; exact h
  simp only [c4, decide_true, decide_false, Bool.true_and, Bool.false_and, Bool.and_true, Bool.and_false, Bool.not_true, Bool.not_false, Bool.false_eq_true, if_true, if_false, Bool.true_or, Bool.or_true, Bool.false_or, Bool.or_false] at h ⊢
  refine ⟨ly, lcl_fm (fun d => if inB 0 1000 d then none else some d) ys [] n _ (fun d hd n S S' q => ?_) ?_⟩
  · simp only [dSeq, dSet, dOwn, dVar, dVarC, dC, dOp, dTest, dChain, dAndT, dOrT, dNotT, dAndV, dOrV, dNotV, dIf, dIfS, dRet, dRetN, dNext, dDrop, dAppend, dSetIx, dFrz, dPar, dB, dCall, dCons, dNil, dTup, dLst, dLc, dYes, dSeqI, seqQ, dRng1, dRng2, dZip, dEnum, dFor, dAsg, dgName, dgTup, dgCons, dgNil, dTruth, truD, dNeg, negQ, dNoPart, dPart, dSl, slD, dRv, rvD, dAug, dBreak, dCont, dNever, wipeS, startN, ends, lenD, absD, min2D_i, max2D_i, Gg.intOfD, tupleD, listD, isiD, strD, addD, Gg.intD, subD, mulD, modD, fdivD, powD, ltD, leD, gtD, geD, isND, notND, catLD, List.map_cons, List.map_nil, List.length_cons, List.length_nil, List.cons_append, List.nil_append, List.replicate, List.getElem?_cons_zero, List.getElem?_cons_succ, List.set_cons_zero, List.set_cons_succ, Nat.reduceAdd, Nat.reduceSub, eqD_int, neD_int, eqD_bl, neD_bl, eqD_ss, neD_ss, eqD_ln, neD_ln, eqD_tn, neD_tn, ixD_0, cIsWF]
    refine ⟨(sy d hd).1, ?_⟩
    cases zz : inB 0 1000 d <;> (simp only [zz] at q; exact q)
  rw [List.nil_append, eqD_ln, fm_all]
  exact h


def scD : Sc → D
  | .sum ws => .tup [.str "sum", .tup (ws.map D.int)]
  | .times => .tup [.str "times"]
  | .low => .tup [.str "low"]
  | .high => .tup [.str "high"]
  | .two t a b => .tup [.str t.word, scD a, scD b]
def cScale (m : Nat) : DC := fun ds n R => match ds with
  | [.pen, .int many, .int deep] => 1 ≤ many ∧ many ≤ 8 ∧ 1 ≤ deep ∧ deep < m ∧ n + 10 * 2 ^ deep.toNat ≤ 900000000 ∧ ∀ (s : Sc) (n' : Nat), s.Ok many.toNat → s.deep ≤ deep.toNat → n' < n + 10 * 2 ^ deep.toNat → R (scD s) n'
  | _ => False
theorem cScale_zero {ds : List D} {n : Nat} {R : D → Nat → Prop} (h : cScale 0 ds n R) : False := by
  unfold cScale at h
  split at h
  · obtain ⟨_, _, h1, h2, _⟩ := h; omega
  · exact h
theorem ints_of {P : Int → Prop} : ∀ rs : List D, (∀ r, r ∈ rs → ∃ x : Int, r = .int x ∧ P x) → ∃ ws : List Int, rs = ws.map D.int ∧ ∀ w, w ∈ ws → P w
  | [], _ => ⟨[], rfl, fun w m => nomatch m⟩
  | r :: rs, h => by
    obtain ⟨ws, e, hw⟩ := ints_of rs fun x hx => h x (List.mem_cons_of_mem _ hx)
    obtain ⟨x, rfl, px⟩ := h r (List.mem_cons_self ..)
    exact ⟨x :: ws, by rw [e]; rfl, fun w m => (List.mem_cons.mp m).elim (fun z => by rw [z]; exact px) (hw w)⟩

theorem wp_law_scale {m : Nat} {ds : List D} {n : Nat} {R : D → Nat → Prop} (h : cScale (m + 1) ds n R) : (dSeq (dSet 3 (dCall cDraw (dCons (dVarC 0) (dCons (dOp ixD (dC (.lst [.int 5, .int 8])) (dB Gg.intOfD (dCons (dOp gtD (dVar 2) (dC (.int 1))) dNil))) dNil))))
    (dSeq (dIfS (dTest (dOp gtD (dVar 3) (dC (.int 4)))) (dSeq (dSet 4 (dOp ixD (dC (.lst [.str "add", .str "lesser", .str "greater"])) (dOp subD (dVar 3) (dC (.int 5)))))
    (dRet (dTup (dCons (dVarC 4) (dCons (dCall (cScale m) (dCons (dVarC 0) (dCons (dVarC 1) (dCons (dOp subD (dVar 2) (dC (.int 1))) dNil)))) (dCons (dCall (cScale m) (dCons (dVarC 0) (dCons (dVarC 1) (dCons (dOp subD (dVar 2) (dC (.int 1))) dNil)))) dNil)))))) dNext)
    (dSeq (dIfS (dTest (dOp gtD (dVar 3) (dC (.int 1)))) (dRet (dOp ixD (dC (.lst [.tup [.str "times"], .tup [.str "low"], .tup [.str "high"]])) (dOp subD (dVar 3) (dC (.int 2))))) dNext)
    (dRet (dTup (dCons (dC (.str "sum")) (dCons (dB tupleD (dCons (dLc (dRng1 (dCons (dVarC 1) dNil)) (dgName 5) dYes (dCall cPick (dCons (dVarC 0) (dCons (dC (.lst [.int 0, .int 1, .int 1, .int 2, .int 3, .int 10, .int 999, .int 1000])) dNil))) [5]) dNil)) dNil))))))) (ends R) (startN 6 ds) n := by
  unfold cScale at h
  split at h
  case h_2 => exact h.elim
  next many deep =>
  obtain ⟨m1, m2, d1, d2, hb, h⟩ := h
  have p1 : 2 ≤ 2 ^ deep.toNat := Nat.le_trans (by decide : 2 ≤ 2 ^ 1) (Nat.pow_le_pow_right (by decide) (by omega))
  simp only [dSeq, dSet, dOwn, dVar, dVarC, dC, dOp, dTest, dChain, dAndT, dOrT, dNotT, dAndV, dOrV, dNotV, dIf, dIfS, dRet, dRetN, dNext, dDrop, dAppend, dSetIx, dFrz, dPar, dB, dCall, dCons, dNil, dTup, dLst, dLc, dYes, dSeqI, seqQ, dRng1, dRng2, dZip, dEnum, dFor, dAsg, dgName, dgTup, dgCons, dgNil, dTruth, truD, dNeg, negQ, dNoPart, dPart, dSl, slD, dRv, rvD, dAug, dBreak, dCont, dNever, wipeS, startN, ends, lenD, absD, min2D_i, max2D_i, Gg.intOfD, tupleD, listD, isiD, strD, addD, Gg.intD, subD, mulD, modD, fdivD, powD, ltD, leD, gtD, geD, isND, notND, catLD, ixD, inD, ninD, eqD, neD, eqQ, List.map_cons, List.map_nil, List.length_cons, List.length_nil, List.cons_append, List.nil_append, List.replicate, List.getElem?_cons_zero, List.getElem?_cons_succ, List.set_cons_zero, List.set_cons_succ, Nat.reduceAdd, Nat.reduceSub, cDraw]
  obtain ⟨top, et, ht⟩ : ∃ top : Int, atI [D.int 5, D.int 8] (if decide (1 < deep) = true then 1 else 0) = some (D.int top) ∧ (top = 5 ∨ top = 8 ∧ 1 < deep) := by
    by_cases z : 1 < deep
    · exact ⟨8, by rw [decide_eq_true z]; rfl, .inr ⟨rfl, z⟩⟩
    · exact ⟨5, by rw [decide_eq_false z]; rfl, .inl rfl⟩
  refine ⟨_, et, by omega, by omega, by omega, fun d e0 e1 => ?_⟩
  by_cases z4 : 4 < d
  · rw [if_pos (decide_eq_true z4)]
    have pw : 2 ^ deep.toNat = 2 * 2 ^ (deep - 1).toNat := by rw [show deep.toNat = (deep - 1).toNat + 1 by omega, Nat.pow_succ]; omega
    obtain ⟨w, ew, mw, _⟩ := atI_in (xs := [D.str "add", D.str "lesser", D.str "greater"]) (d := d - 5) (by omega) (by show d - 5 < 3; omega)
    obtain ⟨t, rfl⟩ : ∃ t : Tw, w = .str t.word := by
      simp only [List.mem_cons, List.not_mem_nil, or_false] at mw
      rcases mw with rfl | rfl | rfl
      · exact ⟨.add, rfl⟩
      · exact ⟨.lesser, rfl⟩
      · exact ⟨.greater, rfl⟩
    refine ⟨_, ew, ?_⟩
    simp only [cScale]
    refine ⟨m1, m2, by omega, by omega, by omega, fun s1 n1 o1 dp1 b1 => ⟨m1, m2, by omega, by omega, by omega, fun s2 n2 o2 dp2 b2 => ⟨by decide, ?_⟩⟩⟩
    exact h (.two t s1 s2) n2 ⟨o1, o2⟩ (by rw [Sc.deep]; omega) (by omega)
  rw [if_neg (by simpa using z4)]
  by_cases z1 : 1 < d
  · rw [if_pos (decide_eq_true z1)]
    obtain ⟨w, ew, mw, _⟩ := atI_in (xs := [D.tup [D.str "times"], D.tup [D.str "low"], D.tup [D.str "high"]]) (d := d - 2) (by omega) (by show d - 2 < 3; omega)
    refine ⟨_, ew, ?_⟩
    simp only [List.mem_cons, List.not_mem_nil, or_false] at mw
    rcases mw with rfl | rfl | rfl
    · exact h .times _ trivial (by show 1 ≤ _; omega) (by omega)
    · exact h .low _ trivial (by show 1 ≤ _; omega) (by omega)
    · exact h .high _ trivial (by show 1 ≤ _; omega) (by omega)
  rw [if_neg (by simpa using z1)]
  refine ⟨by omega, by omega, by rw [rangeL_len]; omega, lc_draws (fun d => ∃ x : Int, d = .int x ∧ 0 ≤ x ∧ x ≤ 1000) 1 (fun d hd n' S b1 b2 q => ?_) fun rs n1 hl hp n0 n1' => ?_⟩
  · rw [rangeL_len] at b2
    simp only [dSeq, dSet, dOwn, dVar, dVarC, dC, dOp, dTest, dChain, dAndT, dOrT, dNotT, dAndV, dOrV, dNotV, dIf, dIfS, dRet, dRetN, dNext, dDrop, dAppend, dSetIx, dFrz, dPar, dB, dCall, dCons, dNil, dTup, dLst, dLc, dYes, dSeqI, seqQ, dRng1, dRng2, dZip, dEnum, dFor, dAsg, dgName, dgTup, dgCons, dgNil, dTruth, truD, dNeg, negQ, dNoPart, dPart, dSl, slD, dRv, rvD, dAug, dBreak, dCont, dNever, wipeS, startN, ends, lenD, absD, min2D_i, max2D_i, Gg.intOfD, tupleD, listD, isiD, strD, addD, Gg.intD, subD, mulD, modD, fdivD, powD, ltD, leD, gtD, geD, isND, notND, catLD, ixD, inD, ninD, eqD, neD, eqQ, List.map_cons, List.map_nil, List.length_cons, List.length_nil, List.cons_append, List.nil_append, List.replicate, List.getElem?_cons_zero, List.getElem?_cons_succ, List.set_cons_zero, List.set_cons_succ, Nat.reduceAdd, Nat.reduceSub, cPick]
    refine ⟨by decide, by decide, by omega, fun r hr => q _ _ ?_ (by omega) (by omega)⟩
    simp only [List.mem_cons, List.not_mem_nil, or_false] at hr
    rcases hr with rfl | rfl | rfl | rfl | rfl | rfl | rfl | rfl <;> exact ⟨_, rfl, by decide, by decide⟩
  · rw [rangeL_len] at hl n1'
    obtain ⟨ws, rfl, hw⟩ := ints_of rs hp
    rw [List.length_map] at hl
    exact ⟨by decide, h (.sum ws) n1 ⟨hl, hw⟩ (by show 1 ≤ _; omega) (by omega)⟩

end Gg

namespace Gg
open PySem PySem.Spec PyProof.Rows L2
open AutoSeq1 (wpAny_loadPart')
section
variable {prog : Program} {w : World} {A : Around} {E : Value → Shared → Prop} {s : Shared}
end
def dEnumT (u : DA) : DI := fun ρ n R => u ρ n fun ds n' => match ds with
  | [.lst xs] => R (enumL xs) n'
  | [.tup xs] => R (enumL xs) n'
  | _ => False
section
variable {X : Cx} {G : Gx} {tg e : Expr} {p pos px : Pos}
end
section
variable {X : Cx} {G : Gx} {pos : Pos}
variable {st : Stmt} {i j k : Nat} {t1 t2 t3 : DE}
variable {kt k2 : Nat} {px py pz pt pt2 : Pos} {x y z : Str} {a b c : Expr} {ta tb tc : DE}
end
end Gg

namespace Gg
open PySem PySem.Spec PyProof.Rows L2
theorem seqIx_nat {k m : Nat} (h : k < m) : seqIndex? (k : Int) m = some k := by
  unfold seqIndex?
  have h1 : ¬ ((k : Int) < 0) := by omega
  have h2 : (0 : Int) ≤ (k : Int) := by omega
  have h3 : (k : Int) < (m : Int) := by omega
  simp only [h1, h2, h3, if_false, decide_true, Bool.and_self, if_true, Int.toNat_natCast]
theorem RpAll.erase {p : Addr} {H : Hp} {B : List Addr} : ∀ {vs : List V} {ds : List D}, RpAll p H B vs ds → ∀ k : Nat, RpAll p H B (vs.eraseIdx k) (ds.eraseIdx k)
  | _, _, .nil, _ => .nil
  | _, _, .cons _ t, 0 => t
  | _, _, .cons h t, k + 1 => .cons h (RpAll.erase t k)
def dAppPop (i j : Nat) (t : DE) : DSt := fun E ρ n => match ρ[i]?, ρ[j]? with
  | some (.own xs), some (.own ys) => t ρ n fun d n' => ∃ k : Nat, d = .int (k : Int) ∧ k < ys.length ∧ ys.length ≤ 1000000 ∧ xs.length < 1000000 ∧ ∀ y, ys[k]? = some y → E.nx ((ρ.set j (.own (ys.eraseIdx k))).set i (.own (xs ++ [y]))) n'
  | _, _ => False
section
variable {X : Cx} {G : Gx} {st : Stmt} {pos : Pos} {i j : Nat} {te : DE}
theorem ds_appPop {K : PySem.W.Frag} (hij : i ≠ j) (h : PS X st (tDrop (tBM K "list" rAppend (tVar i) (tCons (tBM K "list" rPopAt (tVar j) (tCons (LE G te) tNil)) tNil)))) : PS X st (LS G (dAppPop i j te)) := PS.of h fun D σ H ⟨O, ρ, n, E, a, b, c⟩ => by
  unfold dAppPop at b
  split at b
  · next xs ys e f =>
    obtain ⟨l, vs, e1, m, el, ra, _⟩ := a.mut (ys := []) e
    obtain ⟨l2, vs2, f1, m2, fl, ra2, _⟩ := a.mut (ys := []) f
    refine ⟨.ref l, e1, .inl ⟨rfl, _, sqL el⟩, ⟨.ref l2, f1, .inl ⟨rfl, _, sqL fl⟩, ⟨O, ρ, n, _, a, b, fun d n' v H' r k p rv => ?_⟩⟩⟩
    obtain ⟨q, rfl, q1, q2, q3, nx⟩ := r
    cases rv
    have a' := a.step k p
    obtain ⟨l2', vs2', f1', m2', fl', ra2', mut2⟩ := a'.mut (ys := ys.eraseIdx q) f
    rw [f1] at f1'; cases f1'
    have hy : ys[q]? = some ys[q] := List.getElem?_eq_getElem q1
    obtain ⟨w, hw, rw'⟩ := ra2'.at hy
    obtain ⟨rs, fr⟩ := mut2 (vs2'.eraseIdx q) (ra2'.erase q)
    have e' : (ρ.set j (.own (ys.eraseIdx q)))[i]? = some (.own xs) := by rw [List.getElem?_set_ne (Ne.symm hij)]; exact e
    obtain ⟨l3, vs3, e3, m3, el3, ra3, mut3⟩ := rs.mut (ys := xs ++ [ys[q]]) e'
    rw [e1] at e3; cases e3
    have kx : Kx (O ++ G.B) (O ++ G.B) H' (upd H' l2 (.lst (vs2'.eraseIdx q))) := Kx.put fl' (List.mem_append_left _ m2')
    obtain ⟨rs', fr'⟩ := mut3 (vs3 ++ [w]) (ra3.app (.cons (rw'.kx kx) .nil))
    have lv : vs2'.length = ys.length := ra2'.len
    refine ⟨l2, vs2', q, q, w, rfl, rfl, fl', by omega, by omega, by rw [lv]; exact seqIx_nat q1, hw, ⟨l, vs3, w, rfl, rfl, el3, by rw [ra3.len]; exact Nat.lt_of_lt_of_le q3 (by decide), c.nx _ _ _ _ _ rs' (((Fr.kx (Kx.kp k a.pen)).trans fr).trans fr') (nx _ hy)⟩⟩
  · cases b
variable {x y : Str} {e : Expr} {t : DE} {px py p2 p3 : Pos}
theorem qs_appPop (i j : Nat) {apos bpos : Pos} (hij : i ≠ j) (hi : X.N[i]? = some x) (hj : X.N[j]? = some y) (h : QE X G e t) (hv : Vis X.env.scope x := by first | exact Or.inl rfl | exact Or.inr (Or.inl rfl) | exact Or.inr (Or.inr rfl)) (hv' : Vis X.env.scope y := by first | exact Or.inl rfl | exact Or.inr (Or.inl rfl) | exact Or.inr (Or.inr rfl)) (hs : notStar e = true := by rfl) (hd : (x == ("__debug__" : Str)) = false := by decide) (hcd : (x == ("__classdict__" : Str)) = false := by decide) (hd' : (y == ("__debug__" : Str)) = false := by decide) (hcd' : (y == ("__classdict__" : Str)) = false := by decide)
    (hbase : attributeBase (.Name x px) "append" X.env (eval (.Name x px) X.env) = eval (.Name x px) X.env := by rfl)
    (hbase' : attributeBase (.Name y py) "pop" X.env (eval (.Name y py) X.env) = eval (.Name y py) X.env := by rfl)
    (hfew : ((backTo p2 (starEach [(.Call (.Attribute (.Name y py) "pop" bpos) [e] [] p3 : Expr)] X.env)).all (fun x => !x.1) && (backToKw p2 (keywordEach [] X.env)).all (fun x => x.1.isSome) && decide (([(.Call (.Attribute (.Name y py) "pop" bpos) [e] [] p3 : Expr)] : List Expr).length + ([] : List Keyword).length + (if ([] : List Keyword).isEmpty then 0 else 1) < 30)) = true := by rfl)
    (hfew' : ((backTo p3 (starEach [e] X.env)).all (fun x => !x.1) && (backToKw p3 (keywordEach [] X.env)).all (fun x => x.1.isSome) && decide (([e] : List Expr).length + ([] : List Keyword).length + (if ([] : List Keyword).isEmpty then 0 else 1) < 30)) = true := by rfl)
    (hline : (apos.endLine == p2.line) = true := by rfl) (hline' : (bpos.endLine == p3.line) = true := by rfl) (hsw : swapsWith (.Call (.Attribute (.Name x px) "append" apos) [.Call (.Attribute (.Name y py) "pop" bpos) [e] [] p3] [] p2) none pos.line X.env = pure false := by rfl) :
    QS X G (.Expr (.Call (.Attribute (.Name x px) "append" apos) [.Call (.Attribute (.Name y py) "pop" bpos) [e] [] p3] [] p2) pos) (dAppPop i j t) :=
  ⟨ds_appPop hij (ps_expr (pe_bm PySem.F.plainAttrs_list PySem.F.slot_list_append PySem.F.type_list_append mt_append (pv i hi hv hd hcd)
    (pa_cons (pe_bm PySem.F.plainAttrs_list PySem.F.slot_list_pop PySem.F.type_list_pop mt_popAt (pv j hj hv' hd' hcd') (pa_cons h.h pa_nil (star_of hs _ _)) hbase' hfew' hline' (star_of hs _ _) rfl) pa_nil (star_of rfl _ _)) hbase hfew hline (star_of rfl _ _) rfl) hsw)⟩
end
end Gg

namespace Gg
open PySem PySem.Spec PyProof.Rows L2
theorem addD_i {i j : Int} {R : D → Prop} : addD (.int i) (.int j) R = (R (.int (i + j))) := rfl
theorem addD_s {x y : Str} {R : D → Prop} : addD (.str x) (.str y) R = (x.length + y.length ≤ 1000000 ∧ R (.str (x ++ y))) := rfl
theorem addD_t {x y : List D} {R : D → Prop} : addD (.tup x) (.tup y) R = (x.length + y.length ≤ 1000000 ∧ R (.tup (x ++ y))) := rfl
theorem addD_l {x y : List D} {R : D → Prop} : addD (.lst x) (.lst y) R = (x.length + y.length ≤ 1000000 ∧ R (.lst (x ++ y))) := rfl
theorem addD_bi {b : Bool} {j : Int} {R : D → Prop} : addD (.bl b) (.int j) R = (R (.int ((if b = true then 1 else 0) + j))) := rfl
theorem addD_ib {b : Bool} {i : Int} {R : D → Prop} : addD (.int i) (.bl b) R = (R (.int (i + (if b = true then 1 else 0)))) := rfl
theorem subD_i {i j : Int} {R : D → Prop} : subD (.int i) (.int j) R = (R (.int (i - j))) := rfl
theorem mulD_i {i j : Int} {R : D → Prop} : mulD (.int i) (.int j) R = (((-(2 ^ 64) < i ∧ i < 2 ^ 64) ∨ (-(2 ^ 64) < j ∧ j < 2 ^ 64)) ∧ R (.int (i * j))) := rfl
theorem mulD_t {x : List D} {k : Int} {R : D → Prop} : mulD (.tup x) (.int k) R = (x ≠ [] ∧ 1 ≤ k ∧ k ≤ 1000 ∧ x.length ≤ 1000 ∧ R (.tup (List.replicate k.toNat x).flatten)) := rfl
theorem mulD_l {x : List D} {k : Int} {R : D → Prop} : mulD (.lst x) (.int k) R = (0 ≤ k ∧ k ≤ 1000 ∧ x.length ≤ 1000 ∧ R (.lst (List.replicate k.toNat x).flatten)) := rfl
theorem modD_i {i j : Int} {R : D → Prop} : modD (.int i) (.int j) R = (0 < j ∧ R (.int (i % j))) := rfl
theorem fdivD_i {i j : Int} {R : D → Prop} : fdivD (.int i) (.int j) R = (0 < j ∧ j < 1073741824 ∧ R (.int (i / j))) := rfl
theorem powD_i {i j : Int} {R : D → Prop} : powD (.int i) (.int j) R = (0 ≤ j ∧ j ≤ 1000000 ∧ i.natAbs < 2 ^ 64 ∧ R (.int (i ^ j.toNat))) := rfl
theorem ltD_i {i j : Int} {R : D → Prop} : ltD (.int i) (.int j) R = (R (.bl (decide (i < j)))) := rfl
theorem leD_i {i j : Int} {R : D → Prop} : leD (.int i) (.int j) R = (R (.bl (decide (i ≤ j)))) := rfl
theorem gtD_i {i j : Int} {R : D → Prop} : gtD (.int i) (.int j) R = (R (.bl (decide (j < i)))) := rfl
theorem geD_i {i j : Int} {R : D → Prop} : geD (.int i) (.int j) R = (R (.bl (decide (j ≤ i)))) := rfl
theorem isND_non {R : D → Prop} : isND (.non) .non R = (R (.bl true)) := rfl
theorem notND_non {R : D → Prop} : notND (.non) .non R = (R (.bl false)) := rfl
theorem truD_non {R : Bool → Prop} : truD (.non) R = (R false) := rfl
theorem isND_bl {x : Bool} {R : D → Prop} : isND (.bl x) .non R = (R (.bl false)) := rfl
theorem notND_bl {x : Bool} {R : D → Prop} : notND (.bl x) .non R = (R (.bl true)) := rfl
theorem truD_bl {x : Bool} {R : Bool → Prop} : truD (.bl x) R = (R x) := rfl
theorem isND_int {x : Int} {R : D → Prop} : isND (.int x) .non R = (R (.bl false)) := rfl
theorem notND_int {x : Int} {R : D → Prop} : notND (.int x) .non R = (R (.bl true)) := rfl
theorem truD_int {x : Int} {R : Bool → Prop} : truD (.int x) R = (R (x != 0)) := rfl
theorem isND_str {x : Str} {R : D → Prop} : isND (.str x) .non R = (R (.bl false)) := rfl
theorem notND_str {x : Str} {R : D → Prop} : notND (.str x) .non R = (R (.bl true)) := rfl
theorem isND_tup {x : List D} {R : D → Prop} : isND (.tup x) .non R = (R (.bl false)) := rfl
theorem notND_tup {x : List D} {R : D → Prop} : notND (.tup x) .non R = (R (.bl true)) := rfl
theorem truD_tup {x : List D} {R : Bool → Prop} : truD (.tup x) R = (R (!x.isEmpty)) := rfl
theorem isND_lst {x : List D} {R : D → Prop} : isND (.lst x) .non R = (R (.bl false)) := rfl
theorem notND_lst {x : List D} {R : D → Prop} : notND (.lst x) .non R = (R (.bl true)) := rfl
theorem truD_lst {x : List D} {R : Bool → Prop} : truD (.lst x) R = (R (!x.isEmpty)) := rfl
theorem isND_obj {a : Addr} {b : List Str} {c : List D} {R : D → Prop} : isND (.obj a b c) .non R = (R (.bl false)) := rfl
theorem notND_obj {a : Addr} {b : List Str} {c : List D} {R : D → Prop} : notND (.obj a b c) .non R = (R (.bl true)) := rfl
theorem truD_str {x : Str} {R : Bool → Prop} : truD (.str x) R = (x.length ≤ 1000000 ∧ R ((x.length : Int) != 0)) := rfl
theorem slD_t {x : List D} {lo hi : Option Int} {R : D → Prop} : slD (.tup x) lo hi R = (R (.tup (cutL x lo hi))) := rfl
theorem slD_l {x : List D} {lo hi : Option Int} {R : D → Prop} : slD (.lst x) lo hi R = (R (.lst (cutL x lo hi))) := rfl
theorem slD_s {x : Str} {lo hi : Option Int} {R : D → Prop} : slD (.str x) lo hi R = (x.length ≤ 1000000 ∧ R (.str (cutS x lo hi))) := rfl
theorem rvD_t {x : List D} {R : D → Prop} : rvD (.tup x) R = (R (.tup x.reverse)) := rfl
theorem rvD_l {x : List D} {R : D → Prop} : rvD (.lst x) R = (R (.lst x.reverse)) := rfl
theorem ixD_t {x : List D} {i : Int} {R : D → Prop} : ixD (.tup x) (.int i) R = (∃ d, atI x i = some d ∧ R d) := rfl
theorem ixD_l {x : List D} {i : Int} {R : D → Prop} : ixD (.lst x) (.int i) R = (∃ d, atI x i = some d ∧ R d) := rfl
theorem ixD_s {x : Str} {i : Int} {R : D → Prop} : ixD (.str x) (.int i) R = (x.length ≤ 1000000 ∧ ∃ c, atI x.cps.toList i = some c ∧ R (.str ⟨#[c]⟩)) := rfl
theorem lenD_l {x : List D} {R : D → Prop} : lenD [.lst x] R = (R (.int x.length)) := rfl
theorem lenD_t {x : List D} {R : D → Prop} : lenD [.tup x] R = (R (.int x.length)) := rfl
theorem lenD_s {x : Str} {R : D → Prop} : lenD [.str x] R = (x.length ≤ 1000000 ∧ R (.int x.length)) := rfl
theorem absD_i {i : Int} {R : D → Prop} : absD [.int i] R = (R (.int (if i < 0 then -i else i))) := rfl
theorem intOfD_i {i : Int} {R : D → Prop} : Gg.intOfD [.int i] R = (R (.int i)) := rfl
theorem intOfD_b {b : Bool} {R : D → Prop} : Gg.intOfD [.bl b] R = (R (.int (if b = true then 1 else 0))) := rfl
theorem tupleD_l {x : List D} {R : D → Prop} : tupleD [.lst x] R = (R (.tup x)) := rfl
theorem tupleD_t {x : List D} {R : D → Prop} : tupleD [.tup x] R = (R (.tup x)) := rfl
theorem listD_l {x : List D} {R : D → Prop} : listD [.lst x] R = (R (.lst x)) := rfl
theorem listD_t {x : List D} {R : D → Prop} : listD [.tup x] R = (R (.lst x)) := rfl
theorem sumD_l {x : List D} {R : D → Prop} : sumD [.lst x] R = (∃ ns : List Int, x = ns.map D.int ∧ R (.int ns.sum)) := rfl
theorem allD_l {x : List D} {R : D → Prop} : allD [.lst x] R = (∃ bs : List Bool, x = bs.map D.bl ∧ R (.bl (bs.all id))) := rfl
theorem anyD_l {x : List D} {R : D → Prop} : anyD [.lst x] R = (∃ bs : List Bool, x = bs.map D.bl ∧ R (.bl (bs.any id))) := rfl
theorem catLD_l {x y : List D} {R : D → Prop} : catLD (.lst x) (.lst y) R = (x.length + y.length ≤ 1000000 ∧ R (.lst (x ++ y))) := rfl
theorem strD_i {i : Int} {R : D → Prop} : strD [.int i] R = (i.natAbs.log2 < 1920 ∧ R (.str (toString i))) := rfl
theorem seqQ_l {x : List D} {R : List D → Prop} : seqQ (.lst x) R = (R x) := rfl
theorem seqQ_t {x : List D} {R : List D → Prop} : seqQ (.tup x) R = (R x) := rfl
theorem seqQ_s {x : Str} {R : List D → Prop} : seqQ (.str x) R = (R (signs x)) := rfl
theorem negQ_i {i : Int} {R : D → Prop} : negQ (.int i) R = (R (.int (-i))) := rfl
theorem inQ_s {s z : Str} {R : Bool → Prop} : inQ (.str s) (.str z) R = (∃ c, s = ⟨#[c]⟩ ∧ R (decide (c ∈ z.cps.toList))) := rfl
theorem inD_ss {s z : Str} {R : D → Prop} : inD (.str s) (.str z) R = (∃ c, s = ⟨#[c]⟩ ∧ R (.bl (decide (c ∈ z.cps.toList)))) := rfl
theorem isS_s {x : Str} : isS (.str x) = (True) := rfl
theorem isi_non_int {R : D → Prop} : isiD [.non, .ty "int"] R = R (.bl false) := propext ⟨fun h => by simpa [isiD, tyOf, plainT, isT] using h, fun h => by simpa [isiD, tyOf, plainT, isT] using h⟩
theorem isi_non_bool {R : D → Prop} : isiD [.non, .ty "bool"] R = R (.bl false) := propext ⟨fun h => by simpa [isiD, tyOf, plainT, isT] using h, fun h => by simpa [isiD, tyOf, plainT, isT] using h⟩
theorem isi_non_str {R : D → Prop} : isiD [.non, .ty "str"] R = R (.bl false) := propext ⟨fun h => by simpa [isiD, tyOf, plainT, isT] using h, fun h => by simpa [isiD, tyOf, plainT, isT] using h⟩
theorem isi_non_tuple {R : D → Prop} : isiD [.non, .ty "tuple"] R = R (.bl false) := propext ⟨fun h => by simpa [isiD, tyOf, plainT, isT] using h, fun h => by simpa [isiD, tyOf, plainT, isT] using h⟩
theorem isi_non_list {R : D → Prop} : isiD [.non, .ty "list"] R = R (.bl false) := propext ⟨fun h => by simpa [isiD, tyOf, plainT, isT] using h, fun h => by simpa [isiD, tyOf, plainT, isT] using h⟩
theorem isi_non_dict {R : D → Prop} : isiD [.non, .ty "dict"] R = R (.bl false) := propext ⟨fun h => by simpa [isiD, tyOf, plainT, isT] using h, fun h => by simpa [isiD, tyOf, plainT, isT] using h⟩
theorem isi_non_tuple_list {R : D → Prop} : isiD [.non, .tup [.ty "tuple", .ty "list"]] R = R (.bl false) := propext ⟨fun h => by simpa [isiD, tyOf, plainT, isT] using h, fun h => by simpa [isiD, tyOf, plainT, isT] using h⟩
theorem isi_non_list_tuple {R : D → Prop} : isiD [.non, .tup [.ty "list", .ty "tuple"]] R = R (.bl false) := propext ⟨fun h => by simpa [isiD, tyOf, plainT, isT] using h, fun h => by simpa [isiD, tyOf, plainT, isT] using h⟩
theorem isi_bl_int {x : Bool} {R : D → Prop} : isiD [.bl x, .ty "int"] R = R (.bl true) := propext ⟨fun h => by simpa [isiD, tyOf, plainT, isT] using h, fun h => by simpa [isiD, tyOf, plainT, isT] using h⟩
theorem isi_bl_bool {x : Bool} {R : D → Prop} : isiD [.bl x, .ty "bool"] R = R (.bl true) := propext ⟨fun h => by simpa [isiD, tyOf, plainT, isT] using h, fun h => by simpa [isiD, tyOf, plainT, isT] using h⟩
theorem isi_bl_str {x : Bool} {R : D → Prop} : isiD [.bl x, .ty "str"] R = R (.bl false) := propext ⟨fun h => by simpa [isiD, tyOf, plainT, isT] using h, fun h => by simpa [isiD, tyOf, plainT, isT] using h⟩
theorem isi_bl_tuple {x : Bool} {R : D → Prop} : isiD [.bl x, .ty "tuple"] R = R (.bl false) := propext ⟨fun h => by simpa [isiD, tyOf, plainT, isT] using h, fun h => by simpa [isiD, tyOf, plainT, isT] using h⟩
theorem isi_bl_list {x : Bool} {R : D → Prop} : isiD [.bl x, .ty "list"] R = R (.bl false) := propext ⟨fun h => by simpa [isiD, tyOf, plainT, isT] using h, fun h => by simpa [isiD, tyOf, plainT, isT] using h⟩
theorem isi_bl_dict {x : Bool} {R : D → Prop} : isiD [.bl x, .ty "dict"] R = R (.bl false) := propext ⟨fun h => by simpa [isiD, tyOf, plainT, isT] using h, fun h => by simpa [isiD, tyOf, plainT, isT] using h⟩
theorem isi_bl_tuple_list {x : Bool} {R : D → Prop} : isiD [.bl x, .tup [.ty "tuple", .ty "list"]] R = R (.bl false) := propext ⟨fun h => by simpa [isiD, tyOf, plainT, isT] using h, fun h => by simpa [isiD, tyOf, plainT, isT] using h⟩
theorem isi_bl_list_tuple {x : Bool} {R : D → Prop} : isiD [.bl x, .tup [.ty "list", .ty "tuple"]] R = R (.bl false) := propext ⟨fun h => by simpa [isiD, tyOf, plainT, isT] using h, fun h => by simpa [isiD, tyOf, plainT, isT] using h⟩
theorem isi_int_int {x : Int} {R : D → Prop} : isiD [.int x, .ty "int"] R = R (.bl true) := propext ⟨fun h => by simpa [isiD, tyOf, plainT, isT] using h, fun h => by simpa [isiD, tyOf, plainT, isT] using h⟩
theorem isi_int_bool {x : Int} {R : D → Prop} : isiD [.int x, .ty "bool"] R = R (.bl false) := propext ⟨fun h => by simpa [isiD, tyOf, plainT, isT] using h, fun h => by simpa [isiD, tyOf, plainT, isT] using h⟩
theorem isi_int_str {x : Int} {R : D → Prop} : isiD [.int x, .ty "str"] R = R (.bl false) := propext ⟨fun h => by simpa [isiD, tyOf, plainT, isT] using h, fun h => by simpa [isiD, tyOf, plainT, isT] using h⟩
theorem isi_int_tuple {x : Int} {R : D → Prop} : isiD [.int x, .ty "tuple"] R = R (.bl false) := propext ⟨fun h => by simpa [isiD, tyOf, plainT, isT] using h, fun h => by simpa [isiD, tyOf, plainT, isT] using h⟩
theorem isi_int_list {x : Int} {R : D → Prop} : isiD [.int x, .ty "list"] R = R (.bl false) := propext ⟨fun h => by simpa [isiD, tyOf, plainT, isT] using h, fun h => by simpa [isiD, tyOf, plainT, isT] using h⟩
theorem isi_int_dict {x : Int} {R : D → Prop} : isiD [.int x, .ty "dict"] R = R (.bl false) := propext ⟨fun h => by simpa [isiD, tyOf, plainT, isT] using h, fun h => by simpa [isiD, tyOf, plainT, isT] using h⟩
theorem isi_int_tuple_list {x : Int} {R : D → Prop} : isiD [.int x, .tup [.ty "tuple", .ty "list"]] R = R (.bl false) := propext ⟨fun h => by simpa [isiD, tyOf, plainT, isT] using h, fun h => by simpa [isiD, tyOf, plainT, isT] using h⟩
theorem isi_int_list_tuple {x : Int} {R : D → Prop} : isiD [.int x, .tup [.ty "list", .ty "tuple"]] R = R (.bl false) := propext ⟨fun h => by simpa [isiD, tyOf, plainT, isT] using h, fun h => by simpa [isiD, tyOf, plainT, isT] using h⟩
theorem isi_str_int {x : Str} {R : D → Prop} : isiD [.str x, .ty "int"] R = R (.bl false) := propext ⟨fun h => by simpa [isiD, tyOf, plainT, isT] using h, fun h => by simpa [isiD, tyOf, plainT, isT] using h⟩
theorem isi_str_bool {x : Str} {R : D → Prop} : isiD [.str x, .ty "bool"] R = R (.bl false) := propext ⟨fun h => by simpa [isiD, tyOf, plainT, isT] using h, fun h => by simpa [isiD, tyOf, plainT, isT] using h⟩
theorem isi_str_str {x : Str} {R : D → Prop} : isiD [.str x, .ty "str"] R = R (.bl true) := propext ⟨fun h => by simpa [isiD, tyOf, plainT, isT] using h, fun h => by simpa [isiD, tyOf, plainT, isT] using h⟩
theorem isi_str_tuple {x : Str} {R : D → Prop} : isiD [.str x, .ty "tuple"] R = R (.bl false) := propext ⟨fun h => by simpa [isiD, tyOf, plainT, isT] using h, fun h => by simpa [isiD, tyOf, plainT, isT] using h⟩
theorem isi_str_list {x : Str} {R : D → Prop} : isiD [.str x, .ty "list"] R = R (.bl false) := propext ⟨fun h => by simpa [isiD, tyOf, plainT, isT] using h, fun h => by simpa [isiD, tyOf, plainT, isT] using h⟩
theorem isi_str_dict {x : Str} {R : D → Prop} : isiD [.str x, .ty "dict"] R = R (.bl false) := propext ⟨fun h => by simpa [isiD, tyOf, plainT, isT] using h, fun h => by simpa [isiD, tyOf, plainT, isT] using h⟩
theorem isi_str_tuple_list {x : Str} {R : D → Prop} : isiD [.str x, .tup [.ty "tuple", .ty "list"]] R = R (.bl false) := propext ⟨fun h => by simpa [isiD, tyOf, plainT, isT] using h, fun h => by simpa [isiD, tyOf, plainT, isT] using h⟩
theorem isi_str_list_tuple {x : Str} {R : D → Prop} : isiD [.str x, .tup [.ty "list", .ty "tuple"]] R = R (.bl false) := propext ⟨fun h => by simpa [isiD, tyOf, plainT, isT] using h, fun h => by simpa [isiD, tyOf, plainT, isT] using h⟩
theorem isi_tup_int {x : List D} {R : D → Prop} : isiD [.tup x, .ty "int"] R = R (.bl false) := propext ⟨fun h => by simpa [isiD, tyOf, plainT, isT] using h, fun h => by simpa [isiD, tyOf, plainT, isT] using h⟩
theorem isi_tup_bool {x : List D} {R : D → Prop} : isiD [.tup x, .ty "bool"] R = R (.bl false) := propext ⟨fun h => by simpa [isiD, tyOf, plainT, isT] using h, fun h => by simpa [isiD, tyOf, plainT, isT] using h⟩
theorem isi_tup_str {x : List D} {R : D → Prop} : isiD [.tup x, .ty "str"] R = R (.bl false) := propext ⟨fun h => by simpa [isiD, tyOf, plainT, isT] using h, fun h => by simpa [isiD, tyOf, plainT, isT] using h⟩
theorem isi_tup_tuple {x : List D} {R : D → Prop} : isiD [.tup x, .ty "tuple"] R = R (.bl true) := propext ⟨fun h => by simpa [isiD, tyOf, plainT, isT] using h, fun h => by simpa [isiD, tyOf, plainT, isT] using h⟩
theorem isi_tup_list {x : List D} {R : D → Prop} : isiD [.tup x, .ty "list"] R = R (.bl false) := propext ⟨fun h => by simpa [isiD, tyOf, plainT, isT] using h, fun h => by simpa [isiD, tyOf, plainT, isT] using h⟩
theorem isi_tup_dict {x : List D} {R : D → Prop} : isiD [.tup x, .ty "dict"] R = R (.bl false) := propext ⟨fun h => by simpa [isiD, tyOf, plainT, isT] using h, fun h => by simpa [isiD, tyOf, plainT, isT] using h⟩
theorem isi_tup_tuple_list {x : List D} {R : D → Prop} : isiD [.tup x, .tup [.ty "tuple", .ty "list"]] R = R (.bl true) := propext ⟨fun h => by simpa [isiD, tyOf, plainT, isT] using h, fun h => by simpa [isiD, tyOf, plainT, isT] using h⟩
theorem isi_tup_list_tuple {x : List D} {R : D → Prop} : isiD [.tup x, .tup [.ty "list", .ty "tuple"]] R = R (.bl true) := propext ⟨fun h => by simpa [isiD, tyOf, plainT, isT] using h, fun h => by simpa [isiD, tyOf, plainT, isT] using h⟩
theorem isi_lst_int {x : List D} {R : D → Prop} : isiD [.lst x, .ty "int"] R = R (.bl false) := propext ⟨fun h => by simpa [isiD, tyOf, plainT, isT] using h, fun h => by simpa [isiD, tyOf, plainT, isT] using h⟩
theorem isi_lst_bool {x : List D} {R : D → Prop} : isiD [.lst x, .ty "bool"] R = R (.bl false) := propext ⟨fun h => by simpa [isiD, tyOf, plainT, isT] using h, fun h => by simpa [isiD, tyOf, plainT, isT] using h⟩
theorem isi_lst_str {x : List D} {R : D → Prop} : isiD [.lst x, .ty "str"] R = R (.bl false) := propext ⟨fun h => by simpa [isiD, tyOf, plainT, isT] using h, fun h => by simpa [isiD, tyOf, plainT, isT] using h⟩
theorem isi_lst_tuple {x : List D} {R : D → Prop} : isiD [.lst x, .ty "tuple"] R = R (.bl false) := propext ⟨fun h => by simpa [isiD, tyOf, plainT, isT] using h, fun h => by simpa [isiD, tyOf, plainT, isT] using h⟩
theorem isi_lst_list {x : List D} {R : D → Prop} : isiD [.lst x, .ty "list"] R = R (.bl true) := propext ⟨fun h => by simpa [isiD, tyOf, plainT, isT] using h, fun h => by simpa [isiD, tyOf, plainT, isT] using h⟩
theorem isi_lst_dict {x : List D} {R : D → Prop} : isiD [.lst x, .ty "dict"] R = R (.bl false) := propext ⟨fun h => by simpa [isiD, tyOf, plainT, isT] using h, fun h => by simpa [isiD, tyOf, plainT, isT] using h⟩
theorem isi_lst_tuple_list {x : List D} {R : D → Prop} : isiD [.lst x, .tup [.ty "tuple", .ty "list"]] R = R (.bl true) := propext ⟨fun h => by simpa [isiD, tyOf, plainT, isT] using h, fun h => by simpa [isiD, tyOf, plainT, isT] using h⟩
theorem isi_lst_list_tuple {x : List D} {R : D → Prop} : isiD [.lst x, .tup [.ty "list", .ty "tuple"]] R = R (.bl true) := propext ⟨fun h => by simpa [isiD, tyOf, plainT, isT] using h, fun h => by simpa [isiD, tyOf, plainT, isT] using h⟩
theorem isi_emp_int {R : D → Prop} : isiD [.emp, .ty "int"] R = R (.bl false) := propext ⟨fun h => by simpa [isiD, tyOf, plainT, isT] using h, fun h => by simpa [isiD, tyOf, plainT, isT] using h⟩
theorem isi_emp_bool {R : D → Prop} : isiD [.emp, .ty "bool"] R = R (.bl false) := propext ⟨fun h => by simpa [isiD, tyOf, plainT, isT] using h, fun h => by simpa [isiD, tyOf, plainT, isT] using h⟩
theorem isi_emp_str {R : D → Prop} : isiD [.emp, .ty "str"] R = R (.bl false) := propext ⟨fun h => by simpa [isiD, tyOf, plainT, isT] using h, fun h => by simpa [isiD, tyOf, plainT, isT] using h⟩
theorem isi_emp_tuple {R : D → Prop} : isiD [.emp, .ty "tuple"] R = R (.bl false) := propext ⟨fun h => by simpa [isiD, tyOf, plainT, isT] using h, fun h => by simpa [isiD, tyOf, plainT, isT] using h⟩
theorem isi_emp_list {R : D → Prop} : isiD [.emp, .ty "list"] R = R (.bl false) := propext ⟨fun h => by simpa [isiD, tyOf, plainT, isT] using h, fun h => by simpa [isiD, tyOf, plainT, isT] using h⟩
theorem isi_emp_dict {R : D → Prop} : isiD [.emp, .ty "dict"] R = R (.bl true) := propext ⟨fun h => by simpa [isiD, tyOf, plainT, isT] using h, fun h => by simpa [isiD, tyOf, plainT, isT] using h⟩
theorem isi_emp_tuple_list {R : D → Prop} : isiD [.emp, .tup [.ty "tuple", .ty "list"]] R = R (.bl false) := propext ⟨fun h => by simpa [isiD, tyOf, plainT, isT] using h, fun h => by simpa [isiD, tyOf, plainT, isT] using h⟩
theorem isi_emp_list_tuple {R : D → Prop} : isiD [.emp, .tup [.ty "list", .ty "tuple"]] R = R (.bl false) := propext ⟨fun h => by simpa [isiD, tyOf, plainT, isT] using h, fun h => by simpa [isiD, tyOf, plainT, isT] using h⟩
theorem rl_mapc {α β : Type} {f : α → β} {a : α} {l : List α} : List.map f (a :: l) = f a :: List.map f l := rfl
theorem rl_mapn {α β : Type} {f : α → β} : List.map f [] = [] := rfl
theorem rl_appc {α : Type} {a : α} {l m : List α} : a :: l ++ m = a :: (l ++ m) := rfl
theorem rl_appn {α : Type} {m : List α} : [] ++ m = m := rfl
theorem rl_get0 {α : Type} {a : α} {l : List α} : (a :: l)[0]? = some a := rfl
theorem rl_gets {α : Type} {a : α} {l : List α} {i : Nat} : (a :: l)[i + 1]? = l[i]? := rfl
theorem rl_set0 {α : Type} {a b : α} {l : List α} : (a :: l).set 0 b = b :: l := rfl
theorem rl_sets {α : Type} {a b : α} {l : List α} {i : Nat} : (a :: l).set (i + 1) b = a :: l.set i b := rfl
theorem rl_lenc {α : Type} {a : α} {l : List α} : (a :: l).length = l.length + 1 := rfl
theorem rl_lenn {α : Type} : ([] : List α).length = 0 := rfl
theorem rl_rep0 {α : Type} {a : α} : List.replicate 0 a = [] := rfl
theorem rl_reps {α : Type} {a : α} {n : Nat} : List.replicate (n + 1) a = a :: List.replicate n a := rfl
theorem atI_z0 {α : Type} {x : α} {xs : List α} : atI (x :: xs) 0 = some x := atI_nat (j := 0) rfl
theorem atI_z1 {α : Type} {x y : α} {xs : List α} : atI (x :: y :: xs) 1 = some y := atI_nat (j := 1) rfl
theorem atI_z2 {α : Type} {x y z : α} {xs : List α} : atI (x :: y :: z :: xs) 2 = some z := atI_nat (j := 2) rfl
theorem atI_if2 {α : Type} {x y : α} {c : Prop} [Decidable c] : atI [x, y] (if c then 1 else 0) = some (if c then y else x) := by split <;> rfl
theorem ite_int {c : Prop} [Decidable c] {a b : Int} : (if c then D.int a else D.int b) = D.int (if c then a else b) := by split <;> rfl
theorem some_ex {α : Type} {x : α} {P : α → Prop} : (∃ d, some x = some d ∧ P d) = P x := propext ⟨fun ⟨_, e, h⟩ => by cases e; exact h, fun h => ⟨x, rfl, h⟩⟩
theorem cutL_to {α : Type} (l : List α) {k : Int} (h0 : 0 ≤ k) : cutL l none (some k) = l.take k.toNat := by
  obtain ⟨j, rfl⟩ := Int.eq_ofNat_of_zero_le h0
  unfold cutL
  rw [HT.sIx_nat, HT.sIx_none, List.drop_zero, Nat.sub_zero, Int.toNat_natCast]
  by_cases h : j ≤ l.length
  · rw [Nat.min_eq_left h]
  · rw [Nat.min_eq_right (by omega), List.take_length, List.take_of_length_le (by omega)]
theorem cutL_from {α : Type} (l : List α) {k : Int} (h0 : 0 ≤ k) : cutL l (some k) none = l.drop k.toNat := by
  obtain ⟨j, rfl⟩ := Int.eq_ofNat_of_zero_le h0
  unfold cutL
  rw [HT.sIx_nat, HT.sIx_none, Int.toNat_natCast]
  by_cases h : j ≤ l.length
  · rw [Nat.min_eq_left h, List.take_of_length_le (by rw [List.length_drop]; omega)]
  · rw [Nat.min_eq_right (by omega), List.drop_length, List.take_nil, List.drop_of_length_le (by omega)]
/-- draws, counted from above alone -/
theorem lcl_dr {g : DG} {te : DE} {ρw : List Sl} (P : Nat → D → Prop) (c : Nat) : ∀ (its : List D) (k : Nat) (acc : List D) (n : Nat) (R : D → Nat → Prop), (∀ i d, its[i]? = some d → ∀ (n' : Nat) (S : D → Nat → Prop), n' ≤ n + c * i → (∀ r n'', P (k + i) r → n'' ≤ n' + c → S r n'') → g d ρw fun ρ' => te ρ' n' S) →
    (∀ rs n', rs.length = its.length → (∀ i r, rs[i]? = some r → P (k + i) r) → n' ≤ n + c * its.length → R (.lst (acc ++ rs)) n') → ∀ m, m ≤ n → dLcL g dYes te ρw its acc m R
  | [], k, acc, n, R, _, h, m, hm => by
    have := h [] m rfl (fun i r e => by simp at e) (by omega)
    rw [List.append_nil] at this; exact this
  | d :: ds, k, acc, n, R, hs, h, m, hm => by
    rw [dLcL]
    simp only [dYes, if_true]
    refine hs 0 d rfl m _ (by omega) fun r n1 pr l2 => ?_
    refine lcl_dr P c ds (k + 1) _ (n + c) R (fun i x hx n' S b2 q => ?_) (fun rs n' hl hp b2 => ?_) n1 (by omega)
    · refine hs (i + 1) x (by simpa using hx) n' S (by rw [Nat.mul_add]; omega) fun r' n'' p b4 => q r' n'' ?_ b4
      have e : k + (i + 1) = k + 1 + i := by omega
      rw [← e]; exact p
    · rw [List.append_assoc]
      refine h ([r] ++ rs) n' (by rw [List.length_append, hl, List.length_cons]; show 1 + ds.length = ds.length + 1; omega) (fun i x hx => ?_) (by rw [List.length_cons, Nat.mul_add]; omega)
      cases i with
      | zero => simp at hx; subst hx; exact pr
      | succ i =>
        have e : k + (i + 1) = k + 1 + i := by omega
        rw [e]
        exact hp i x (by simpa using hx)
theorem lc_drI {g : DG} {te : DE} {ρw : List Sl} (P : Nat → D → Prop) (c : Nat) {its : List D} {n : Nat} {R : D → Nat → Prop} (hs : ∀ i d, its[i]? = some d → ∀ (n' : Nat) (S : D → Nat → Prop), n' ≤ n + c * its.length → (∀ r n'', P i r → n'' ≤ n' + c → S r n'') → g d ρw fun ρ' => te ρ' n' S)
    (h : ∀ rs n', rs.length = its.length → (∀ i r, rs[i]? = some r → P i r) → n' ≤ n + c * its.length → R (.lst rs) n') : dLcL g dYes te ρw its [] n R := by
  refine lcl_dr P c its 0 [] n R (fun i d hd n' S b2 q => hs i d hd n' S ?_ (by rw [Nat.zero_add] at q; exact q)) (fun rs n' hl hp b2 => by
    rw [List.nil_append]
    exact h rs n' hl (fun i r hr => by have := hp i r hr; rw [Nat.zero_add] at this; exact this) b2) n (Nat.le_refl _)
  have hi : i < its.length := (List.getElem?_eq_some_iff.mp hd).1
  have : c * i ≤ c * its.length := Nat.mul_le_mul_left c (by omega)
  omega
theorem lc_dr {g : DG} {te : DE} {ρw : List Sl} (P : D → Prop) (c : Nat) {its : List D} {n : Nat} {R : D → Nat → Prop} (hs : ∀ d, d ∈ its → ∀ (n' : Nat) (S : D → Nat → Prop), n' ≤ n + c * its.length → (∀ r n'', P r → n'' ≤ n' + c → S r n'') → g d ρw fun ρ' => te ρ' n' S)
    (h : ∀ rs n', rs.length = its.length → (∀ r, r ∈ rs → P r) → n' ≤ n + c * its.length → R (.lst rs) n') : dLcL g dYes te ρw its [] n R :=
  lc_drI (fun _ => P) c (fun i d hd n' S b q => hs d (List.mem_of_getElem? hd) n' S b q) fun rs n' hl hp b => h rs n' hl (fun r hr => by
    obtain ⟨i, hi⟩ := List.getElem?_of_mem hr
    exact hp i r hi) b
theorem min2D_j {i j : Int} {R : D → Prop} : min2D [.int i, .int j] R = R (.int (mn i j)) := rfl
theorem max2D_j {i j : Int} {R : D → Prop} : max2D [.int i, .int j] R = R (.int (mx i j)) := rfl
theorem cDraw_i {m : Int} {n : Nat} {R : D → Nat → Prop} : cDraw [.pen, .int m] n R = (0 < m ∧ m < 1073741824 ∧ n ≤ 1000000000 ∧ ∀ d : Int, 0 ≤ d → d < m → R (.int d) (n + 1)) := rfl
end Gg

namespace Gg
open PySem PySem.Spec PyProof.Rows L2
local macro_rules | `(tactic| get_elem_tactic_trivial) => `(tactic| ((try simp only [Gg.ixD_0, Gg.ixD_1, Gg.ixD_2, Gg.atI_z0, Gg.atI_z1, Gg.atI_z2, Gg.atI_if2, Gg.ite_int, Gg.some_ex, decide_eq_true_eq, List.length_map, List.map_append, Nat.reduceLeDiff, Nat.reduceLT, Int.cast_ofNat_Int, Int.reduceLT, Int.reduceLE, true_and, and_true, ne_eq, reduceCtorEq, not_false_eq_true, Bool.false_eq_true, Bool.true_eq_false, if_true, if_false, ite_true, ite_false, decide_true, decide_false, Gg.isi_non_int, Gg.isi_non_bool, Gg.isi_non_str, Gg.isi_non_tuple, Gg.isi_non_list, Gg.isi_non_dict, Gg.isi_non_tuple_list, Gg.isi_non_list_tuple, Gg.isi_bl_int, Gg.isi_bl_bool, Gg.isi_bl_str, Gg.isi_bl_tuple, Gg.isi_bl_list, Gg.isi_bl_dict, Gg.isi_bl_tuple_list, Gg.isi_bl_list_tuple, Gg.isi_int_int, Gg.isi_int_bool, Gg.isi_int_str, Gg.isi_int_tuple, Gg.isi_int_list, Gg.isi_int_dict, Gg.isi_int_tuple_list, Gg.isi_int_list_tuple, Gg.isi_str_int, Gg.isi_str_bool, Gg.isi_str_str, Gg.isi_str_tuple, Gg.isi_str_list, Gg.isi_str_dict, Gg.isi_str_tuple_list, Gg.isi_str_list_tuple, Gg.isi_tup_int, Gg.isi_tup_bool, Gg.isi_tup_str, Gg.isi_tup_tuple, Gg.isi_tup_list, Gg.isi_tup_dict, Gg.isi_tup_tuple_list, Gg.isi_tup_list_tuple, Gg.isi_lst_int, Gg.isi_lst_bool, Gg.isi_lst_str, Gg.isi_lst_tuple, Gg.isi_lst_list, Gg.isi_lst_dict, Gg.isi_lst_tuple_list, Gg.isi_lst_list_tuple, Gg.isi_emp_int, Gg.isi_emp_bool, Gg.isi_emp_str, Gg.isi_emp_tuple, Gg.isi_emp_list, Gg.isi_emp_dict, Gg.isi_emp_tuple_list, Gg.isi_emp_list_tuple]); (repeat (dsimp only [Gg.dSeq, Gg.dSet, Gg.dOwn, Gg.dVar, Gg.dVarC, Gg.dC, Gg.dOp, Gg.dTest, Gg.dChain, Gg.dAndT, Gg.dOrT, Gg.dNotT, Gg.dAndV, Gg.dOrV, Gg.dNotV, Gg.dIf, Gg.dIfS, Gg.dRet, Gg.dRetN, Gg.dNext, Gg.dDrop, Gg.dAppend, Gg.dSetIx, Gg.dFrz, Gg.dPar, Gg.dB, Gg.dCall, Gg.dCons, Gg.dNil, Gg.dTup, Gg.dLst, Gg.dLc, Gg.dYes, Gg.dSeqI, Gg.dRng1, Gg.dRng2, Gg.dZip, Gg.dEnumT, Gg.dFor, Gg.dAsg, Gg.dgName, Gg.dgTup, Gg.dgCons, Gg.dgNil, Gg.dTruth, Gg.dNeg, Gg.dNoPart, Gg.dPart, Gg.dSl, Gg.dRv, Gg.dAug, Gg.dBreak, Gg.dCont, Gg.dNever, Gg.wipeS, Gg.startN, Gg.ends, Gg.rl_mapc, Gg.rl_mapn, Gg.rl_appc, Gg.rl_appn, Gg.rl_get0, Gg.rl_gets, Gg.rl_set0, Gg.rl_sets, Gg.rl_lenc, Gg.rl_lenn, Gg.rl_rep0, Gg.rl_reps, Nat.reduceAdd, Nat.reduceSub, Gg.dFld, Gg.dMeth, Gg.dM1, Gg.iNil, Gg.iDrop, Gg.iSet, Gg.iFld, Gg.iIf, Gg.startI, Gg.dNo, Gg.joinD_l, Gg.addD_i, Gg.addD_s, Gg.addD_t, Gg.addD_l, Gg.addD_bi, Gg.addD_ib, Gg.subD_i, Gg.mulD_i, Gg.mulD_t, Gg.mulD_l, Gg.modD_i, Gg.fdivD_i, Gg.powD_i, Gg.ltD_i, Gg.leD_i, Gg.gtD_i, Gg.geD_i, Gg.isND_non, Gg.notND_non, Gg.truD_non, Gg.isND_bl, Gg.notND_bl, Gg.truD_bl, Gg.isND_int, Gg.notND_int, Gg.truD_int, Gg.isND_str, Gg.notND_str, Gg.isND_tup, Gg.notND_tup, Gg.truD_tup, Gg.isND_lst, Gg.notND_lst, Gg.truD_lst, Gg.isND_obj, Gg.notND_obj, Gg.truD_str, Gg.slD_t, Gg.slD_l, Gg.slD_s, Gg.rvD_t, Gg.rvD_l, Gg.ixD_t, Gg.ixD_l, Gg.ixD_s, Gg.lenD_l, Gg.lenD_t, Gg.lenD_s, Gg.absD_i, Gg.intOfD_i, Gg.intOfD_b, Gg.tupleD_l, Gg.tupleD_t, Gg.listD_l, Gg.listD_t, Gg.sumD_l, Gg.allD_l, Gg.anyD_l, Gg.catLD_l, Gg.strD_i, Gg.seqQ_l, Gg.seqQ_t, Gg.seqQ_s, Gg.negQ_i, Gg.inQ_s, Gg.inD_ss, Gg.isS_s, Gg.min2D_j, Gg.max2D_j, Gg.cDraw_i, Gg.eqD_int, Gg.neD_int, Gg.eqD_bl, Gg.neD_bl, Gg.eqD_ss, Gg.neD_ss, Gg.eqD_ln, Gg.neD_ln, Gg.eqD_tn, Gg.neD_tn, Int.reduceAdd, Int.reduceSub, Int.reduceMul, Int.reducePow, Int.reduceToNat, Bool.not_true, Bool.not_false]; (try simp only [Gg.ixD_0, Gg.ixD_1, Gg.ixD_2, Gg.atI_z0, Gg.atI_z1, Gg.atI_z2, Gg.atI_if2, Gg.ite_int, Gg.some_ex, decide_eq_true_eq, List.length_map, List.map_append, Nat.reduceLeDiff, Nat.reduceLT, Int.cast_ofNat_Int, Int.reduceLT, Int.reduceLE, true_and, and_true, ne_eq, reduceCtorEq, not_false_eq_true, Bool.false_eq_true, Bool.true_eq_false, if_true, if_false, ite_true, ite_false, decide_true, decide_false, Gg.isi_non_int, Gg.isi_non_bool, Gg.isi_non_str, Gg.isi_non_tuple, Gg.isi_non_list, Gg.isi_non_dict, Gg.isi_non_tuple_list, Gg.isi_non_list_tuple, Gg.isi_bl_int, Gg.isi_bl_bool, Gg.isi_bl_str, Gg.isi_bl_tuple, Gg.isi_bl_list, Gg.isi_bl_dict, Gg.isi_bl_tuple_list, Gg.isi_bl_list_tuple, Gg.isi_int_int, Gg.isi_int_bool, Gg.isi_int_str, Gg.isi_int_tuple, Gg.isi_int_list, Gg.isi_int_dict, Gg.isi_int_tuple_list, Gg.isi_int_list_tuple, Gg.isi_str_int, Gg.isi_str_bool, Gg.isi_str_str, Gg.isi_str_tuple, Gg.isi_str_list, Gg.isi_str_dict, Gg.isi_str_tuple_list, Gg.isi_str_list_tuple, Gg.isi_tup_int, Gg.isi_tup_bool, Gg.isi_tup_str, Gg.isi_tup_tuple, Gg.isi_tup_list, Gg.isi_tup_dict, Gg.isi_tup_tuple_list, Gg.isi_tup_list_tuple, Gg.isi_lst_int, Gg.isi_lst_bool, Gg.isi_lst_str, Gg.isi_lst_tuple, Gg.isi_lst_list, Gg.isi_lst_dict, Gg.isi_lst_tuple_list, Gg.isi_lst_list_tuple, Gg.isi_emp_int, Gg.isi_emp_bool, Gg.isi_emp_str, Gg.isi_emp_tuple, Gg.isi_emp_list, Gg.isi_emp_dict, Gg.isi_emp_tuple_list, Gg.isi_emp_list_tuple])))))

theorem nw_times_sum : (("times" : Str) = "sum") = False := eq_false (by decide +kernel)
theorem nw_low_sum : (("low" : Str) = "sum") = False := eq_false (by decide +kernel)
theorem nw_high_sum : (("high" : Str) = "sum") = False := eq_false (by decide +kernel)
theorem nw_add_sum : (("add" : Str) = "sum") = False := eq_false (by decide +kernel)
theorem nw_lesser_sum : (("lesser" : Str) = "sum") = False := eq_false (by decide +kernel)
theorem nw_greater_sum : (("greater" : Str) = "sum") = False := eq_false (by decide +kernel)
theorem nw_low_times : (("low" : Str) = "times") = False := eq_false (by decide +kernel)
theorem nw_high_times : (("high" : Str) = "times") = False := eq_false (by decide +kernel)
theorem nw_add_times : (("add" : Str) = "times") = False := eq_false (by decide +kernel)
theorem nw_lesser_times : (("lesser" : Str) = "times") = False := eq_false (by decide +kernel)
theorem nw_greater_times : (("greater" : Str) = "times") = False := eq_false (by decide +kernel)
theorem nw_high_low : (("high" : Str) = "low") = False := eq_false (by decide +kernel)
theorem nw_lesser_add : (("lesser" : Str) = "add") = False := eq_false (by decide +kernel)
theorem nw_greater_add : (("greater" : Str) = "add") = False := eq_false (by decide +kernel)
theorem nw_greater_lesser : (("greater" : Str) = "lesser") = False := eq_false (by decide +kernel)
theorem cPick_l {xs : List D} {n : Nat} {R : D → Nat → Prop} : cPick [.pen, .lst xs] n R = (0 < xs.length ∧ xs.length ≤ 1000000 ∧ n ≤ 900000000 ∧ ∀ d, d ∈ xs → R d (n + 1)) := rfl
abbrev tI (ns : List Int) : D := .tup (ns.map D.int)
theorem lcl_range {g : DG} {te : DE} {ρw : List Sl} (f : Nat → D) {m n : Nat} {R : D → Nat → Prop} (hs : ∀ k, k < m → ∀ (n : Nat) (S : D → Nat → Prop), S (f k) n → g (.int (0 + (k : Int))) ρw fun ρ' => te ρ' n S) (h : R (.lst ((List.range m).map f)) n) : dLcL g dYes te ρw (rangeL 0 m) [] n R := by
  refine lcl_map (fun d => match d with | .int i => f i.toNat | _ => .non) (fun d hd n S q => ?_) ?_
  · obtain ⟨k, rfl, hk⟩ := rangeL_mem hd
    refine hs k hk n S ?_
    have e : (0 + (k : Int)).toNat = k := by omega
    simp only [e] at q
    exact q
  · have e : (rangeL 0 m).map (fun d => match d with | .int i => f i.toNat | _ => .non) = (List.range m).map f := by
      unfold rangeL
      rw [List.map_map]
      apply List.map_congr_left
      intro k _
      show f (0 + (k : Int)).toNat = f k
      congr 1; omega
    rw [e]; exact h
theorem range_zip (g : Int → Int → Int) : ∀ (xs ys : List Int), xs.length = ys.length → (List.range xs.length).map (fun k => D.int (g (xs.getD k 0) (ys.getD k 0))) = (List.zipWith g xs ys).map D.int := by
  intro xs ys h
  apply List.ext_getElem?
  intro k
  rw [List.getElem?_map, List.getElem?_map, List.getElem?_zipWith]
  by_cases hk : k < xs.length
  · have hk2 : k < ys.length := by omega
    rw [List.getElem?_range hk, List.getElem?_eq_getElem hk, List.getElem?_eq_getElem hk2]
    simp [List.getD_eq_getElem?_getD, List.getElem?_eq_getElem hk, List.getElem?_eq_getElem hk2]
  · rw [List.getElem?_eq_none (by simpa using hk), List.getElem?_eq_none (by simpa using hk)]
    rfl
theorem atI_ints {xs : List Int} {k : Nat} (h : k < xs.length) : atI (xs.map D.int) (0 + (k : Int)) = some (.int (xs.getD k 0)) := by
  rw [show (0 + (k : Int)) = (k : Int) by omega]
  refine atI_nat ?_
  rw [List.getElem?_map, List.getElem?_eq_getElem h]
  simp [List.getD_eq_getElem?_getD, List.getElem?_eq_getElem h]
def cStep : DC := fun ds n R => match ds with
  | [.pen] => n ≤ 900000000 ∧ ∀ v : Int, 1 ≤ v → v ≤ 100000000 → R (.int v) (n + 1)
  | _ => False
def cThing : DC := fun ds n R => match ds with
  | [.pen, .int many, .int upto, .int by'] => 0 ≤ many ∧ many ≤ 1000 ∧ 0 ≤ upto ∧ upto < 1000000 ∧ 0 ≤ by' ∧ by' ≤ 1000000000 ∧ n + many.toNat ≤ 900000000 ∧ ∀ (ns : List Int) (n' : Nat), ns.length = many.toNat → (∀ x, x ∈ ns → ∃ k : Int, x = by' * k ∧ 0 ≤ k ∧ k ≤ upto) → n' ≤ n + many.toNat → R (tI ns) n'
  | _ => False
def cMeetL : DC := fun ds n R => match ds with
  | [.tup a, .tup b] => ∃ xs ys : List Int, a = xs.map D.int ∧ b = ys.map D.int ∧ xs.length = ys.length ∧ xs.length ≤ 1000 ∧ R (tI (List.zipWith mn xs ys)) n
  | _ => False
def cBound : DC := fun ds n R => match ds with
  | [.pen, .int count, .int other] => 0 ≤ count ∧ 0 ≤ other ∧ n ≤ 800000000 ∧ ∀ b : Int, 0 ≤ b → b ≤ count → R (.int b) (n + 2)
  | _ => False

theorem wp_law_step {ds : List D} {n : Nat} {R : D → Nat → Prop} (h : cStep ds n R) : (dRet (dCall cPick (dCons (dVarC 0) (dCons (dC (.lst [.int 1, .int 1, .int 1, .int 2, .int 10, .int 100000000])) dNil)))) (ends R) (startN 1 ds) n := by
  unfold cStep at h
  split at h
  case h_2 => exact h.elim
  simp only [dSeq, dSet, dOwn, dVar, dVarC, dC, dOp, dTest, dChain, dAndT, dOrT, dNotT, dAndV, dOrV, dNotV, dIf, dIfS, dRet, dRetN, dNext, dDrop, dAppend, dSetIx, dFrz, dPar, dB, dCall, dCons, dNil, dTup, dLst, dLc, dYes, dSeqI, seqQ, dRng1, dRng2, dZip, dEnum, dFor, dAsg, dgName, dgTup, dgCons, dgNil, dTruth, truD, dNeg, negQ, dNoPart, dPart, dSl, slD, dRv, rvD, dAug, dBreak, dCont, dNever, wipeS, startN, ends, lenD, absD, min2D_i, max2D_i, Gg.intOfD, tupleD, listD, isiD, strD, addD, Gg.intD, subD, mulD, modD, fdivD, powD, ltD, leD, gtD, geD, isND, notND, catLD, ixD, inD, ninD, eqD, neD, eqQ, List.map_cons, List.map_nil, List.length_cons, List.length_nil, List.cons_append, List.nil_append, List.replicate, List.getElem?_cons_zero, List.getElem?_cons_succ, List.set_cons_zero, List.set_cons_succ, Nat.reduceAdd, Nat.reduceSub, cPick]
  refine ⟨by decide, by decide, h.1, fun d hd => ?_⟩
  simp only [List.mem_cons, List.not_mem_nil, or_false] at hd
  rcases hd with rfl | rfl | rfl | rfl | rfl | rfl <;> exact h.2 _ (by decide) (by decide)

theorem wp_law_thing {ds : List D} {n : Nat} {R : D → Nat → Prop} (h : cThing ds n R) : (dRet (dB tupleD (dCons (dLc (dRng1 (dCons (dVarC 1) dNil)) (dgName 4) dYes (dOp mulD (dVar 3) (dCall cDraw (dCons (dVarC 0) (dCons (dOp addD (dVar 2) (dC (.int 1))) dNil)))) [4]) dNil))) (ends R) (startN 5 ds) n := by
  unfold cThing at h
  split at h
  case h_2 => exact h.elim
  next many upto by' =>
  obtain ⟨m0, m1, u0, u1, y0, y1, hb, h⟩ := h
  simp only [dSeq, dSet, dOwn, dVar, dVarC, dC, dOp, dTest, dChain, dAndT, dOrT, dNotT, dAndV, dOrV, dNotV, dIf, dIfS, dRet, dRetN, dNext, dDrop, dAppend, dSetIx, dFrz, dPar, dB, dCall, dCons, dNil, dTup, dLst, dLc, dYes, dSeqI, seqQ, dRng1, dRng2, dZip, dEnum, dFor, dAsg, dgName, dgTup, dgCons, dgNil, dTruth, truD, dNeg, negQ, dNoPart, dPart, dSl, slD, dRv, rvD, dAug, dBreak, dCont, dNever, wipeS, startN, ends, lenD, absD, min2D_i, max2D_i, Gg.intOfD, tupleD, listD, isiD, strD, addD, Gg.intD, subD, mulD, modD, fdivD, powD, ltD, leD, gtD, geD, isND, notND, catLD, ixD, inD, ninD, eqD, neD, eqQ, List.map_cons, List.map_nil, List.length_cons, List.length_nil, List.cons_append, List.nil_append, List.replicate, List.getElem?_cons_zero, List.getElem?_cons_succ, List.set_cons_zero, List.set_cons_succ, Nat.reduceAdd, Nat.reduceSub]
  refine ⟨by omega, by omega, by rw [rangeL_len]; omega, lc_draws (fun d => ∃ x : Int, d = .int x ∧ ∃ k : Int, x = by' * k ∧ 0 ≤ k ∧ k ≤ upto) 1 (fun d hd n' S b1 b2 q => ?_) fun rs n1 hl hp n0 n1' => ?_⟩
  · rw [rangeL_len] at b2
    simp only [dSeq, dSet, dOwn, dVar, dVarC, dC, dOp, dTest, dChain, dAndT, dOrT, dNotT, dAndV, dOrV, dNotV, dIf, dIfS, dRet, dRetN, dNext, dDrop, dAppend, dSetIx, dFrz, dPar, dB, dCall, dCons, dNil, dTup, dLst, dLc, dYes, dSeqI, seqQ, dRng1, dRng2, dZip, dEnum, dFor, dAsg, dgName, dgTup, dgCons, dgNil, dTruth, truD, dNeg, negQ, dNoPart, dPart, dSl, slD, dRv, rvD, dAug, dBreak, dCont, dNever, wipeS, startN, ends, lenD, absD, min2D_i, max2D_i, Gg.intOfD, tupleD, listD, isiD, strD, addD, Gg.intD, subD, mulD, modD, fdivD, powD, ltD, leD, gtD, geD, isND, notND, catLD, ixD, inD, ninD, eqD, neD, eqQ, List.map_cons, List.map_nil, List.length_cons, List.length_nil, List.cons_append, List.nil_append, List.replicate, List.getElem?_cons_zero, List.getElem?_cons_succ, List.set_cons_zero, List.set_cons_succ, Nat.reduceAdd, Nat.reduceSub, cDraw]
    exact ⟨by omega, by omega, by omega, fun k k0 k1 => ⟨.inl ⟨by omega, by omega⟩, q _ _ ⟨_, rfl, k, rfl, k0, by omega⟩ (by omega) (by omega)⟩⟩
  · rw [rangeL_len] at hl n1'
    obtain ⟨ws, rfl, hw⟩ := ints_of rs hp
    rw [List.length_map] at hl
    exact h ws n1 hl hw (by omega)

theorem wp_law_meet {ds : List D} {n : Nat} {R : D → Nat → Prop} (h : cMeetL ds n R) : (dRet (dB tupleD (dCons (dLc (dRng1 (dCons (dB lenD (dCons (dVar 0) dNil)) dNil)) (dgName 2) dYes (dB min2D (dCons (dOp ixD (dVar 0) (dVar 2)) (dCons (dOp ixD (dVar 1) (dVar 2)) dNil))) [2]) dNil))) (ends R) (startN 3 ds) n := by
  unfold cMeetL at h
  split at h
  case h_2 => exact h.elim
  next a b =>
  obtain ⟨xs, ys, rfl, rfl, hl, h1, h⟩ := h
  simp only [dSeq, dSet, dOwn, dVar, dVarC, dC, dOp, dTest, dChain, dAndT, dOrT, dNotT, dAndV, dOrV, dNotV, dIf, dIfS, dRet, dRetN, dNext, dDrop, dAppend, dSetIx, dFrz, dPar, dB, dCall, dCons, dNil, dTup, dLst, dLc, dYes, dSeqI, seqQ, dRng1, dRng2, dZip, dEnum, dFor, dAsg, dgName, dgTup, dgCons, dgNil, dTruth, truD, dNeg, negQ, dNoPart, dPart, dSl, slD, dRv, rvD, dAug, dBreak, dCont, dNever, wipeS, startN, ends, lenD, absD, min2D_i, max2D_i, Gg.intOfD, tupleD, listD, isiD, strD, addD, Gg.intD, subD, mulD, modD, fdivD, powD, ltD, leD, gtD, geD, isND, notND, catLD, ixD, inD, ninD, eqD, neD, eqQ, List.map_cons, List.map_nil, List.length_cons, List.length_nil, List.cons_append, List.nil_append, List.replicate, List.getElem?_cons_zero, List.getElem?_cons_succ, List.set_cons_zero, List.set_cons_succ, Nat.reduceAdd, Nat.reduceSub]
  rw [List.length_map]
  refine ⟨by omega, by omega, by rw [rangeL_len]; omega, ?_⟩
  rw [show ((xs.length : Int)).toNat = xs.length by omega]
  refine lcl_range (fun k => .int (mn (xs.getD k 0) (ys.getD k 0))) (fun k hk n S q => ?_) ?_
  · simp only [dSeq, dSet, dOwn, dVar, dVarC, dC, dOp, dTest, dChain, dAndT, dOrT, dNotT, dAndV, dOrV, dNotV, dIf, dIfS, dRet, dRetN, dNext, dDrop, dAppend, dSetIx, dFrz, dPar, dB, dCall, dCons, dNil, dTup, dLst, dLc, dYes, dSeqI, seqQ, dRng1, dRng2, dZip, dEnum, dFor, dAsg, dgName, dgTup, dgCons, dgNil, dTruth, truD, dNeg, negQ, dNoPart, dPart, dSl, slD, dRv, rvD, dAug, dBreak, dCont, dNever, wipeS, startN, ends, lenD, absD, min2D_i, max2D_i, Gg.intOfD, tupleD, listD, isiD, strD, addD, Gg.intD, subD, mulD, modD, fdivD, powD, ltD, leD, gtD, geD, isND, notND, catLD, ixD, inD, ninD, eqD, neD, eqQ, List.map_cons, List.map_nil, List.length_cons, List.length_nil, List.cons_append, List.nil_append, List.replicate, List.getElem?_cons_zero, List.getElem?_cons_succ, List.set_cons_zero, List.set_cons_succ, Nat.reduceAdd, Nat.reduceSub]
    exact ⟨_, atI_ints hk, _, atI_ints (by omega), q⟩
  · rw [range_zip mn xs ys hl]
    exact h

theorem wp_law_bound {ds : List D} {n : Nat} {R : D → Nat → Prop} (h : cBound ds n R) : (dSeq (dSet 3 (dLst (dCons (dVarC 1) (dCons (dVarC 2) (dCons (dB min2D (dCons (dVar 1) (dCons (dOp addD (dVar 2) (dC (.int 1))) dNil))) (dCons (dB max2D (dCons (dC (.int 0)) (dCons (dOp subD (dVar 2) (dC (.int 1))) dNil))) (dCons (dOp fdivD (dVar 1) (dC (.int 2))) (dCons (dC (.int 0)) dNil))))))))
    (dRet (dB min2D (dCons (dVar 1) (dCons (dCall cPick (dCons (dVarC 0) (dCons (dOp addD (dVar 3) (dLst (dCons (dCall cDraw (dCons (dVarC 0) (dCons (dOp addD (dB min2D (dCons (dVar 1) (dCons (dC (.int 1000000)) dNil))) (dC (.int 1))) dNil))) dNil))) dNil))) dNil))))) (ends R) (startN 4 ds) n := by
  unfold cBound at h
  split at h
  case h_2 => exact h.elim
  next count other =>
  obtain ⟨c0, o0, hb, h⟩ := h
  (get_elem_tactic_trivial; repeat (dsimp only [cPick_l]; get_elem_tactic_trivial))
  have hc := mn_le (i := count) (j := 1000000)
  have hp := mn_le (i := count) (j := other + 1)
  have hq := mx_ge (i := 0) (j := other - 1)
  have r0 : 0 ≤ count / 2 := by omega
  refine ⟨by omega, by omega, by omega, fun d d0 d1 => ⟨by omega, fun e he => ?_⟩⟩
  have fin : ∀ j : Int, 0 ≤ j → R (.int (mn count j)) (n + 1 + 1) := fun j j0 => by
    have hj := mn_le (i := count) (j := j)
    exact h _ (by omega) (by omega)
  simp only [List.mem_cons, List.not_mem_nil, or_false] at he
  rcases he with rfl | rfl | rfl | rfl | rfl | rfl | rfl
  · exact fin _ c0
  · exact fin _ o0
  · exact fin _ (by omega)
  · exact fin _ (by omega)
  · exact fin _ r0
  · exact fin _ (Int.le_refl _)
  · exact fin _ d0


def cWorthL (m : Nat) : DC := fun ds n R => match ds with
  | [d, .tup a] => ∃ (s : Sc) (xs : List Int), d = scD s ∧ a = xs.map D.int ∧ s.Ok xs.length ∧ s.deep < m ∧ 0 < xs.length ∧ xs.length ≤ 8 ∧ Ms 1000000000 xs ∧ R (.int (worthI s xs)) n
  | _ => False
theorem cWorthL_zero {ds : List D} {n : Nat} {R : D → Nat → Prop} (h : cWorthL 0 ds n R) : False := by
  unfold cWorthL at h
  split at h
  · obtain ⟨s, _, _, _, _, h1, _⟩ := h; omega
  · exact h
theorem ixD_ints {xs : List Int} {k : Nat} {R : D → Prop} (h : k < xs.length) : ixD (.tup (xs.map D.int)) (.int (0 + (k : Int))) R = R (.int (xs.getD k 0)) := propext ⟨fun ⟨d, e, r⟩ => by rw [atI_ints h] at e; cases e; exact r, fun r => ⟨_, atI_ints h, r⟩⟩
theorem ms_getD {m : Int} {xs : List Int} (h : Ms m xs) {k : Nat} (hk : k < xs.length) : 0 ≤ xs.getD k 0 ∧ xs.getD k 0 ≤ m := by
  rw [List.getD_eq_getElem?_getD, List.getElem?_eq_getElem hk]
  exact h _ (List.getElem_mem hk)

theorem wp_law_worth {m : Nat} {ds : List D} {n : Nat} {R : D → Nat → Prop} (h : cWorthL (m + 1) ds n R) : (dSeq (dIfS (dTest (dOp eqD (dOp ixD (dVar 0) (dC (.int 0))) (dC (.str "sum")))) (dRet (dB sumD (dCons (dLc (dRng1 (dCons (dB lenD (dCons (dVar 1) dNil)) dNil)) (dgName 2) dYes (dOp mulD (dOp ixD (dOp ixD (dVar 0) (dC (.int 1))) (dVar 2)) (dOp ixD (dVar 1) (dVar 2))) [2]) dNil))) dNext)
    (dSeq (dIfS (dTest (dOp eqD (dOp ixD (dVar 0) (dC (.int 0))) (dC (.str "times")))) (dSeq (dSet 3 (dC (.int 1)))
    (dSeq (dFor (dSeqI (dVarC 1)) (dgName 4) (dSet 3 (dOp mulD (dVar 3) (dVar 4))))
    (dRet (dVar 3)))) dNext)
    (dSeq (dIfS (dTest (dOp inD (dOp ixD (dVar 0) (dC (.int 0))) (dC (.tup [.str "low", .str "high"])))) (dRet (dIf (dTest (dOp eqD (dOp ixD (dVar 0) (dC (.int 0))) (dC (.str "low")))) (dB minD (dCons (dVar 1) dNil)) (dB maxD (dCons (dVar 1) dNil)))) dNext)
    (dSeq (dSet 5 (dLst (dCons (dCall (cWorthL m) (dCons (dOp ixD (dVar 0) (dC (.int 1))) (dCons (dVarC 1) dNil))) (dCons (dCall (cWorthL m) (dCons (dOp ixD (dVar 0) (dC (.int 2))) (dCons (dVarC 1) dNil))) dNil))))
    (dSeq (dIfS (dTest (dOp eqD (dOp ixD (dVar 0) (dC (.int 0))) (dC (.str "add")))) (dRet (dB sumD (dCons (dVar 5) dNil))) dNext)
    (dRet (dIf (dTest (dOp eqD (dOp ixD (dVar 0) (dC (.int 0))) (dC (.str "lesser")))) (dB minD (dCons (dVar 5) dNil)) (dB maxD (dCons (dVar 5) dNil))))))))) (ends R) (startN 6 ds) n := by
  unfold cWorthL at h
  split at h
  case h_2 => exact h.elim
  next d a =>
  obtain ⟨s, xs, rfl, rfl, ok, hd, h0, h8, ms, h⟩ := h
  have in2 : ∀ (x : Str) (R : D → Prop), inD (.str x) (.tup [.str "low", .str "high"]) R = R (.bl ([D.str "low", D.str "high"].any fun y => eqF y (.str x))) := fun x R => inD_t rfl (by decide)
  cases s with
  | sum ws =>
    obtain ⟨o1, o2⟩ := ok
    simp only [scD, dSeq, dSet, dOwn, dVar, dVarC, dC, dOp, dTest, dChain, dAndT, dOrT, dNotT, dAndV, dOrV, dNotV, dIf, dIfS, dRet, dRetN, dNext, dDrop, dAppend, dSetIx, dFrz, dPar, dB, dCall, dCons, dNil, dTup, dLst, dLc, dYes, dSeqI, seqQ, dRng1, dRng2, dZip, dEnum, dFor, dAsg, dgName, dgTup, dgCons, dgNil, dTruth, truD, dNeg, negQ, dNoPart, dPart, dSl, slD, dRv, rvD, dAug, dBreak, dCont, dNever, wipeS, startN, ends, lenD, absD, min2D_i, max2D_i, Gg.intOfD, tupleD, listD, isiD, strD, addD, Gg.intD, subD, mulD, modD, fdivD, powD, ltD, leD, gtD, geD, isND, notND, catLD, List.map_cons, List.map_nil, List.length_cons, List.length_nil, List.cons_append, List.nil_append, List.replicate, List.getElem?_cons_zero, List.getElem?_cons_succ, List.set_cons_zero, List.set_cons_succ, Nat.reduceAdd, Nat.reduceSub, eqD_int, neD_int, eqD_bl, neD_bl, eqD_ss, neD_ss, eqD_ln, neD_ln, eqD_tn, neD_tn, ixD_0, decide_true, decide_false, Bool.true_and, Bool.false_and, Bool.and_true, Bool.and_false, Bool.not_true, Bool.not_false, Bool.false_eq_true, if_true, if_false, Bool.true_or, Bool.or_true, Bool.false_or, Bool.or_false]
    rw [List.length_map]
    refine ⟨by omega, by omega, by rw [rangeL_len]; omega, ?_⟩
    rw [show ((xs.length : Int)).toNat = xs.length by omega]
    refine lcl_range (fun k => .int (ws.getD k 0 * xs.getD k 0)) (fun k hk n S q => ?_) ?_
    · simp only [dSeq, dSet, dOwn, dVar, dVarC, dC, dOp, dTest, dChain, dAndT, dOrT, dNotT, dAndV, dOrV, dNotV, dIf, dIfS, dRet, dRetN, dNext, dDrop, dAppend, dSetIx, dFrz, dPar, dB, dCall, dCons, dNil, dTup, dLst, dLc, dYes, dSeqI, seqQ, dRng1, dRng2, dZip, dEnum, dFor, dAsg, dgName, dgTup, dgCons, dgNil, dTruth, truD, dNeg, negQ, dNoPart, dPart, dSl, slD, dRv, rvD, dAug, dBreak, dCont, dNever, wipeS, startN, ends, lenD, absD, min2D_i, max2D_i, Gg.intOfD, tupleD, listD, isiD, strD, addD, Gg.intD, subD, mulD, modD, fdivD, powD, ltD, leD, gtD, geD, isND, notND, catLD, List.map_cons, List.map_nil, List.length_cons, List.length_nil, List.cons_append, List.nil_append, List.replicate, List.getElem?_cons_zero, List.getElem?_cons_succ, List.set_cons_zero, List.set_cons_succ, Nat.reduceAdd, Nat.reduceSub, eqD_int, neD_int, eqD_bl, neD_bl, eqD_ss, neD_ss, eqD_ln, neD_ln, eqD_tn, neD_tn, ixD_0, ixD_1]
      obtain ⟨w0, w1⟩ := ms_getD o2 (k := k) (by omega)
      rw [ixD_ints (by omega), ixD_ints hk]
      exact ⟨.inl ⟨by omega, by omega⟩, q⟩
    · rw [← o1, range_zip (fun w x => w * x) ws xs o1]
      exact ⟨_, rfl, h⟩
  | times =>
    simp only [scD, dSeq, dSet, dOwn, dVar, dVarC, dC, dOp, dTest, dChain, dAndT, dOrT, dNotT, dAndV, dOrV, dNotV, dIf, dIfS, dRet, dRetN, dNext, dDrop, dAppend, dSetIx, dFrz, dPar, dB, dCall, dCons, dNil, dTup, dLst, dLc, dYes, dSeqI, seqQ, dRng1, dRng2, dZip, dEnum, dFor, dAsg, dgName, dgTup, dgCons, dgNil, dTruth, truD, dNeg, negQ, dNoPart, dPart, dSl, slD, dRv, rvD, dAug, dBreak, dCont, dNever, wipeS, startN, ends, lenD, absD, min2D_i, max2D_i, Gg.intOfD, tupleD, listD, isiD, strD, addD, Gg.intD, subD, mulD, modD, fdivD, powD, ltD, leD, gtD, geD, isND, notND, catLD, List.map_cons, List.map_nil, List.length_cons, List.length_nil, List.cons_append, List.nil_append, List.replicate, List.getElem?_cons_zero, List.getElem?_cons_succ, List.set_cons_zero, List.set_cons_succ, Nat.reduceAdd, Nat.reduceSub, eqD_int, neD_int, eqD_bl, neD_bl, eqD_ss, neD_ss, eqD_ln, neD_ln, eqD_tn, neD_tn, ixD_0, decide_true, decide_false, Bool.true_and, Bool.false_and, Bool.and_true, Bool.and_false, Bool.not_true, Bool.not_false, Bool.false_eq_true, if_true, if_false, Bool.true_or, Bool.or_true, Bool.false_or, Bool.or_false, nw_times_sum]
    refine loop0 (fun j ρ n' => ∃ y4, ρ = [.val (.tup [.str "times"]), .val (.tup (xs.map D.int)), .no, .val (.int ((xs.take j).foldl (fun p x => p * x) 1)), y4, .no] ∧ n' = n) ⟨_, rfl, rfl⟩ (fun j d ρ n' K hj hI hK => ?_) fun ρ n' hI => ?_
    · obtain ⟨y4, rfl, rfl⟩ := hI
      rw [List.getElem?_map] at hj
      cases e : xs[j]? with
      | none => rw [e] at hj; cases hj
      | some x =>
      rw [e] at hj
      cases hj
      obtain ⟨x0, x1⟩ := ms x (List.mem_of_getElem? e)
      simp only [dSeq, dSet, dOwn, dVar, dVarC, dC, dOp, dTest, dChain, dAndT, dOrT, dNotT, dAndV, dOrV, dNotV, dIf, dIfS, dRet, dRetN, dNext, dDrop, dAppend, dSetIx, dFrz, dPar, dB, dCall, dCons, dNil, dTup, dLst, dLc, dYes, dSeqI, seqQ, dRng1, dRng2, dZip, dEnum, dFor, dAsg, dgName, dgTup, dgCons, dgNil, dTruth, truD, dNeg, negQ, dNoPart, dPart, dSl, slD, dRv, rvD, dAug, dBreak, dCont, dNever, wipeS, startN, ends, lenD, absD, min2D_i, max2D_i, Gg.intOfD, tupleD, listD, isiD, strD, addD, Gg.intD, subD, mulD, modD, fdivD, powD, ltD, leD, gtD, geD, isND, notND, catLD, ixD, inD, ninD, eqD, neD, eqQ, List.map_cons, List.map_nil, List.length_cons, List.length_nil, List.cons_append, List.nil_append, List.replicate, List.getElem?_cons_zero, List.getElem?_cons_succ, List.set_cons_zero, List.set_cons_succ, Nat.reduceAdd, Nat.reduceSub]
      refine ⟨.inr ⟨by omega, by omega⟩, hK _ _ ⟨.val (.int x), ?_, rfl⟩⟩
      rw [List.take_succ, e, List.foldl_append]
      rfl
    · obtain ⟨y4, rfl, rfl⟩ := hI
      simp only [dSeq, dSet, dOwn, dVar, dVarC, dC, dOp, dTest, dChain, dAndT, dOrT, dNotT, dAndV, dOrV, dNotV, dIf, dIfS, dRet, dRetN, dNext, dDrop, dAppend, dSetIx, dFrz, dPar, dB, dCall, dCons, dNil, dTup, dLst, dLc, dYes, dSeqI, seqQ, dRng1, dRng2, dZip, dEnum, dFor, dAsg, dgName, dgTup, dgCons, dgNil, dTruth, truD, dNeg, negQ, dNoPart, dPart, dSl, slD, dRv, rvD, dAug, dBreak, dCont, dNever, wipeS, startN, ends, lenD, absD, min2D_i, max2D_i, Gg.intOfD, tupleD, listD, isiD, strD, addD, Gg.intD, subD, mulD, modD, fdivD, powD, ltD, leD, gtD, geD, isND, notND, catLD, ixD, inD, ninD, eqD, neD, eqQ, List.map_cons, List.map_nil, List.length_cons, List.length_nil, List.cons_append, List.nil_append, List.replicate, List.getElem?_cons_zero, List.getElem?_cons_succ, List.set_cons_zero, List.set_cons_succ, Nat.reduceAdd, Nat.reduceSub]
      rw [List.length_map, List.take_length]
      exact h
  | low =>
    simp only [scD, dSeq, dSet, dOwn, dVar, dVarC, dC, dOp, dTest, dChain, dAndT, dOrT, dNotT, dAndV, dOrV, dNotV, dIf, dIfS, dRet, dRetN, dNext, dDrop, dAppend, dSetIx, dFrz, dPar, dB, dCall, dCons, dNil, dTup, dLst, dLc, dYes, dSeqI, seqQ, dRng1, dRng2, dZip, dEnum, dFor, dAsg, dgName, dgTup, dgCons, dgNil, dTruth, truD, dNeg, negQ, dNoPart, dPart, dSl, slD, dRv, rvD, dAug, dBreak, dCont, dNever, wipeS, startN, ends, lenD, absD, min2D_i, max2D_i, Gg.intOfD, tupleD, listD, isiD, strD, addD, Gg.intD, subD, mulD, modD, fdivD, powD, ltD, leD, gtD, geD, isND, notND, catLD, List.map_cons, List.map_nil, List.length_cons, List.length_nil, List.cons_append, List.nil_append, List.replicate, List.getElem?_cons_zero, List.getElem?_cons_succ, List.set_cons_zero, List.set_cons_succ, Nat.reduceAdd, Nat.reduceSub, eqD_int, neD_int, eqD_bl, neD_bl, eqD_ss, neD_ss, eqD_ln, neD_ln, eqD_tn, neD_tn, ixD_0, decide_true, decide_false, Bool.true_and, Bool.false_and, Bool.and_true, Bool.and_false, Bool.not_true, Bool.not_false, Bool.false_eq_true, if_true, if_false, Bool.true_or, Bool.or_true, Bool.false_or, Bool.or_false, nw_low_sum, nw_low_times, in2]
    rw [if_pos (by decide)]
    exact ⟨xs, rfl, h0, fun m hm hle => by rw [least_is hm hle]; exact h⟩
  | high =>
    simp only [scD, dSeq, dSet, dOwn, dVar, dVarC, dC, dOp, dTest, dChain, dAndT, dOrT, dNotT, dAndV, dOrV, dNotV, dIf, dIfS, dRet, dRetN, dNext, dDrop, dAppend, dSetIx, dFrz, dPar, dB, dCall, dCons, dNil, dTup, dLst, dLc, dYes, dSeqI, seqQ, dRng1, dRng2, dZip, dEnum, dFor, dAsg, dgName, dgTup, dgCons, dgNil, dTruth, truD, dNeg, negQ, dNoPart, dPart, dSl, slD, dRv, rvD, dAug, dBreak, dCont, dNever, wipeS, startN, ends, lenD, absD, min2D_i, max2D_i, Gg.intOfD, tupleD, listD, isiD, strD, addD, Gg.intD, subD, mulD, modD, fdivD, powD, ltD, leD, gtD, geD, isND, notND, catLD, List.map_cons, List.map_nil, List.length_cons, List.length_nil, List.cons_append, List.nil_append, List.replicate, List.getElem?_cons_zero, List.getElem?_cons_succ, List.set_cons_zero, List.set_cons_succ, Nat.reduceAdd, Nat.reduceSub, eqD_int, neD_int, eqD_bl, neD_bl, eqD_ss, neD_ss, eqD_ln, neD_ln, eqD_tn, neD_tn, ixD_0, decide_true, decide_false, Bool.true_and, Bool.false_and, Bool.and_true, Bool.and_false, Bool.not_true, Bool.not_false, Bool.false_eq_true, if_true, if_false, Bool.true_or, Bool.or_true, Bool.false_or, Bool.or_false, nw_high_sum, nw_high_times, nw_high_low, in2]
    rw [if_pos (by decide)]
    exact ⟨xs, rfl, h0, fun m hm hle => by rw [most_is hm hle]; exact h⟩
  | two t a b =>
    obtain ⟨oa, ob⟩ := ok
    have da : a.deep < m := by rw [Sc.deep] at hd; omega
    have db : b.deep < m := by rw [Sc.deep] at hd; omega
    cases t
    · simp only [scD, Tw.word, dSeq, dSet, dOwn, dVar, dVarC, dC, dOp, dTest, dChain, dAndT, dOrT, dNotT, dAndV, dOrV, dNotV, dIf, dIfS, dRet, dRetN, dNext, dDrop, dAppend, dSetIx, dFrz, dPar, dB, dCall, dCons, dNil, dTup, dLst, dLc, dYes, dSeqI, seqQ, dRng1, dRng2, dZip, dEnum, dFor, dAsg, dgName, dgTup, dgCons, dgNil, dTruth, truD, dNeg, negQ, dNoPart, dPart, dSl, slD, dRv, rvD, dAug, dBreak, dCont, dNever, wipeS, startN, ends, lenD, absD, min2D_i, max2D_i, Gg.intOfD, tupleD, listD, isiD, strD, addD, Gg.intD, subD, mulD, modD, fdivD, powD, ltD, leD, gtD, geD, isND, notND, catLD, List.map_cons, List.map_nil, List.length_cons, List.length_nil, List.cons_append, List.nil_append, List.replicate, List.getElem?_cons_zero, List.getElem?_cons_succ, List.set_cons_zero, List.set_cons_succ, Nat.reduceAdd, Nat.reduceSub, eqD_int, neD_int, eqD_bl, neD_bl, eqD_ss, neD_ss, eqD_ln, neD_ln, eqD_tn, neD_tn, ixD_0, decide_true, decide_false, Bool.true_and, Bool.false_and, Bool.and_true, Bool.and_false, Bool.not_true, Bool.not_false, Bool.false_eq_true, if_true, if_false, Bool.true_or, Bool.or_true, Bool.false_or, Bool.or_false, nw_add_sum, nw_add_times, in2, ixD_1, ixD_2]
      rw [if_neg (by decide)]
      refine ⟨a, xs, rfl, rfl, oa, da, h0, h8, ms, b, xs, rfl, rfl, ob, db, h0, h8, ms, by decide, [worthI a xs, worthI b xs], rfl, ?_⟩
      rw [show [worthI a xs, worthI b xs].sum = worthI a xs + worthI b xs by simp]
      exact h
    · simp only [scD, Tw.word, dSeq, dSet, dOwn, dVar, dVarC, dC, dOp, dTest, dChain, dAndT, dOrT, dNotT, dAndV, dOrV, dNotV, dIf, dIfS, dRet, dRetN, dNext, dDrop, dAppend, dSetIx, dFrz, dPar, dB, dCall, dCons, dNil, dTup, dLst, dLc, dYes, dSeqI, seqQ, dRng1, dRng2, dZip, dEnum, dFor, dAsg, dgName, dgTup, dgCons, dgNil, dTruth, truD, dNeg, negQ, dNoPart, dPart, dSl, slD, dRv, rvD, dAug, dBreak, dCont, dNever, wipeS, startN, ends, lenD, absD, min2D_i, max2D_i, Gg.intOfD, tupleD, listD, isiD, strD, addD, Gg.intD, subD, mulD, modD, fdivD, powD, ltD, leD, gtD, geD, isND, notND, catLD, List.map_cons, List.map_nil, List.length_cons, List.length_nil, List.cons_append, List.nil_append, List.replicate, List.getElem?_cons_zero, List.getElem?_cons_succ, List.set_cons_zero, List.set_cons_succ, Nat.reduceAdd, Nat.reduceSub, eqD_int, neD_int, eqD_bl, neD_bl, eqD_ss, neD_ss, eqD_ln, neD_ln, eqD_tn, neD_tn, ixD_0, decide_true, decide_false, Bool.true_and, Bool.false_and, Bool.and_true, Bool.and_false, Bool.not_true, Bool.not_false, Bool.false_eq_true, if_true, if_false, Bool.true_or, Bool.or_true, Bool.false_or, Bool.or_false, nw_lesser_sum, nw_lesser_times, nw_lesser_add, in2, ixD_1, ixD_2]
      rw [if_neg (by decide)]
      refine ⟨a, xs, rfl, rfl, oa, da, h0, h8, ms, b, xs, rfl, rfl, ob, db, h0, h8, ms, by decide, [worthI a xs, worthI b xs], rfl, Nat.zero_lt_succ _, fun m hm hle => ?_⟩
      have e : m = mn (worthI a xs) (worthI b xs) := by
        have h1 := hle _ (List.mem_cons_self ..)
        have h2 := hle _ (List.mem_cons_of_mem _ (List.mem_cons_self ..))
        simp only [List.mem_cons, List.not_mem_nil, or_false] at hm
        unfold mn
        split <;> omega
      rw [e]
      exact h
    · simp only [scD, Tw.word, dSeq, dSet, dOwn, dVar, dVarC, dC, dOp, dTest, dChain, dAndT, dOrT, dNotT, dAndV, dOrV, dNotV, dIf, dIfS, dRet, dRetN, dNext, dDrop, dAppend, dSetIx, dFrz, dPar, dB, dCall, dCons, dNil, dTup, dLst, dLc, dYes, dSeqI, seqQ, dRng1, dRng2, dZip, dEnum, dFor, dAsg, dgName, dgTup, dgCons, dgNil, dTruth, truD, dNeg, negQ, dNoPart, dPart, dSl, slD, dRv, rvD, dAug, dBreak, dCont, dNever, wipeS, startN, ends, lenD, absD, min2D_i, max2D_i, Gg.intOfD, tupleD, listD, isiD, strD, addD, Gg.intD, subD, mulD, modD, fdivD, powD, ltD, leD, gtD, geD, isND, notND, catLD, List.map_cons, List.map_nil, List.length_cons, List.length_nil, List.cons_append, List.nil_append, List.replicate, List.getElem?_cons_zero, List.getElem?_cons_succ, List.set_cons_zero, List.set_cons_succ, Nat.reduceAdd, Nat.reduceSub, eqD_int, neD_int, eqD_bl, neD_bl, eqD_ss, neD_ss, eqD_ln, neD_ln, eqD_tn, neD_tn, ixD_0, decide_true, decide_false, Bool.true_and, Bool.false_and, Bool.and_true, Bool.and_false, Bool.not_true, Bool.not_false, Bool.false_eq_true, if_true, if_false, Bool.true_or, Bool.or_true, Bool.false_or, Bool.or_false, nw_greater_sum, nw_greater_times, nw_greater_add, nw_greater_lesser, in2, ixD_1, ixD_2]
      rw [if_neg (by decide)]
      refine ⟨a, xs, rfl, rfl, oa, da, h0, h8, ms, b, xs, rfl, rfl, ob, db, h0, h8, ms, by decide, [worthI a xs, worthI b xs], rfl, Nat.zero_lt_succ _, fun m hm hle => ?_⟩
      have e : m = mx (worthI a xs) (worthI b xs) := by
        have h1 := hle _ (List.mem_cons_self ..)
        have h2 := hle _ (List.mem_cons_of_mem _ (List.mem_cons_self ..))
        simp only [List.mem_cons, List.not_mem_nil, or_false] at hm
        unfold mx
        split <;> omega
      rw [e]
      exact h

end Gg

namespace Gg
open PySem PySem.Spec PyProof.Rows L2


def sizeB (many : Int) : List D → Bool
  | [a, b] => inB 0 (many - 1) a && inB 0 1000000000 b
  | _ => false
def worthB (many : Int) : List D → Bool
  | [a, b] => scaleB many 4 a && inB 0 1000000000000000000000000000000000000000000000000000000000000000000000000000 b
  | _ => false
def ruleB (many : Int) : Nat → D → Bool
  | 0, _ => false
  | k + 1, .tup (x :: xs) =>
    if strIs "size" x then sizeB many xs
    else if strIs "worth" x then worthB many xs
    else if [D.str "all", D.str "any"].any fun y => eqF y x then decide (xs.length < 5) && xs.all (ruleB many k)
    else false
  | _ + 1, _ => false
def cIsSize : DC := fun ds n R => match ds with
  | [.tup (x :: xs), .int many] => Sz (.tup (x :: xs)) ∧ R (.bl (sizeB many xs)) n
  | _ => False
def cIsWorth : DC := fun ds n R => match ds with
  | [.tup (x :: xs), .int many] => Sz (.tup (x :: xs)) ∧ R (.bl (worthB many xs)) n
  | _ => False
def cRuW (m : Nat) : DC := fun ds n R => match ds with
  | [d, .int many, .int w] => Sz d ∧ 0 ≤ w ∧ w < m ∧ R (.bl (ruleB many w.toNat d)) n
  | _ => False
theorem cRuW_zero {ds : List D} {n : Nat} {R : D → Nat → Prop} (h : cRuW 0 ds n R) : False := by
  unfold cRuW at h
  split at h
  · obtain ⟨_, h1, h2, _⟩ := h; omega
  · exact h
def cRu : DC := fun ds n R => match ds with
  | [d, .int many] => Sz d ∧ R (.bl (ruleB many 4 d)) n
  | _ => False
theorem size_not {many : Int} {xs : List D} (z : ¬ xs.length = 2) : sizeB many xs = false ∧ worthB many xs = false := by
  rcases xs with _ | ⟨a, _ | ⟨b, _ | ⟨c, xs⟩⟩⟩ <;> first | exact ⟨rfl, rfl⟩ | exact absurd rfl z
theorem two_ofD {xs : List D} (z : xs.length = 2) : ∃ a b, xs = [a, b] := by
  rcases xs with _ | ⟨a, _ | ⟨b, _ | ⟨c, xs⟩⟩⟩ <;> first | exact ⟨_, _, rfl⟩ | (simp at z; done)
theorem perm_erase : ∀ {l : List D} {i : Nat} (h : i < l.length), (l[i] :: l.eraseIdx i).Perm l
  | x :: l, 0, _ => .refl _
  | x :: l, i + 1, h => (List.Perm.swap x (l[i]'(by simpa using h)) (l.eraseIdx i)).trans ((perm_erase (l := l) (by simpa using h)).cons x)
def cShuf : DC := fun ds n R => match ds with
  | [.pen, .lst xs] => xs.length ≤ 1000 ∧ n + xs.length ≤ 900000000 ∧ ∀ (ys : List D) (n' : Nat), ys.Perm xs → n' ≤ n + xs.length → R (.lst ys) n'
  | _ => False

theorem wp_is_size {ds : List D} {n : Nat} {R : D → Nat → Prop} (h : cIsSize ds n R) : (dSeq (dIfS (dTest (dOp neD (dB lenD (dCons (dVar 0) dNil)) (dC (.int 3)))) (dRet (dC (.bl false))) dNext)
    (dRet (dAndV (dCall cIsWF (dCons (dOp ixD (dVar 0) (dC (.int 1))) (dCons (dC (.int 0)) (dCons (dOp subD (dVar 1) (dC (.int 1))) dNil)))) (dCall cIsWF (dCons (dOp ixD (dVar 0) (dC (.int 2))) (dCons (dC (.int 0)) (dCons (dC (.int 1000000000)) dNil))))))) (ends R) (startN 2 ds) n := by
  unfold cIsSize at h
  split at h
  case h_2 => exact h.elim
  next x xs many =>
  obtain ⟨sz, h⟩ := h
  obtain ⟨sx, l, sxs⟩ := sz.cons
  by_cases z : xs.length = 2
  case neg =>
    have z' : ¬ ((xs.length + 1 : Nat) : Int) = 3 := by omega
    rw [(size_not z).1] at h
    simp only [dSeq, dSet, dOwn, dVar, dVarC, dC, dOp, dTest, dChain, dAndT, dOrT, dNotT, dAndV, dOrV, dNotV, dIf, dIfS, dRet, dRetN, dNext, dDrop, dAppend, dSetIx, dFrz, dPar, dB, dCall, dCons, dNil, dTup, dLst, dLc, dYes, dSeqI, seqQ, dRng1, dRng2, dZip, dEnum, dFor, dAsg, dgName, dgTup, dgCons, dgNil, dTruth, truD, dNeg, negQ, dNoPart, dPart, dSl, slD, dRv, rvD, dAug, dBreak, dCont, dNever, wipeS, startN, ends, lenD, absD, min2D_i, max2D_i, Gg.intOfD, tupleD, listD, isiD, strD, addD, Gg.intD, subD, mulD, modD, fdivD, powD, ltD, leD, gtD, geD, isND, notND, catLD, List.map_cons, List.map_nil, List.length_cons, List.length_nil, List.cons_append, List.nil_append, List.replicate, List.getElem?_cons_zero, List.getElem?_cons_succ, List.set_cons_zero, List.set_cons_succ, Nat.reduceAdd, Nat.reduceSub, eqD_int, neD_int, eqD_bl, neD_bl, eqD_ss, neD_ss, eqD_ln, neD_ln, eqD_tn, neD_tn, ixD_0, z', List.length_cons, decide_true, decide_false, Bool.true_and, Bool.false_and, Bool.and_true, Bool.and_false, Bool.not_true, Bool.not_false, Bool.false_eq_true, if_true, if_false, Bool.true_or, Bool.or_true, Bool.false_or, Bool.or_false]
    exact h
  obtain ⟨a, b, rfl⟩ := two_ofD z
  have sa := sxs a (List.mem_cons_self ..)
  have sb := sxs b (List.mem_cons_of_mem _ (List.mem_cons_self ..))
  have z' : ((([a, b] : List D).length + 1 : Nat) : Int) = 3 := rfl
  have ix2 : ∀ R : D → Prop, ixD (.tup [x, a, b]) (.int 2) R = R b := fun R => ixD_2
  simp only [dSeq, dSet, dOwn, dVar, dVarC, dC, dOp, dTest, dChain, dAndT, dOrT, dNotT, dAndV, dOrV, dNotV, dIf, dIfS, dRet, dRetN, dNext, dDrop, dAppend, dSetIx, dFrz, dPar, dB, dCall, dCons, dNil, dTup, dLst, dLc, dYes, dSeqI, seqQ, dRng1, dRng2, dZip, dEnum, dFor, dAsg, dgName, dgTup, dgCons, dgNil, dTruth, truD, dNeg, negQ, dNoPart, dPart, dSl, slD, dRv, rvD, dAug, dBreak, dCont, dNever, wipeS, startN, ends, lenD, absD, min2D_i, max2D_i, Gg.intOfD, tupleD, listD, isiD, strD, addD, Gg.intD, subD, mulD, modD, fdivD, powD, ltD, leD, gtD, geD, isND, notND, catLD, List.map_cons, List.map_nil, List.length_cons, List.length_nil, List.cons_append, List.nil_append, List.replicate, List.getElem?_cons_zero, List.getElem?_cons_succ, List.set_cons_zero, List.set_cons_succ, Nat.reduceAdd, Nat.reduceSub, eqD_int, neD_int, eqD_bl, neD_bl, eqD_ss, neD_ss, eqD_ln, neD_ln, eqD_tn, neD_tn, ixD_0, z', ixD_1, ix2, cIsWF, cSc, decide_true, decide_false, Bool.true_and, Bool.false_and, Bool.and_true, Bool.and_false, Bool.not_true, Bool.not_false, Bool.false_eq_true, if_true, if_false, Bool.true_or, Bool.or_true, Bool.false_or, Bool.or_false]
  simp only [sizeB] at h
  refine ⟨sa.1, ?_⟩
  cases zz : inB 0 (many - 1) a
  · simp only [zz, Bool.false_and] at h ⊢; exact h
  · simp only [zz, Bool.true_and] at h ⊢; exact ⟨sb.1, h⟩

theorem wp_is_worth {ds : List D} {n : Nat} {R : D → Nat → Prop} (h : cIsWorth ds n R) : (dRet (dAndV (dOp eqD (dB lenD (dCons (dVar 0) dNil)) (dC (.int 3))) (dAndV (dCall cSc (dCons (dOp ixD (dVar 0) (dC (.int 1))) (dCons (dVarC 1) dNil))) (dCall cIsWF (dCons (dOp ixD (dVar 0) (dC (.int 2))) (dCons (dC (.int 0)) (dCons (dC (.int 1000000000000000000000000000000000000000000000000000000000000000000000000000)) dNil))))))) (ends R) (startN 2 ds) n := by
  unfold cIsWorth at h
  split at h
  case h_2 => exact h.elim
  next x xs many =>
  obtain ⟨sz, h⟩ := h
  obtain ⟨sx, l, sxs⟩ := sz.cons
  by_cases z : xs.length = 2
  case neg =>
    have z' : ¬ ((xs.length + 1 : Nat) : Int) = 3 := by omega
    rw [(size_not z).2] at h
    simp only [dSeq, dSet, dOwn, dVar, dVarC, dC, dOp, dTest, dChain, dAndT, dOrT, dNotT, dAndV, dOrV, dNotV, dIf, dIfS, dRet, dRetN, dNext, dDrop, dAppend, dSetIx, dFrz, dPar, dB, dCall, dCons, dNil, dTup, dLst, dLc, dYes, dSeqI, seqQ, dRng1, dRng2, dZip, dEnum, dFor, dAsg, dgName, dgTup, dgCons, dgNil, dTruth, truD, dNeg, negQ, dNoPart, dPart, dSl, slD, dRv, rvD, dAug, dBreak, dCont, dNever, wipeS, startN, ends, lenD, absD, min2D_i, max2D_i, Gg.intOfD, tupleD, listD, isiD, strD, addD, Gg.intD, subD, mulD, modD, fdivD, powD, ltD, leD, gtD, geD, isND, notND, catLD, List.map_cons, List.map_nil, List.length_cons, List.length_nil, List.cons_append, List.nil_append, List.replicate, List.getElem?_cons_zero, List.getElem?_cons_succ, List.set_cons_zero, List.set_cons_succ, Nat.reduceAdd, Nat.reduceSub, eqD_int, neD_int, eqD_bl, neD_bl, eqD_ss, neD_ss, eqD_ln, neD_ln, eqD_tn, neD_tn, ixD_0, z', List.length_cons, decide_true, decide_false, Bool.true_and, Bool.false_and, Bool.and_true, Bool.and_false, Bool.not_true, Bool.not_false, Bool.false_eq_true, if_true, if_false, Bool.true_or, Bool.or_true, Bool.false_or, Bool.or_false]
    exact h
  obtain ⟨a, b, rfl⟩ := two_ofD z
  have sa := sxs a (List.mem_cons_self ..)
  have sb := sxs b (List.mem_cons_of_mem _ (List.mem_cons_self ..))
  have z' : ((([a, b] : List D).length + 1 : Nat) : Int) = 3 := rfl
  have ix2 : ∀ R : D → Prop, ixD (.tup [x, a, b]) (.int 2) R = R b := fun R => ixD_2
  simp only [dSeq, dSet, dOwn, dVar, dVarC, dC, dOp, dTest, dChain, dAndT, dOrT, dNotT, dAndV, dOrV, dNotV, dIf, dIfS, dRet, dRetN, dNext, dDrop, dAppend, dSetIx, dFrz, dPar, dB, dCall, dCons, dNil, dTup, dLst, dLc, dYes, dSeqI, seqQ, dRng1, dRng2, dZip, dEnum, dFor, dAsg, dgName, dgTup, dgCons, dgNil, dTruth, truD, dNeg, negQ, dNoPart, dPart, dSl, slD, dRv, rvD, dAug, dBreak, dCont, dNever, wipeS, startN, ends, lenD, absD, min2D_i, max2D_i, Gg.intOfD, tupleD, listD, isiD, strD, addD, Gg.intD, subD, mulD, modD, fdivD, powD, ltD, leD, gtD, geD, isND, notND, catLD, List.map_cons, List.map_nil, List.length_cons, List.length_nil, List.cons_append, List.nil_append, List.replicate, List.getElem?_cons_zero, List.getElem?_cons_succ, List.set_cons_zero, List.set_cons_succ, Nat.reduceAdd, Nat.reduceSub, eqD_int, neD_int, eqD_bl, neD_bl, eqD_ss, neD_ss, eqD_ln, neD_ln, eqD_tn, neD_tn, ixD_0, z', ixD_1, ix2, cIsWF, cSc, decide_true, decide_false, Bool.true_and, Bool.false_and, Bool.and_true, Bool.and_false, Bool.not_true, Bool.not_false, Bool.false_eq_true, if_true, if_false, Bool.true_or, Bool.or_true, Bool.false_or, Bool.or_false]
  simp only [worthB] at h
  refine ⟨sa, ?_⟩
  cases zz : scaleB many 4 a
  · simp only [zz, Bool.false_and] at h ⊢; exact h
  · simp only [zz, Bool.true_and] at h ⊢; exact ⟨sb.1, h⟩

theorem wp_is_rule_within {m : Nat} {ds : List D} {n : Nat} {R : D → Nat → Prop} (h : cRuW (m + 1) ds n R) : (dSeq (dIfS (dOrT (dTest (dOp eqD (dVar 2) (dC (.int 0)))) (dOrT (dNotT (dTruth (dB isiD (dCons (dVar 0) (dCons (dC (.ty "tuple")) dNil))))) (dTest (dOp eqD (dB lenD (dCons (dVar 0) dNil)) (dC (.int 0)))))) (dRet (dC (.bl false))) dNext)
    (dSeq (dIfS (dTest (dOp eqD (dOp ixD (dVar 0) (dC (.int 0))) (dC (.str "size")))) (dRet (dCall cIsSize (dCons (dVarC 0) (dCons (dVarC 1) dNil)))) dNext)
    (dSeq (dIfS (dTest (dOp eqD (dOp ixD (dVar 0) (dC (.int 0))) (dC (.str "worth")))) (dRet (dCall cIsWorth (dCons (dVarC 0) (dCons (dVarC 1) dNil)))) dNext)
    (dSeq (dIfS (dOrT (dTest (dOp ninD (dOp ixD (dVar 0) (dC (.int 0))) (dC (.tup [.str "all", .str "any"])))) (dTest (dOp gtD (dB lenD (dCons (dVar 0) dNil)) (dOp addD (dC (.int 1)) (dC (.int 4)))))) (dRet (dC (.bl false))) dNext)
    (dRet (dB allD (dCons (dLc (dSeqI (dSl (dVar 0) (dPart (dC (.int 1))) dNoPart)) (dgName 3) dYes (dCall (cRuW m) (dCons (dVarC 3) (dCons (dVarC 1) (dCons (dOp subD (dVar 2) (dC (.int 1))) dNil)))) [3]) dNil))))))) (ends R) (startN 4 ds) n := by
  unfold cRuW at h
  split at h
  case h_2 => exact h.elim
  next d many w =>
  obtain ⟨sz, w0, w1, h⟩ := h
  simp only [dSeq, dSet, dOwn, dVar, dVarC, dC, dOp, dTest, dChain, dAndT, dOrT, dNotT, dAndV, dOrV, dNotV, dIf, dIfS, dRet, dRetN, dNext, dDrop, dAppend, dSetIx, dFrz, dPar, dB, dCall, dCons, dNil, dTup, dLst, dLc, dYes, dSeqI, seqQ, dRng1, dRng2, dZip, dEnum, dFor, dAsg, dgName, dgTup, dgCons, dgNil, dTruth, truD, dNeg, negQ, dNoPart, dPart, dSl, slD, dRv, rvD, dAug, dBreak, dCont, dNever, wipeS, startN, ends, lenD, absD, min2D_i, max2D_i, Gg.intOfD, tupleD, listD, isiD, strD, addD, Gg.intD, subD, mulD, modD, fdivD, powD, ltD, leD, gtD, geD, isND, notND, catLD, List.map_cons, List.map_nil, List.length_cons, List.length_nil, List.cons_append, List.nil_append, List.replicate, List.getElem?_cons_zero, List.getElem?_cons_succ, List.set_cons_zero, List.set_cons_succ, Nat.reduceAdd, Nat.reduceSub, eqD_int, neD_int, eqD_bl, neD_bl, eqD_ss, neD_ss, eqD_ln, neD_ln, eqD_tn, neD_tn, ixD_0]
  by_cases z : w = 0
  case pos => subst z; simp only [decide_true, decide_false, Bool.true_and, Bool.false_and, Bool.and_true, Bool.and_false, Bool.not_true, Bool.not_false, Bool.false_eq_true, if_true, if_false, Bool.true_or, Bool.or_true, Bool.false_or, Bool.or_false, Int.toNat_zero, ruleB] at h ⊢; exact h
  obtain ⟨k, rfl⟩ : ∃ k : Nat, w = k + 1 := ⟨w.toNat - 1, by omega⟩
  rw [show ((k : Int) + 1).toNat = k + 1 by omega] at h
  simp only [z, decide_true, decide_false, Bool.true_and, Bool.false_and, Bool.and_true, Bool.and_false, Bool.not_true, Bool.not_false, Bool.false_eq_true, if_true, if_false, Bool.true_or, Bool.or_true, Bool.false_or, Bool.or_false]
  cases d <;> first | (have pl := sz.1; simp [Gg.plain] at pl; done) | (simp only [ruleB] at h; simp [dSeq, dSet, dOwn, dVar, dVarC, dC, dOp, dTest, dChain, dAndT, dOrT, dNotT, dAndV, dOrV, dNotV, dIf, dIfS, dRet, dRetN, dNext, dDrop, dAppend, dSetIx, dFrz, dPar, dB, dCall, dCons, dNil, dTup, dLst, dLc, dYes, dSeqI, seqQ, dRng1, dRng2, dZip, dEnum, dFor, dAsg, dgName, dgTup, dgCons, dgNil, dTruth, truD, dNeg, negQ, dNoPart, dPart, dSl, slD, dRv, rvD, dAug, dBreak, dCont, dNever, wipeS, startN, ends, lenD, absD, min2D_i, max2D_i, Gg.intOfD, tupleD, listD, isiD, strD, addD, Gg.intD, subD, mulD, modD, fdivD, powD, ltD, leD, gtD, geD, isND, notND, catLD, List.map_cons, List.map_nil, List.length_cons, List.length_nil, List.cons_append, List.nil_append, List.replicate, List.getElem?_cons_zero, List.getElem?_cons_succ, List.set_cons_zero, List.set_cons_succ, Nat.reduceAdd, Nat.reduceSub, eqD_int, neD_int, eqD_bl, neD_bl, eqD_ss, neD_ss, eqD_ln, neD_ln, eqD_tn, neD_tn, ixD_0, tyOf, isT, plainT]; exact h) | skip
  next xs =>
  cases xs with
  | nil => simp only [ruleB] at h; simp [dSeq, dSet, dOwn, dVar, dVarC, dC, dOp, dTest, dChain, dAndT, dOrT, dNotT, dAndV, dOrV, dNotV, dIf, dIfS, dRet, dRetN, dNext, dDrop, dAppend, dSetIx, dFrz, dPar, dB, dCall, dCons, dNil, dTup, dLst, dLc, dYes, dSeqI, seqQ, dRng1, dRng2, dZip, dEnum, dFor, dAsg, dgName, dgTup, dgCons, dgNil, dTruth, truD, dNeg, negQ, dNoPart, dPart, dSl, slD, dRv, rvD, dAug, dBreak, dCont, dNever, wipeS, startN, ends, lenD, absD, min2D_i, max2D_i, Gg.intOfD, tupleD, listD, isiD, strD, addD, Gg.intD, subD, mulD, modD, fdivD, powD, ltD, leD, gtD, geD, isND, notND, catLD, List.map_cons, List.map_nil, List.length_cons, List.length_nil, List.cons_append, List.nil_append, List.replicate, List.getElem?_cons_zero, List.getElem?_cons_succ, List.set_cons_zero, List.set_cons_succ, Nat.reduceAdd, Nat.reduceSub, eqD_int, neD_int, eqD_bl, neD_bl, eqD_ss, neD_ss, eqD_ln, neD_ln, eqD_tn, neD_tn, ixD_0, tyOf, isT, plainT]; exact h
  | cons x xs =>
  obtain ⟨sx, l, sxs⟩ := sz.cons
  have i0 : ¬ ((xs.length + 1 : Nat) : Int) = 0 := by omega
  have ia := fun R => ninD_t (R := R) (ys := [D.str "all", D.str "any"]) sx.1 (by decide)
  simp only [dSeq, dSet, dOwn, dVar, dVarC, dC, dOp, dTest, dChain, dAndT, dOrT, dNotT, dAndV, dOrV, dNotV, dIf, dIfS, dRet, dRetN, dNext, dDrop, dAppend, dSetIx, dFrz, dPar, dB, dCall, dCons, dNil, dTup, dLst, dLc, dYes, dSeqI, seqQ, dRng1, dRng2, dZip, dEnum, dFor, dAsg, dgName, dgTup, dgCons, dgNil, dTruth, truD, dNeg, negQ, dNoPart, dPart, dSl, slD, dRv, rvD, dAug, dBreak, dCont, dNever, wipeS, startN, ends, lenD, absD, min2D_i, max2D_i, Gg.intOfD, tupleD, listD, isiD, strD, addD, Gg.intD, subD, mulD, modD, fdivD, powD, ltD, leD, gtD, geD, isND, notND, catLD, List.map_cons, List.map_nil, List.length_cons, List.length_nil, List.cons_append, List.nil_append, List.replicate, List.getElem?_cons_zero, List.getElem?_cons_succ, List.set_cons_zero, List.set_cons_succ, Nat.reduceAdd, Nat.reduceSub, eqD_int, neD_int, eqD_bl, neD_bl, eqD_ss, neD_ss, eqD_ln, neD_ln, eqD_tn, neD_tn, ixD_0, tyOf, isT, plainT, Option.isSome_some, beq_self_eq_true, true_and, Option.some.injEq, String.reduceBEq, reduceCtorEq, String.reduceEq, decide_true, decide_false, Bool.true_and, Bool.false_and, Bool.and_true, Bool.and_false, Bool.not_true, Bool.not_false, Bool.false_eq_true, if_true, if_false, Bool.true_or, Bool.or_true, Bool.false_or, Bool.or_false, i0, ia, eqD_s sx.1, cIsSize, cIsWorth]
  simp only [ruleB] at h
  by_cases c1 : strIs "size" x = true
  · simp only [c1, if_true] at h ⊢
    exact ⟨sz, h⟩
  simp only [c1, Bool.false_eq_true, if_false] at h ⊢
  by_cases c2 : strIs "worth" x = true
  · simp only [c2, if_true] at h ⊢
    exact ⟨sz, h⟩
  simp only [c2, Bool.false_eq_true, if_false] at h ⊢
  by_cases c3 : ([D.str "all", D.str "any"].any fun y => eqF y x) = true
  case neg =>
    simp only [c3, decide_true, decide_false, Bool.true_and, Bool.false_and, Bool.and_true, Bool.and_false, Bool.not_true, Bool.not_false, Bool.false_eq_true, if_true, if_false, Bool.true_or, Bool.or_true, Bool.false_or, Bool.or_false] at h ⊢
    exact h
  simp only [c3, decide_true, decide_false, Bool.true_and, Bool.false_and, Bool.and_true, Bool.and_false, Bool.not_true, Bool.not_false, Bool.false_eq_true, if_true, if_false, Bool.true_or, Bool.or_true, Bool.false_or, Bool.or_false] at h ⊢
  by_cases c4 : xs.length < 5
  case neg =>
    have c4' : (1 + 4 : Int) < ((xs.length + 1 : Nat) : Int) := by omega
    simp only [c4, c4', decide_true, decide_false, Bool.true_and, Bool.false_and, Bool.and_true, Bool.and_false, Bool.not_true, Bool.not_false, Bool.false_eq_true, if_true, if_false, Bool.true_or, Bool.or_true, Bool.false_or, Bool.or_false] at h ⊢
    exact h
  have c4' : ¬ (1 + 4 : Int) < ((xs.length + 1 : Nat) : Int) := by omega
  simp only [c4, c4', decide_true, decide_false, Bool.true_and, Bool.false_and, Bool.and_true, Bool.and_false, Bool.not_true, Bool.not_false, Bool.false_eq_true, if_true, if_false, Bool.true_or, Bool.or_true, Bool.false_or, Bool.or_false] at h ⊢
  rw [cut1D]
  refine ⟨l, lcl_map (fun d => .bl (ruleB many k d)) (fun d hd n S q => ?_) ?_⟩
  · simp only [dSeq, dSet, dOwn, dVar, dVarC, dC, dOp, dTest, dChain, dAndT, dOrT, dNotT, dAndV, dOrV, dNotV, dIf, dIfS, dRet, dRetN, dNext, dDrop, dAppend, dSetIx, dFrz, dPar, dB, dCall, dCons, dNil, dTup, dLst, dLc, dYes, dSeqI, seqQ, dRng1, dRng2, dZip, dEnum, dFor, dAsg, dgName, dgTup, dgCons, dgNil, dTruth, truD, dNeg, negQ, dNoPart, dPart, dSl, slD, dRv, rvD, dAug, dBreak, dCont, dNever, wipeS, startN, ends, lenD, absD, min2D_i, max2D_i, Gg.intOfD, tupleD, listD, isiD, strD, addD, Gg.intD, subD, mulD, modD, fdivD, powD, ltD, leD, gtD, geD, isND, notND, catLD, List.map_cons, List.map_nil, List.length_cons, List.length_nil, List.cons_append, List.nil_append, List.replicate, List.getElem?_cons_zero, List.getElem?_cons_succ, List.set_cons_zero, List.set_cons_succ, Nat.reduceAdd, Nat.reduceSub, eqD_int, neD_int, eqD_bl, neD_bl, eqD_ss, neD_ss, eqD_ln, neD_ln, eqD_tn, neD_tn, ixD_0, cRuW]
    refine ⟨sxs d hd, by omega, by omega, ?_⟩
    rw [show ((k : Int) + 1 - 1).toNat = k by omega]
    exact q
  · simp only [allD]
    refine ⟨xs.map (ruleB many k), by rw [List.map_map]; rfl, ?_⟩
    rw [List.all_map]
    exact h

theorem wp_is_rule {ds : List D} {n : Nat} {R : D → Nat → Prop} (h : cRu ds n R) : (dRet (dCall (cRuW 5) (dCons (dVarC 0) (dCons (dVarC 1) (dCons (dC (.int 4)) dNil))))) (ends R) (startN 2 ds) n := by
  unfold cRu at h
  split at h
  case h_2 => exact h.elim
  next d many =>
  simp only [dSeq, dSet, dOwn, dVar, dVarC, dC, dOp, dTest, dChain, dAndT, dOrT, dNotT, dAndV, dOrV, dNotV, dIf, dIfS, dRet, dRetN, dNext, dDrop, dAppend, dSetIx, dFrz, dPar, dB, dCall, dCons, dNil, dTup, dLst, dLc, dYes, dSeqI, seqQ, dRng1, dRng2, dZip, dEnum, dFor, dAsg, dgName, dgTup, dgCons, dgNil, dTruth, truD, dNeg, negQ, dNoPart, dPart, dSl, slD, dRv, rvD, dAug, dBreak, dCont, dNever, wipeS, startN, ends, lenD, absD, min2D_i, max2D_i, Gg.intOfD, tupleD, listD, isiD, strD, addD, Gg.intD, subD, mulD, modD, fdivD, powD, ltD, leD, gtD, geD, isND, notND, catLD, List.map_cons, List.map_nil, List.length_cons, List.length_nil, List.cons_append, List.nil_append, List.replicate, List.getElem?_cons_zero, List.getElem?_cons_succ, List.set_cons_zero, List.set_cons_succ, Nat.reduceAdd, Nat.reduceSub, eqD_int, neD_int, eqD_bl, neD_bl, eqD_ss, neD_ss, eqD_ln, neD_ln, eqD_tn, neD_tn, ixD_0, cRuW]
  exact ⟨h.1, by decide, by decide, h.2⟩

theorem wp_law_is_rule {m : Nat} {ds : List D} {n : Nat} {R : D → Nat → Prop} (h : cRuW (m + 1) ds n R) : (dSeq (dIfS (dOrT (dTest (dOp eqD (dVar 2) (dC (.int 0)))) (dOrT (dNotT (dTruth (dB isiD (dCons (dVar 0) (dCons (dC (.ty "tuple")) dNil))))) (dOrT (dTest (dOp eqD (dVar 0) (dC (.tup [])))) (dNotT (dTruth (dB isiD (dCons (dOp ixD (dVar 0) (dC (.int 0))) (dCons (dC (.ty "str")) dNil)))))))) (dRet (dC (.bl false))) dNext)
    (dSeq (dIfS (dTest (dOp inD (dOp ixD (dVar 0) (dC (.int 0))) (dC (.tup [.str "all", .str "any"])))) (dSeq (dSet 3 (dLc (dSeqI (dSl (dVar 0) (dPart (dC (.int 1))) dNoPart)) (dgName 4) (dNotT (dTruth (dCall (cRuW m) (dCons (dVarC 4) (dCons (dVarC 1) (dCons (dOp subD (dVar 2) (dC (.int 1))) dNil)))))) (dVarC 4) [4]))
    (dRet (dAndV (dOp ltD (dB lenD (dCons (dVar 0) dNil)) (dC (.int 6))) (dOp eqD (dVar 3) (dC (.lst [])))))) dNext)
    (dSeq (dIfS (dTest (dOp neD (dB lenD (dCons (dVar 0) dNil)) (dC (.int 3)))) (dRet (dC (.bl false))) dNext)
    (dSeq (dIfS (dTest (dOp eqD (dOp ixD (dVar 0) (dC (.int 0))) (dC (.str "size")))) (dRet (dAndV (dCall cIsWF (dCons (dOp ixD (dVar 0) (dC (.int 1))) (dCons (dC (.int 0)) (dCons (dOp subD (dVar 1) (dC (.int 1))) dNil)))) (dCall cIsWF (dCons (dOp ixD (dVar 0) (dC (.int 2))) (dCons (dC (.int 0)) (dCons (dC (.int 1000000000)) dNil)))))) dNext)
    (dRet (dAndV (dOp eqD (dOp ixD (dVar 0) (dC (.int 0))) (dC (.str "worth"))) (dAndV (dCall (cScW 5) (dCons (dOp ixD (dVar 0) (dC (.int 1))) (dCons (dVarC 1) (dCons (dC (.int 4)) dNil)))) (dCall cIsWF (dCons (dOp ixD (dVar 0) (dC (.int 2))) (dCons (dC (.int 0)) (dCons (dC (.int 1000000000000000000000000000000000000000000000000000000000000000000000000000)) dNil))))))))))) (ends R) (startN 5 ds) n := by
  unfold cRuW at h
  split at h
  case h_2 => exact h.elim
  next d many w =>
  obtain ⟨sz, w0, w1, h⟩ := h
  simp only [dSeq, dSet, dOwn, dVar, dVarC, dC, dOp, dTest, dChain, dAndT, dOrT, dNotT, dAndV, dOrV, dNotV, dIf, dIfS, dRet, dRetN, dNext, dDrop, dAppend, dSetIx, dFrz, dPar, dB, dCall, dCons, dNil, dTup, dLst, dLc, dYes, dSeqI, seqQ, dRng1, dRng2, dZip, dEnum, dFor, dAsg, dgName, dgTup, dgCons, dgNil, dTruth, truD, dNeg, negQ, dNoPart, dPart, dSl, slD, dRv, rvD, dAug, dBreak, dCont, dNever, wipeS, startN, ends, lenD, absD, min2D_i, max2D_i, Gg.intOfD, tupleD, listD, isiD, strD, addD, Gg.intD, subD, mulD, modD, fdivD, powD, ltD, leD, gtD, geD, isND, notND, catLD, List.map_cons, List.map_nil, List.length_cons, List.length_nil, List.cons_append, List.nil_append, List.replicate, List.getElem?_cons_zero, List.getElem?_cons_succ, List.set_cons_zero, List.set_cons_succ, Nat.reduceAdd, Nat.reduceSub, eqD_int, neD_int, eqD_bl, neD_bl, eqD_ss, neD_ss, eqD_ln, neD_ln, eqD_tn, neD_tn, ixD_0]
  by_cases z : w = 0
  case pos => subst z; simp only [decide_true, decide_false, Bool.true_and, Bool.false_and, Bool.and_true, Bool.and_false, Bool.not_true, Bool.not_false, Bool.false_eq_true, if_true, if_false, Bool.true_or, Bool.or_true, Bool.false_or, Bool.or_false, Int.toNat_zero, ruleB] at h ⊢; exact h
  obtain ⟨k, rfl⟩ : ∃ k : Nat, w = k + 1 := ⟨w.toNat - 1, by omega⟩
  rw [show ((k : Int) + 1).toNat = k + 1 by omega] at h
  simp only [z, decide_true, decide_false, Bool.true_and, Bool.false_and, Bool.and_true, Bool.and_false, Bool.not_true, Bool.not_false, Bool.false_eq_true, if_true, if_false, Bool.true_or, Bool.or_true, Bool.false_or, Bool.or_false]
  cases d <;> first | (have pl := sz.1; simp [Gg.plain] at pl; done) | (simp only [ruleB] at h; simp [dSeq, dSet, dOwn, dVar, dVarC, dC, dOp, dTest, dChain, dAndT, dOrT, dNotT, dAndV, dOrV, dNotV, dIf, dIfS, dRet, dRetN, dNext, dDrop, dAppend, dSetIx, dFrz, dPar, dB, dCall, dCons, dNil, dTup, dLst, dLc, dYes, dSeqI, seqQ, dRng1, dRng2, dZip, dEnum, dFor, dAsg, dgName, dgTup, dgCons, dgNil, dTruth, truD, dNeg, negQ, dNoPart, dPart, dSl, slD, dRv, rvD, dAug, dBreak, dCont, dNever, wipeS, startN, ends, lenD, absD, min2D_i, max2D_i, Gg.intOfD, tupleD, listD, isiD, strD, addD, Gg.intD, subD, mulD, modD, fdivD, powD, ltD, leD, gtD, geD, isND, notND, catLD, List.map_cons, List.map_nil, List.length_cons, List.length_nil, List.cons_append, List.nil_append, List.replicate, List.getElem?_cons_zero, List.getElem?_cons_succ, List.set_cons_zero, List.set_cons_succ, Nat.reduceAdd, Nat.reduceSub, eqD_int, neD_int, eqD_bl, neD_bl, eqD_ss, neD_ss, eqD_ln, neD_ln, eqD_tn, neD_tn, ixD_0, tyOf, isT, plainT]; exact h) | skip
  next xs =>
  cases xs with
  | nil => simp only [ruleB] at h; simp [dSeq, dSet, dOwn, dVar, dVarC, dC, dOp, dTest, dChain, dAndT, dOrT, dNotT, dAndV, dOrV, dNotV, dIf, dIfS, dRet, dRetN, dNext, dDrop, dAppend, dSetIx, dFrz, dPar, dB, dCall, dCons, dNil, dTup, dLst, dLc, dYes, dSeqI, seqQ, dRng1, dRng2, dZip, dEnum, dFor, dAsg, dgName, dgTup, dgCons, dgNil, dTruth, truD, dNeg, negQ, dNoPart, dPart, dSl, slD, dRv, rvD, dAug, dBreak, dCont, dNever, wipeS, startN, ends, lenD, absD, min2D_i, max2D_i, Gg.intOfD, tupleD, listD, isiD, strD, addD, Gg.intD, subD, mulD, modD, fdivD, powD, ltD, leD, gtD, geD, isND, notND, catLD, List.map_cons, List.map_nil, List.length_cons, List.length_nil, List.cons_append, List.nil_append, List.replicate, List.getElem?_cons_zero, List.getElem?_cons_succ, List.set_cons_zero, List.set_cons_succ, Nat.reduceAdd, Nat.reduceSub, eqD_int, neD_int, eqD_bl, neD_bl, eqD_ss, neD_ss, eqD_ln, neD_ln, eqD_tn, neD_tn, ixD_0, tyOf, isT, plainT]; exact h
  | cons x xs =>
  obtain ⟨sx, l, sxs⟩ := sz.cons
  simp only [ruleB] at h
  cases x <;> first | (have pl := sx.1; simp [Gg.plain] at pl; done) | (simp [eqF, strIs] at h; simp [dSeq, dSet, dOwn, dVar, dVarC, dC, dOp, dTest, dChain, dAndT, dOrT, dNotT, dAndV, dOrV, dNotV, dIf, dIfS, dRet, dRetN, dNext, dDrop, dAppend, dSetIx, dFrz, dPar, dB, dCall, dCons, dNil, dTup, dLst, dLc, dYes, dSeqI, seqQ, dRng1, dRng2, dZip, dEnum, dFor, dAsg, dgName, dgTup, dgCons, dgNil, dTruth, truD, dNeg, negQ, dNoPart, dPart, dSl, slD, dRv, rvD, dAug, dBreak, dCont, dNever, wipeS, startN, ends, lenD, absD, min2D_i, max2D_i, Gg.intOfD, tupleD, listD, isiD, strD, addD, Gg.intD, subD, mulD, modD, fdivD, powD, ltD, leD, gtD, geD, isND, notND, catLD, List.map_cons, List.map_nil, List.length_cons, List.length_nil, List.cons_append, List.nil_append, List.replicate, List.getElem?_cons_zero, List.getElem?_cons_succ, List.set_cons_zero, List.set_cons_succ, Nat.reduceAdd, Nat.reduceSub, eqD_int, neD_int, eqD_bl, neD_bl, eqD_ss, neD_ss, eqD_ln, neD_ln, eqD_tn, neD_tn, ixD_0, tyOf, isT, plainT]; exact h) | skip
  next st =>
  have ia := fun R => inD_t (x := .str st) (R := R) (ys := [D.str "all", D.str "any"]) rfl (by decide)
  simp only [dSeq, dSet, dOwn, dVar, dVarC, dC, dOp, dTest, dChain, dAndT, dOrT, dNotT, dAndV, dOrV, dNotV, dIf, dIfS, dRet, dRetN, dNext, dDrop, dAppend, dSetIx, dFrz, dPar, dB, dCall, dCons, dNil, dTup, dLst, dLc, dYes, dSeqI, seqQ, dRng1, dRng2, dZip, dEnum, dFor, dAsg, dgName, dgTup, dgCons, dgNil, dTruth, truD, dNeg, negQ, dNoPart, dPart, dSl, slD, dRv, rvD, dAug, dBreak, dCont, dNever, wipeS, startN, ends, lenD, absD, min2D_i, max2D_i, Gg.intOfD, tupleD, listD, isiD, strD, addD, Gg.intD, subD, mulD, modD, fdivD, powD, ltD, leD, gtD, geD, isND, notND, catLD, List.map_cons, List.map_nil, List.length_cons, List.length_nil, List.cons_append, List.nil_append, List.replicate, List.getElem?_cons_zero, List.getElem?_cons_succ, List.set_cons_zero, List.set_cons_succ, Nat.reduceAdd, Nat.reduceSub, eqD_int, neD_int, eqD_bl, neD_bl, eqD_ss, neD_ss, eqD_ln, neD_ln, eqD_tn, neD_tn, ixD_0, tyOf, isT, plainT, Option.isSome_some, beq_self_eq_true, true_and, Option.some.injEq, String.reduceBEq, reduceCtorEq, String.reduceEq, decide_true, decide_false, Bool.true_and, Bool.false_and, Bool.and_true, Bool.and_false, Bool.not_true, Bool.not_false, Bool.false_eq_true, if_true, if_false, Bool.true_or, Bool.or_true, Bool.false_or, Bool.or_false, ia, List.isEmpty_cons]
  have e : ∀ w : Str, strIs w (.str st) = decide (st = w) := fun w => by unfold strIs; by_cases e : st = w <;> simp [e]
  simp only [e] at h
  by_cases c3 : ([D.str "all", D.str "any"].any fun y => eqF y (.str st)) = true
  · have c1 : ¬ st = "size" := fun z => by subst z; revert c3; decide +kernel
    have c2 : ¬ st = "worth" := fun z => by subst z; revert c3; decide +kernel
    simp only [c1, c2, c3, decide_true, decide_false, Bool.true_and, Bool.false_and, Bool.and_true, Bool.and_false, Bool.not_true, Bool.not_false, Bool.false_eq_true, if_true, if_false, Bool.true_or, Bool.or_true, Bool.false_or, Bool.or_false] at h ⊢
    rw [cut1D]
    refine ⟨l, lcl_fm (fun d => if ruleB many k d then none else some d) xs [] n _ (fun d hd n S S' q => ?_) ?_⟩
    · simp only [dSeq, dSet, dOwn, dVar, dVarC, dC, dOp, dTest, dChain, dAndT, dOrT, dNotT, dAndV, dOrV, dNotV, dIf, dIfS, dRet, dRetN, dNext, dDrop, dAppend, dSetIx, dFrz, dPar, dB, dCall, dCons, dNil, dTup, dLst, dLc, dYes, dSeqI, seqQ, dRng1, dRng2, dZip, dEnum, dFor, dAsg, dgName, dgTup, dgCons, dgNil, dTruth, truD, dNeg, negQ, dNoPart, dPart, dSl, slD, dRv, rvD, dAug, dBreak, dCont, dNever, wipeS, startN, ends, lenD, absD, min2D_i, max2D_i, Gg.intOfD, tupleD, listD, isiD, strD, addD, Gg.intD, subD, mulD, modD, fdivD, powD, ltD, leD, gtD, geD, isND, notND, catLD, List.map_cons, List.map_nil, List.length_cons, List.length_nil, List.cons_append, List.nil_append, List.replicate, List.getElem?_cons_zero, List.getElem?_cons_succ, List.set_cons_zero, List.set_cons_succ, Nat.reduceAdd, Nat.reduceSub, eqD_int, neD_int, eqD_bl, neD_bl, eqD_ss, neD_ss, eqD_ln, neD_ln, eqD_tn, neD_tn, ixD_0, cRuW]
      refine ⟨sxs d hd, by omega, by omega, ?_⟩
      rw [show ((k : Int) + 1 - 1).toNat = k by omega]
      cases zz : ruleB many k d <;> (simp only [zz] at q; exact q)
    rw [List.nil_append, eqD_ln, fm_all]
    by_cases c4 : xs.length < 5
    case neg =>
      have c4' : ¬ ((xs.length + 1 : Nat) : Int) < 6 := by omega
      simp only [c4, c4', decide_true, decide_false, Bool.true_and, Bool.false_and, Bool.and_true, Bool.and_false, Bool.not_true, Bool.not_false, Bool.false_eq_true, if_true, if_false, Bool.true_or, Bool.or_true, Bool.false_or, Bool.or_false] at h ⊢
      exact h
    have c4' : ((xs.length + 1 : Nat) : Int) < 6 := by omega
    simp only [c4, c4', decide_true, decide_false, Bool.true_and, Bool.false_and, Bool.and_true, Bool.and_false, Bool.not_true, Bool.not_false, Bool.false_eq_true, if_true, if_false, Bool.true_or, Bool.or_true, Bool.false_or, Bool.or_false] at h ⊢
    exact h
  simp only [c3, decide_true, decide_false, Bool.true_and, Bool.false_and, Bool.and_true, Bool.and_false, Bool.not_true, Bool.not_false, Bool.false_eq_true, if_true, if_false, Bool.true_or, Bool.or_true, Bool.false_or, Bool.or_false] at h ⊢
  by_cases z : xs.length = 2
  case neg =>
    have z' : ¬ ((xs.length + 1 : Nat) : Int) = 3 := by omega
    rw [(size_not z).1, (size_not z).2] at h
    simp only [z', decide_true, decide_false, Bool.true_and, Bool.false_and, Bool.and_true, Bool.and_false, Bool.not_true, Bool.not_false, Bool.false_eq_true, if_true, if_false, Bool.true_or, Bool.or_true, Bool.false_or, Bool.or_false]
    split at h
    · exact h
    · split at h <;> exact h
  obtain ⟨a, b, rfl⟩ := two_ofD z
  have sa := sxs a (List.mem_cons_self ..)
  have sb := sxs b (List.mem_cons_of_mem _ (List.mem_cons_self ..))
  have z' : ((([a, b] : List D).length + 1 : Nat) : Int) = 3 := rfl
  have ix2 : ∀ R : D → Prop, ixD (.tup [.str st, a, b]) (.int 2) R = R b := fun R => ixD_2
  simp only [z', ixD_1, ix2, cIsWF, cScW, decide_true, decide_false, Bool.true_and, Bool.false_and, Bool.and_true, Bool.and_false, Bool.not_true, Bool.not_false, Bool.false_eq_true, if_true, if_false, Bool.true_or, Bool.or_true, Bool.false_or, Bool.or_false] at h ⊢
  by_cases c1 : st = "size"
  · simp only [c1, sizeB, decide_true, decide_false, Bool.true_and, Bool.false_and, Bool.and_true, Bool.and_false, Bool.not_true, Bool.not_false, Bool.false_eq_true, if_true, if_false, Bool.true_or, Bool.or_true, Bool.false_or, Bool.or_false] at h ⊢
    refine ⟨sa.1, ?_⟩
    cases zz : inB 0 (many - 1) a
    · simp only [zz, Bool.false_and, decide_true, decide_false, Bool.true_and, Bool.false_and, Bool.and_true, Bool.and_false, Bool.not_true, Bool.not_false, Bool.false_eq_true, if_true, if_false, Bool.true_or, Bool.or_true, Bool.false_or, Bool.or_false] at h ⊢; exact h
    · simp only [zz, Bool.true_and, decide_true, decide_false, Bool.true_and, Bool.false_and, Bool.and_true, Bool.and_false, Bool.not_true, Bool.not_false, Bool.false_eq_true, if_true, if_false, Bool.true_or, Bool.or_true, Bool.false_or, Bool.or_false] at h ⊢; exact ⟨sb.1, h⟩
  simp only [c1, decide_true, decide_false, Bool.true_and, Bool.false_and, Bool.and_true, Bool.and_false, Bool.not_true, Bool.not_false, Bool.false_eq_true, if_true, if_false, Bool.true_or, Bool.or_true, Bool.false_or, Bool.or_false] at h ⊢
  by_cases c2 : st = "worth"
  · simp only [c2, worthB, decide_true, decide_false, Bool.true_and, Bool.false_and, Bool.and_true, Bool.and_false, Bool.not_true, Bool.not_false, Bool.false_eq_true, if_true, if_false, Bool.true_or, Bool.or_true, Bool.false_or, Bool.or_false] at h ⊢
    refine ⟨sa, by decide, by decide, ?_⟩
    rw [show (4 : Int).toNat = 4 from rfl]
    cases zz : scaleB many 4 a
    · simp only [zz, Bool.false_and, decide_true, decide_false, Bool.true_and, Bool.false_and, Bool.and_true, Bool.and_false, Bool.not_true, Bool.not_false, Bool.false_eq_true, if_true, if_false, Bool.true_or, Bool.or_true, Bool.false_or, Bool.or_false] at h ⊢; exact h
    · simp only [zz, Bool.true_and, decide_true, decide_false, Bool.true_and, Bool.false_and, Bool.and_true, Bool.and_false, Bool.not_true, Bool.not_false, Bool.false_eq_true, if_true, if_false, Bool.true_or, Bool.or_true, Bool.false_or, Bool.or_false] at h ⊢; exact ⟨sb.1, h⟩
  simp only [c2, decide_true, decide_false, Bool.true_and, Bool.false_and, Bool.and_true, Bool.and_false, Bool.not_true, Bool.not_false, Bool.false_eq_true, if_true, if_false, Bool.true_or, Bool.or_true, Bool.false_or, Bool.or_false] at h ⊢
  exact h

theorem wp_law_shuffled {ds : List D} {n : Nat} {R : D → Nat → Prop} (h : cShuf ds n R) : (dSeq (dPar 2 3 true true (dB listD (dCons (dVar 1) dNil)) (dLst dNil))
    (dSeq (dWhile (dTest (dOp neD (dVar 2) (dC (.lst [])))) (dAppPop 3 2 (dCall cDraw (dCons (dVarC 0) (dCons (dB lenD (dCons (dVar 2) dNil)) dNil)))))
    (dFrz 3 (dFrz 2 (dRet (dVar 3)))))) (ends R) (startN 4 ds) n := by
  unfold cShuf at h
  split at h
  case h_2 => exact h.elim
  next xs =>
  obtain ⟨l, hb, h⟩ := h
  simp only [dSeq, dSet, dOwn, dVar, dVarC, dC, dOp, dTest, dChain, dAndT, dOrT, dNotT, dAndV, dOrV, dNotV, dIf, dIfS, dRet, dRetN, dNext, dDrop, dAppend, dSetIx, dFrz, dPar, dB, dCall, dCons, dNil, dTup, dLst, dLc, dYes, dSeqI, seqQ, dRng1, dRng2, dZip, dEnum, dFor, dAsg, dgName, dgTup, dgCons, dgNil, dTruth, truD, dNeg, negQ, dNoPart, dPart, dSl, slD, dRv, rvD, dAug, dBreak, dCont, dNever, wipeS, startN, ends, lenD, absD, min2D_i, max2D_i, Gg.intOfD, tupleD, listD, isiD, strD, addD, Gg.intD, subD, mulD, modD, fdivD, powD, ltD, leD, gtD, geD, isND, notND, catLD, ixD, inD, ninD, eqD, neD, eqQ, List.map_cons, List.map_nil, List.length_cons, List.length_nil, List.cons_append, List.nil_append, List.replicate, List.getElem?_cons_zero, List.getElem?_cons_succ, List.set_cons_zero, List.set_cons_succ, Nat.reduceAdd, Nat.reduceSub, cDraw, dAppPop]
  refine ⟨by decide, fun m ρ n' => ∃ L F, ρ = [.val .pen, .val (.lst xs), .own L, .own F] ∧ m = L.length ∧ (F ++ L).Perm xs ∧ n' + L.length ≤ n + xs.length, ⟨xs.length, xs, [], rfl, rfl, .refl _, Nat.le_refl _⟩, ?_⟩
  rintro m ρ n' ⟨L, F, rfl, rfl, pm, hn⟩
  have hl := pm.length_eq
  rw [List.length_append] at hl
  simp only [dSeq, dSet, dOwn, dVar, dVarC, dC, dOp, dTest, dChain, dAndT, dOrT, dNotT, dAndV, dOrV, dNotV, dIf, dIfS, dRet, dRetN, dNext, dDrop, dAppend, dSetIx, dFrz, dPar, dB, dCall, dCons, dNil, dTup, dLst, dLc, dYes, dSeqI, seqQ, dRng1, dRng2, dZip, dEnum, dFor, dAsg, dgName, dgTup, dgCons, dgNil, dTruth, truD, dNeg, negQ, dNoPart, dPart, dSl, slD, dRv, rvD, dAug, dBreak, dCont, dNever, wipeS, startN, ends, lenD, absD, min2D_i, max2D_i, Gg.intOfD, tupleD, listD, isiD, strD, addD, Gg.intD, subD, mulD, modD, fdivD, powD, ltD, leD, gtD, geD, isND, notND, catLD, ixD, inD, ninD, eqD, neD, eqQ, List.map_cons, List.map_nil, List.length_cons, List.length_nil, List.cons_append, List.nil_append, List.replicate, List.getElem?_cons_zero, List.getElem?_cons_succ, List.set_cons_zero, List.set_cons_succ, Nat.reduceAdd, Nat.reduceSub]
  cases L with
  | nil =>
    simp only [List.isEmpty_nil, decide_true, decide_false, Bool.true_and, Bool.false_and, Bool.and_true, Bool.and_false, Bool.not_true, Bool.not_false, Bool.false_eq_true, if_true, if_false, Bool.true_or, Bool.or_true, Bool.false_or, Bool.or_false]
    rw [List.append_nil] at pm
    exact h F n' pm (by rw [List.length_nil] at hn; omega)
  | cons y ys =>
    simp only [List.isEmpty_cons, decide_true, decide_false, Bool.true_and, Bool.false_and, Bool.and_true, Bool.and_false, Bool.not_true, Bool.not_false, Bool.false_eq_true, if_true, if_false, Bool.true_or, Bool.or_true, Bool.false_or, Bool.or_false]
    rw [List.length_cons] at hl hn
    refine ⟨by simp only [List.length_cons]; omega, by simp only [List.length_cons]; omega, by omega, fun d d0 d1 => ?_⟩
    obtain ⟨q, rfl⟩ := Int.eq_ofNat_of_zero_le d0
    have hq : q < (y :: ys).length := by omega
    refine ⟨q, rfl, hq, by simp only [List.length_cons]; omega, by omega, fun v hv => ?_⟩
    refine ⟨((y :: ys).eraseIdx q).length, by rw [List.length_eraseIdx]; split <;> simp only [List.length_cons] <;> omega, (y :: ys).eraseIdx q, F ++ [v], rfl, rfl, ?_, ?_⟩
    · rw [List.getElem?_eq_getElem hq] at hv
      cases hv
      rw [List.append_assoc]
      exact (List.Perm.append_left F (perm_erase hq)).trans pm
    · rw [List.length_eraseIdx, if_pos hq, List.length_cons]; omega

end Gg

namespace Gg
open PySem PySem.Spec PyProof.Rows L2
def Le : List Int → List Int → Prop
  | [], [] => True
  | x :: xs, y :: ys => x ≤ y ∧ Le xs ys
  | [], _ :: _ => False
  | _ :: _, [] => False
theorem Le.len : ∀ {xs ys : List Int}, Le xs ys → xs.length = ys.length
  | [], [], _ => rfl
  | _ :: _, _ :: _, h => by rw [List.length_cons, List.length_cons, Le.len h.2]
  | [], _ :: _, h => h.elim
  | _ :: _, [], h => h.elim
theorem Le.low : ∀ {xs ys : List Int}, Le xs ys → ∀ y ∈ ys, ∃ x ∈ xs, x ≤ y
  | [], [], _, y, h => nomatch h
  | x :: xs, z :: ys, h, y, hy => by
    rcases List.mem_cons.mp hy with e | e
    · exact ⟨x, by simp, by rw [e]; exact h.1⟩
    · obtain ⟨w, w1, w2⟩ := Le.low h.2 y e
      exact ⟨w, by simp [w1], w2⟩
  | [], _ :: _, h, _, _ => h.elim
  | _ :: _, [], h, _, _ => h.elim
theorem Le.high : ∀ {xs ys : List Int}, Le xs ys → ∀ x ∈ xs, ∃ y ∈ ys, x ≤ y
  | [], [], _, y, h => nomatch h
  | x :: xs, z :: ys, h, y, hy => by
    rcases List.mem_cons.mp hy with e | e
    · exact ⟨z, by simp, by rw [e]; exact h.1⟩
    · obtain ⟨w, w1, w2⟩ := Le.high h.2 y e
      exact ⟨w, by simp [w1], w2⟩
  | [], _ :: _, h, _, _ => h.elim
  | _ :: _, [], h, _, _ => h.elim
theorem Le.at : ∀ {xs ys : List Int}, Le xs ys → ∀ k : Nat, xs.getD k 0 ≤ ys.getD k 0
  | [], [], _, _ => Int.le_refl _
  | x :: xs, y :: ys, h, 0 => h.1
  | x :: xs, y :: ys, h, k + 1 => Le.at h.2 k
  | [], _ :: _, h, _ => h.elim
  | _ :: _, [], h, _ => h.elim
theorem Le.trans : ∀ {xs ys zs : List Int}, Le xs ys → Le ys zs → Le xs zs
  | [], [], [], _, _ => trivial
  | _ :: _, _ :: _, _ :: _, h, g => ⟨Int.le_trans h.1 g.1, Le.trans h.2 g.2⟩
  | [], _ :: _, _, h, _ => h.elim
  | _ :: _, [], _, h, _ => h.elim
  | [], [], _ :: _, _, g => g.elim
  | _ :: _, _ :: _, [], _, g => g.elim
/-- four things: two, their meet and join, in a list at l -/
structure Four (K : PySem.W.Frag) (H : Hp) (l : Addr) (N : Nat) (t0 t1 t2 t3 : Addr) (xs ys : List Int) : Prop where
  lst : H l = some (.lst [.ref t0, .ref t1, .ref t2, .ref t3])
  a0 : SqT K H t0 (xs.map V.int)
  a1 : SqT K H t1 (ys.map V.int)
  a2 : SqT K H t2 ((List.zipWith mn xs ys).map V.int)
  a3 : SqT K H t3 ((List.zipWith mx xs ys).map V.int)
  lx : xs.length = N
  ly : ys.length = N
  mx' : Ms 1000000000 xs
  my' : Ms 1000000000 ys
theorem Four.keep {K : PySem.W.Frag} {H H' : Hp} {l t0 t1 t2 t3 : Addr} {N : Nat} {xs ys : List Int} (s : Same H H') (f : Four K H l N t0 t1 t2 t3 xs ys) : Four K H' l N t0 t1 t2 t3 xs ys :=
  ⟨s _ _ f.lst, Same.seqT s f.a0, Same.seqT s f.a1, Same.seqT s f.a2, Same.seqT s f.a3, f.lx, f.ly, f.mx', f.my'⟩
theorem Four.kp {K : PySem.W.Frag} {H H' : Hp} {p c l t0 t1 t2 t3 : Addr} {B N : Nat} {xs ys : List Int} (k : Kp p H H') (pn : Pen H p c B) (f : Four K H l N t0 t1 t2 t3 xs ys) : Four K H' l N t0 t1 t2 t3 xs ys :=
  ⟨k.lst pn f.lst, k.seqT pn f.a0, k.seqT pn f.a1, k.seqT pn f.a2, k.seqT pn f.a3, f.lx, f.ly, f.mx', f.my'⟩
end Gg
namespace Gg
open PySem PySem.Spec PyProof.Rows L2
section
variable {n k : Nat} {te : TE} {vs : List Nat} {σ : L2.St} {H1 : Hp} {D : Addr} {Qd : Hp → Prop}
end
end Gg
namespace Gg
open PySem PySem.Spec PyProof.Rows L2
end Gg
namespace Gg
open PySem PySem.Spec PyProof.Rows L2
/-- the value is a scale of this depth, for n measures -/
def IsSc (K : PySem.W.Frag) (n d : Nat) (H : Hp) (v : V) : Prop := ∃ (a : Addr) (s : Sc), v = .ref a ∧ ScAt K H a s ∧ s.deep ≤ d ∧ s.Ok n
theorem IsSc.keep {K : PySem.W.Frag} {n d : Nat} {H H' : Hp} {v : V} (s : Same H H') (h : IsSc K n d H v) : IsSc K n d H' v := by
  obtain ⟨a, r, e, h1, h2, h3⟩ := h
  exact ⟨a, r, e, h1.keep s, h2, h3⟩
end Gg

namespace Gg
open PySem PySem.Spec PyProof.Rows L2
local macro_rules | `(tactic| get_elem_tactic_trivial) => `(tactic| ((try simp only [Gg.ixD_0, Gg.ixD_1, Gg.ixD_2, Gg.atI_z0, Gg.atI_z1, Gg.atI_z2, Gg.atI_if2, Gg.ite_int, Gg.some_ex, decide_eq_true_eq, List.length_map, List.map_append, Nat.reduceLeDiff, Nat.reduceLT, Int.cast_ofNat_Int, Int.reduceLT, Int.reduceLE, true_and, and_true, ne_eq, reduceCtorEq, not_false_eq_true, Bool.false_eq_true, Bool.true_eq_false, if_true, if_false, ite_true, ite_false, decide_true, decide_false, Gg.isi_non_int, Gg.isi_non_bool, Gg.isi_non_str, Gg.isi_non_tuple, Gg.isi_non_list, Gg.isi_non_dict, Gg.isi_non_tuple_list, Gg.isi_non_list_tuple, Gg.isi_bl_int, Gg.isi_bl_bool, Gg.isi_bl_str, Gg.isi_bl_tuple, Gg.isi_bl_list, Gg.isi_bl_dict, Gg.isi_bl_tuple_list, Gg.isi_bl_list_tuple, Gg.isi_int_int, Gg.isi_int_bool, Gg.isi_int_str, Gg.isi_int_tuple, Gg.isi_int_list, Gg.isi_int_dict, Gg.isi_int_tuple_list, Gg.isi_int_list_tuple, Gg.isi_str_int, Gg.isi_str_bool, Gg.isi_str_str, Gg.isi_str_tuple, Gg.isi_str_list, Gg.isi_str_dict, Gg.isi_str_tuple_list, Gg.isi_str_list_tuple, Gg.isi_tup_int, Gg.isi_tup_bool, Gg.isi_tup_str, Gg.isi_tup_tuple, Gg.isi_tup_list, Gg.isi_tup_dict, Gg.isi_tup_tuple_list, Gg.isi_tup_list_tuple, Gg.isi_lst_int, Gg.isi_lst_bool, Gg.isi_lst_str, Gg.isi_lst_tuple, Gg.isi_lst_list, Gg.isi_lst_dict, Gg.isi_lst_tuple_list, Gg.isi_lst_list_tuple, Gg.isi_emp_int, Gg.isi_emp_bool, Gg.isi_emp_str, Gg.isi_emp_tuple, Gg.isi_emp_list, Gg.isi_emp_dict, Gg.isi_emp_tuple_list, Gg.isi_emp_list_tuple]); (repeat (dsimp only [Gg.dSeq, Gg.dSet, Gg.dOwn, Gg.dVar, Gg.dVarC, Gg.dC, Gg.dOp, Gg.dTest, Gg.dChain, Gg.dAndT, Gg.dOrT, Gg.dNotT, Gg.dAndV, Gg.dOrV, Gg.dNotV, Gg.dIf, Gg.dIfS, Gg.dRet, Gg.dRetN, Gg.dNext, Gg.dDrop, Gg.dAppend, Gg.dSetIx, Gg.dFrz, Gg.dPar, Gg.dB, Gg.dCall, Gg.dCons, Gg.dNil, Gg.dTup, Gg.dLst, Gg.dLc, Gg.dYes, Gg.dSeqI, Gg.dRng1, Gg.dRng2, Gg.dZip, Gg.dEnumT, Gg.dFor, Gg.dAsg, Gg.dgName, Gg.dgTup, Gg.dgCons, Gg.dgNil, Gg.dTruth, Gg.dNeg, Gg.dNoPart, Gg.dPart, Gg.dSl, Gg.dRv, Gg.dAug, Gg.dBreak, Gg.dCont, Gg.dNever, Gg.wipeS, Gg.startN, Gg.ends, Gg.rl_mapc, Gg.rl_mapn, Gg.rl_appc, Gg.rl_appn, Gg.rl_get0, Gg.rl_gets, Gg.rl_set0, Gg.rl_sets, Gg.rl_lenc, Gg.rl_lenn, Gg.rl_rep0, Gg.rl_reps, Nat.reduceAdd, Nat.reduceSub, Gg.dFld, Gg.dMeth, Gg.dM1, Gg.iNil, Gg.iDrop, Gg.iSet, Gg.iFld, Gg.iIf, Gg.startI, Gg.dNo, Gg.joinD_l, Gg.addD_i, Gg.addD_s, Gg.addD_t, Gg.addD_l, Gg.addD_bi, Gg.addD_ib, Gg.subD_i, Gg.mulD_i, Gg.mulD_t, Gg.mulD_l, Gg.modD_i, Gg.fdivD_i, Gg.powD_i, Gg.ltD_i, Gg.leD_i, Gg.gtD_i, Gg.geD_i, Gg.isND_non, Gg.notND_non, Gg.truD_non, Gg.isND_bl, Gg.notND_bl, Gg.truD_bl, Gg.isND_int, Gg.notND_int, Gg.truD_int, Gg.isND_str, Gg.notND_str, Gg.isND_tup, Gg.notND_tup, Gg.truD_tup, Gg.isND_lst, Gg.notND_lst, Gg.truD_lst, Gg.isND_obj, Gg.notND_obj, Gg.truD_str, Gg.slD_t, Gg.slD_l, Gg.slD_s, Gg.rvD_t, Gg.rvD_l, Gg.ixD_t, Gg.ixD_l, Gg.ixD_s, Gg.lenD_l, Gg.lenD_t, Gg.lenD_s, Gg.absD_i, Gg.intOfD_i, Gg.intOfD_b, Gg.tupleD_l, Gg.tupleD_t, Gg.listD_l, Gg.listD_t, Gg.sumD_l, Gg.allD_l, Gg.anyD_l, Gg.catLD_l, Gg.strD_i, Gg.seqQ_l, Gg.seqQ_t, Gg.seqQ_s, Gg.negQ_i, Gg.inQ_s, Gg.inD_ss, Gg.isS_s, Gg.min2D_j, Gg.max2D_j, Gg.cDraw_i, Gg.eqD_int, Gg.neD_int, Gg.eqD_bl, Gg.neD_bl, Gg.eqD_ss, Gg.neD_ss, Gg.eqD_ln, Gg.neD_ln, Gg.eqD_tn, Gg.neD_tn, Int.reduceAdd, Int.reduceSub, Int.reduceMul, Int.reducePow, Int.reduceToNat, Bool.not_true, Bool.not_false]; (try simp only [Gg.ixD_0, Gg.ixD_1, Gg.ixD_2, Gg.atI_z0, Gg.atI_z1, Gg.atI_z2, Gg.atI_if2, Gg.ite_int, Gg.some_ex, decide_eq_true_eq, List.length_map, List.map_append, Nat.reduceLeDiff, Nat.reduceLT, Int.cast_ofNat_Int, Int.reduceLT, Int.reduceLE, true_and, and_true, ne_eq, reduceCtorEq, not_false_eq_true, Bool.false_eq_true, Bool.true_eq_false, if_true, if_false, ite_true, ite_false, decide_true, decide_false, Gg.isi_non_int, Gg.isi_non_bool, Gg.isi_non_str, Gg.isi_non_tuple, Gg.isi_non_list, Gg.isi_non_dict, Gg.isi_non_tuple_list, Gg.isi_non_list_tuple, Gg.isi_bl_int, Gg.isi_bl_bool, Gg.isi_bl_str, Gg.isi_bl_tuple, Gg.isi_bl_list, Gg.isi_bl_dict, Gg.isi_bl_tuple_list, Gg.isi_bl_list_tuple, Gg.isi_int_int, Gg.isi_int_bool, Gg.isi_int_str, Gg.isi_int_tuple, Gg.isi_int_list, Gg.isi_int_dict, Gg.isi_int_tuple_list, Gg.isi_int_list_tuple, Gg.isi_str_int, Gg.isi_str_bool, Gg.isi_str_str, Gg.isi_str_tuple, Gg.isi_str_list, Gg.isi_str_dict, Gg.isi_str_tuple_list, Gg.isi_str_list_tuple, Gg.isi_tup_int, Gg.isi_tup_bool, Gg.isi_tup_str, Gg.isi_tup_tuple, Gg.isi_tup_list, Gg.isi_tup_dict, Gg.isi_tup_tuple_list, Gg.isi_tup_list_tuple, Gg.isi_lst_int, Gg.isi_lst_bool, Gg.isi_lst_str, Gg.isi_lst_tuple, Gg.isi_lst_list, Gg.isi_lst_dict, Gg.isi_lst_tuple_list, Gg.isi_lst_list_tuple, Gg.isi_emp_int, Gg.isi_emp_bool, Gg.isi_emp_str, Gg.isi_emp_tuple, Gg.isi_emp_list, Gg.isi_emp_dict, Gg.isi_emp_tuple_list, Gg.isi_emp_list_tuple])))))


mutual
def ruD : Ru → D
  | .size k m => .tup [.str "size", .int (k : Int), .int m]
  | .worth s m => .tup [.str "worth", scD s, .int m]
  | .all rs => .tup (.str "all" :: ruDs rs)
  | .any rs => .tup (.str "any" :: ruDs rs)
def ruDs : List Ru → List D
  | [] => []
  | r :: rs => ruD r :: ruDs rs
end
theorem ruDs_map : ∀ rs : List Ru, ruDs rs = rs.map ruD
  | [] => rfl
  | r :: rs => by rw [ruDs, ruDs_map rs]; rfl
mutual
/-- what is_rule lets by, its depth aside -/
def Ru.Fit (n : Nat) : Ru → Prop
  | .size k m => k < n ∧ 0 ≤ m ∧ m ≤ 1000000000
  | .worth s m => s.Ok n ∧ s.deep ≤ 4 ∧ 0 ≤ m ∧ m ≤ 10 ^ 75
  | .all rs => rs.length ≤ 4 ∧ FitAll n rs
  | .any rs => rs.length ≤ 4 ∧ FitAll n rs
def FitAll (n : Nat) : List Ru → Prop
  | [] => True
  | r :: rs => r.Fit n ∧ FitAll n rs
end
theorem fitAll_iff {n : Nat} : ∀ {rs : List Ru}, FitAll n rs ↔ ∀ r, r ∈ rs → r.Fit n
  | [] => ⟨fun _ r h => (nomatch h), fun _ => trivial⟩
  | r :: rs => by
    rw [FitAll, fitAll_iff (rs := rs)]
    exact Iff.intro (fun ⟨a, b⟩ x hx => (List.mem_cons.mp hx).elim (fun e => e ▸ a) (b x)) (fun h => ⟨h r (List.mem_cons_self ..), fun x hx => h x (List.mem_cons_of_mem _ hx)⟩)
theorem deepAll_le {k : Nat} : ∀ {rs : List Ru}, deepAll rs ≤ k ↔ ∀ r, r ∈ rs → r.deep ≤ k
  | [] => ⟨fun _ r h => (nomatch h), fun _ => Nat.zero_le _⟩
  | r :: rs => by
    rw [deepAll, Nat.max_le, deepAll_le (rs := rs)]
    exact Iff.intro (fun ⟨a, b⟩ x hx => (List.mem_cons.mp hx).elim (fun e => e ▸ a) (b x)) (fun h => ⟨h r (List.mem_cons_self ..), fun x hx => h x (List.mem_cons_of_mem _ hx)⟩)
mutual
theorem Ru.Fit.ok {n : Nat} : ∀ {r : Ru}, r.Fit n → r.Ok n
  | .size k m, h => by
    rw [Ru.Fit] at h; rw [Ru.Ok]; exact ⟨h.1, h.2.1, Int.lt_of_le_of_lt h.2.2 (by decide)⟩
  | .worth s m, h => by
    rw [Ru.Fit] at h; rw [Ru.Ok]; exact ⟨h.1, h.2.1, h.2.2.1, Int.lt_of_le_of_lt h.2.2.2 (by decide)⟩
  | .all rs, h => by rw [Ru.Fit] at h; rw [Ru.Ok]; exact ⟨Nat.le_succ_of_le h.1, FitAll.ok h.2⟩
  | .any rs, h => by rw [Ru.Fit] at h; rw [Ru.Ok]; exact ⟨Nat.le_succ_of_le h.1, FitAll.ok h.2⟩
theorem FitAll.ok {n : Nat} : ∀ {rs : List Ru}, FitAll n rs → OkAll n rs
  | [], _ => trivial
  | r :: rs, h => by rw [FitAll] at h; rw [OkAll]; exact ⟨h.1.ok, FitAll.ok h.2⟩
end
def cRule (m : Nat) : DC := fun ds n R => match ds with
  | [.pen, .tup a, .tup b, .int deep] => ∃ g r : List Int, a = g.map D.int ∧ b = r.map D.int ∧ g.length = r.length ∧ 1 ≤ g.length ∧ g.length ≤ 8 ∧ Ms 1000000000 g ∧ Ms 1000000000 r ∧ 1 ≤ deep ∧ deep < m ∧ deep ≤ 4 ∧ n + 100 * 6 ^ deep.toNat ≤ 800000000 ∧ ∀ (ru : Ru) (n' : Nat), ru.Fit g.length → ru.deep ≤ deep.toNat → keepsB ru g = true → n' ≤ n + 100 * 6 ^ deep.toNat → R (ruD ru) n'
  | _ => False
theorem cRule_zero {ds : List D} {n : Nat} {R : D → Nat → Prop} (h : cRule 0 ds n R) : False := by
  unfold cRule at h
  split at h
  · obtain ⟨_, _, _, _, _, _, _, _, _, h1, h2, _⟩ := h; omega
  · exact h
theorem ru_list {P : Ru → Prop} : ∀ {rs : List D}, (∀ d, d ∈ rs → ∃ r, d = ruD r ∧ P r) → ∃ us : List Ru, rs = us.map ruD ∧ ∀ u, u ∈ us → P u
  | [], _ => ⟨[], rfl, fun _ h => nomatch h⟩
  | r :: rs, h => by
    obtain ⟨us, e, hu⟩ := ru_list fun d hd => h d (List.mem_cons_of_mem _ hd)
    obtain ⟨u, e1, p⟩ := h r (List.mem_cons_self ..)
    exact ⟨u :: us, by rw [e, e1]; rfl, fun x hx => (List.mem_cons.mp hx).elim (fun e => e ▸ p) (hu x)⟩
theorem cBound_e {count other : Int} {n : Nat} {R : D → Nat → Prop} : cBound [.pen, .int count, .int other] n R = (0 ≤ count ∧ 0 ≤ other ∧ n ≤ 800000000 ∧ ∀ b : Int, 0 ≤ b → b ≤ count → R (.int b) (n + 2)) := rfl
theorem cWorthL_e {m : Nat} {s : Sc} {xs : List Int} {n : Nat} {R : D → Nat → Prop} (ok : s.Ok xs.length) (d : s.deep < m) (h0 : 0 < xs.length) (h8 : xs.length ≤ 8) (hm : Ms 1000000000 xs) (h : R (.int (worthI s xs)) n) : cWorthL m [scD s, .tup (xs.map D.int)] n R := ⟨s, xs, rfl, rfl, ok, d, h0, h8, hm, h⟩
theorem cScale_e {m : Nat} {many deep : Int} {n : Nat} {R : D → Nat → Prop} : cScale m [.pen, .int many, .int deep] n R = (1 ≤ many ∧ many ≤ 8 ∧ 1 ≤ deep ∧ deep < m ∧ n + 10 * 2 ^ deep.toNat ≤ 900000000 ∧ ∀ (s : Sc) (n' : Nat), s.Ok many.toNat → s.deep ≤ deep.toNat → n' < n + 10 * 2 ^ deep.toNat → R (scD s) n') := rfl
theorem cShuf_e {xs : List D} {n : Nat} {R : D → Nat → Prop} : cShuf [.pen, .lst xs] n R = (xs.length ≤ 1000 ∧ n + xs.length ≤ 900000000 ∧ ∀ (ys : List D) (n' : Nat), ys.Perm xs → n' ≤ n + xs.length → R (.lst ys) n') := rfl
theorem cRule_e {m : Nat} {g r : List Int} {deep : Int} {n : Nat} {R : D → Nat → Prop} (lg : g.length = r.length) (g1 : 1 ≤ g.length) (g8 : g.length ≤ 8) (mg : Ms 1000000000 g) (mr : Ms 1000000000 r) (d1 : 1 ≤ deep) (dm : deep < m) (d4 : deep ≤ 4) (hb : n + 100 * 6 ^ deep.toNat ≤ 800000000) (h : ∀ (ru : Ru) (n' : Nat), ru.Fit g.length → ru.deep ≤ deep.toNat → keepsB ru g = true → n' ≤ n + 100 * 6 ^ deep.toNat → R (ruD ru) n') : cRule m [.pen, .tup (g.map D.int), .tup (r.map D.int), .int deep] n R := ⟨g, r, rfl, rfl, lg, g1, g8, mg, mr, d1, dm, d4, hb, h⟩
theorem atI_int {xs : List Int} {k : Nat} (h : k < xs.length) : atI (xs.map D.int) (k : Int) = some (.int (xs.getD k 0)) := by
  refine atI_nat ?_
  rw [List.getElem?_map, List.getElem?_eq_getElem h]
  simp [List.getD_eq_getElem?_getD, List.getElem?_eq_getElem h]
theorem six_le {d e : Nat} (he : e ≤ d) : 10 * 2 ^ e + 10 ≤ 100 * 6 ^ d := by
  have p : 2 ^ e ≤ 2 ^ d := Nat.pow_le_pow_right (by decide) he
  have q : 2 ^ d ≤ 6 ^ d := Nat.pow_le_pow_left (by decide) d
  have r : 1 ≤ 6 ^ d := Nat.one_le_pow _ _ (by decide)
  omega
theorem perm_map {us : List Ru} : ∀ {ys : List D}, ys.Perm (us.map ruD) → ∃ vs : List Ru, ys = vs.map ruD ∧ vs.Perm us := by
  intro ys h
  generalize e : us.map ruD = zs at h
  induction h generalizing us with
  | nil => cases us with
    | nil => exact ⟨[], rfl, .refl _⟩
    | cons u us => cases e
  | cons x _ ih => cases us with
    | nil => cases e
    | cons u us =>
      simp only [List.map_cons, List.cons.injEq] at e
      obtain ⟨vs, e1, p⟩ := ih e.2
      exact ⟨u :: vs, by rw [List.map_cons, e.1, e1], p.cons u⟩
  | swap x y l => 
    match us, e with
    | u :: v :: us, e =>
      simp only [List.map_cons, List.cons.injEq] at e
      exact ⟨v :: u :: us, by rw [List.map_cons, List.map_cons, e.1, e.2.1, e.2.2], .swap u v us⟩
  | trans _ _ ih1 ih2 =>
    obtain ⟨vs, e1, p1⟩ := ih2 e
    obtain ⟨ws, e2, p2⟩ := ih1 e1.symm
    exact ⟨ws, e2, p2.trans p1⟩


theorem keeps_all {rs : List Ru} {g : List Int} (h : ∀ r, r ∈ rs → keepsB r g = true) : keepsB (.all rs) g = true := by
  rw [keepsB, keepsAll_map, List.all_map, List.all_eq_true]; exact h
theorem keeps_any {rs : List Ru} {g : List Int} {r : Ru} (hr : r ∈ rs) (h : keepsB r g = true) : keepsB (.any rs) g = true := by
  rw [keepsB, keepsAll_map, List.any_map, List.any_eq_true]; exact ⟨r, hr, h⟩
theorem worth_75 {n : Nat} {xs : List Int} (hx : Ms 1000000000 xs) (hl : xs.length ≤ 8) (h0 : 0 < xs.length) {s : Sc} (h : s.Ok n) (hd : s.deep ≤ 4) : 0 ≤ worthI s xs ∧ worthI s xs ≤ 10 ^ 75 := by
  obtain ⟨a, b⟩ := worth_ms hx hl h0 s h
  refine ⟨a, Int.le_trans b ?_⟩
  have : (2 : Int) ^ s.deep ≤ 2 ^ 4 := by
    have := Nat.pow_le_pow_right (show 2 > 0 by decide) hd
    exact_mod_cast this
  have e : (10 : Int) ^ 72 * 2 ^ s.deep ≤ 10 ^ 72 * 2 ^ 4 := Int.mul_le_mul_of_nonneg_left this (by decide)
  exact Int.le_trans e (by decide)

theorem wp_law_rule {m : Nat} {ds : List D} {n : Nat} {R : D → Nat → Prop} (h : cRule (m + 1) ds n R) : (dSeq (dPar 4 5 false false (dCall cDraw (dCons (dVarC 0) (dCons (dOp ixD (dC (.lst [.int 3, .int 5])) (dB Gg.intOfD (dCons (dOp gtD (dVar 3) (dC (.int 1))) dNil))) dNil))) (dB lenD (dCons (dVar 1) dNil)))
    (dSeq (dIfS (dTest (dOp eqD (dVar 4) (dC (.int 0)))) (dSeq (dSet 6 (dCall cDraw (dCons (dVarC 0) (dCons (dVarC 5) dNil))))
    (dRet (dTup (dCons (dC (.str "size")) (dCons (dVarC 6) (dCons (dCall cBound (dCons (dVarC 0) (dCons (dOp ixD (dVar 1) (dVar 6)) (dCons (dOp ixD (dVar 2) (dVar 6)) dNil)))) dNil)))))) dNext)
    (dSeq (dIfS (dTest (dOp ltD (dVar 4) (dC (.int 3)))) (dSeq (dSet 7 (dCall (cScale 5) (dCons (dVarC 0) (dCons (dVarC 5) (dCons (dOp addD (dC (.int 1)) (dCall cDraw (dCons (dVarC 0) (dCons (dVarC 3) dNil)))) dNil)))))
    (dRet (dTup (dCons (dC (.str "worth")) (dCons (dVarC 7) (dCons (dCall cBound (dCons (dVarC 0) (dCons (dCall (cWorthL 6) (dCons (dVarC 7) (dCons (dVarC 1) dNil))) (dCons (dCall (cWorthL 6) (dCons (dVarC 7) (dCons (dVarC 2) dNil))) dNil)))) dNil)))))) dNext)
    (dSeq (dSet 8 (dLc (dRng1 (dCons (dCall cDraw (dCons (dVarC 0) (dCons (dOp ixD (dC (.lst [.int 3, .int 5])) (dB Gg.intOfD (dCons (dOp gtD (dVar 3) (dC (.int 3))) dNil))) dNil))) dNil)) (dgName 9) dYes (dCall (cRule m) (dCons (dVarC 0) (dCons (dVarC 1) (dCons (dVarC 2) (dCons (dOp subD (dVar 3) (dC (.int 1))) dNil))))) [9]))
    (dSeq (dIfS (dTest (dOp eqD (dVar 4) (dC (.int 3)))) (dRet (dOp addD (dC (.tup [.str "all"])) (dB tupleD (dCons (dVar 8) dNil)))) dNext)
    (dSeq (dSet 10 (dTup (dCons (dC (.str "size")) (dCons (dCall cDraw (dCons (dVarC 0) (dCons (dVarC 5) dNil))) (dCons (dC (.int 1000000000)) dNil)))))
    (dRet (dOp addD (dC (.tup [.str "any"])) (dB tupleD (dCons (dCall cShuf (dCons (dVarC 0) (dCons (dOp addD (dSl (dVar 8) dNoPart (dPart (dC (.int 2)))) (dLst (dCons (dCall (cRule m) (dCons (dVarC 0) (dCons (dVarC 1) (dCons (dVarC 2) (dCons (dOp subD (dVar 3) (dC (.int 1))) dNil))))) (dCons (dVarC 10) dNil)))) dNil))) dNil)))))))))) (ends R) (startN 11 ds) n := by
  unfold cRule at h
  split at h
  case h_2 => exact h.elim
  next a b deep =>
  obtain ⟨g, r, rfl, rfl, lg, g1, g8, mg, mr, d1, dm, d4, hb, h⟩ := h
  have six : 6 ^ deep.toNat = 6 * 6 ^ (deep - 1).toNat := by rw [show deep.toNat = (deep - 1).toNat + 1 by omega, Nat.pow_succ]; omega
  have six1 : 1 ≤ 6 ^ (deep - 1).toNat := Nat.one_le_pow _ _ (by decide)
  have dd : (deep - 1).toNat = deep.toNat - 1 := by omega
  (get_elem_tactic_trivial; repeat (dsimp only [cBound_e, cScale_e, cShuf_e]; get_elem_tactic_trivial))
  refine ⟨by split <;> omega, by split <;> omega, by omega, fun way w0 w1 => ?_⟩
  split
  · refine ⟨by omega, by omega, by omega, fun p p0 p1 => ?_⟩
    obtain ⟨k, rfl⟩ := Int.eq_ofNat_of_zero_le p0
    have hk : k < g.length := by omega
    obtain ⟨u0, u1⟩ := ms_getD mg hk
    obtain ⟨v0, v1⟩ := ms_getD mr (k := k) (by omega)
    refine ⟨_, atI_int hk, _, atI_int (by omega), u0, v0, by omega, fun b b0 b1 => ?_⟩
    refine h (.size k b) _ ⟨hk, b0, by omega⟩ (by rw [Ru.deep]; omega) ?_ (by omega)
    rw [keepsB]; exact decide_eq_true b1
  next way1 =>
  split
  · refine ⟨by omega, by omega, by omega, fun e e0 e1 => ⟨by omega, by omega, by omega, by omega, ?_, fun s n' so sd sn => ?_⟩⟩
    · have := six_le (d := deep.toNat) (e := (1 + e).toNat) (by omega); omega
    have sx := six_le (d := deep.toNat) (e := (1 + e).toNat) (by omega)
    rw [Int.toNat_natCast] at so
    have w1 := worth_75 mg g8 (by omega) so (by omega)
    have w2 := worth_75 mr (by omega) (by omega) so (by omega)
    refine cWorthL_e so (by omega) (by omega) g8 mg (cWorthL_e (by rw [← lg]; exact so) (by omega) (by omega) (by omega) mr ?_)
    rw [cBound_e]
    refine ⟨w1.1, w2.1, by omega, fun b b0 b1 => ?_⟩
    refine h (.worth s b) _ ⟨so, by omega, b0, Int.le_trans b1 w1.2⟩ (by rw [Ru.deep]; omega) ?_ (by omega)
    rw [keepsB]; exact decide_eq_true b1
  next way3 =>
  have deep1 : 1 < deep := by
    by_cases z : 1 < deep
    · exact z
    · rw [if_neg z] at w1; omega
  refine ⟨by split <;> omega, by split <;> omega, by omega, fun q q0 q1 => ?_⟩
  have q5 : q < 5 := by split at q1 <;> omega
  refine ⟨by omega, by omega, by rw [rangeL_len]; omega, lc_dr (fun d => ∃ u, d = ruD u ∧ u.Fit g.length ∧ u.deep ≤ deep.toNat - 1 ∧ keepsB u g = true) (100 * 6 ^ (deep - 1).toNat) (fun d hd n2 S b2 k => ?_) fun rs n2 hl hp n1 => ?_⟩
  · rw [rangeL_len] at b2
    have : (100 * 6 ^ (deep - 1).toNat) * q.toNat ≤ (100 * 6 ^ (deep - 1).toNat) * 4 := Nat.mul_le_mul_left _ (by omega)
    get_elem_tactic_trivial
    refine cRule_e lg g1 g8 mg mr (by omega) (by omega) (by omega) (by omega) fun u n3 f1 f2 f3 f5 => k _ _ ⟨u, rfl, f1, by omega, f3⟩ f5
  rw [rangeL_len] at hl n1
  have q4 : q.toNat ≤ 4 := by omega
  have n1' : (100 * 6 ^ (deep - 1).toNat) * q.toNat ≤ (100 * 6 ^ (deep - 1).toNat) * 4 := Nat.mul_le_mul_left _ (by omega)
  obtain ⟨us, rfl, hu⟩ := ru_list hp
  rw [List.length_map] at hl
  split
  · (get_elem_tactic_trivial; repeat (dsimp only [List.map_cons]; get_elem_tactic_trivial))
    refine ⟨by omega, ?_⟩
    have e := h (.all us) n2 ⟨by omega, fitAll_iff.mpr fun u hu' => (hu u hu').1⟩ (by rw [Ru.deep]; have := deepAll_le.mpr fun u hu' => (hu u hu').2.1; omega) (keeps_all fun u hu' => (hu u hu').2.2) (by omega)
    rw [ruD, ruDs_map] at e
    exact e
  refine ⟨by omega, by omega, by omega, fun p p0 p1 => ?_⟩
  obtain ⟨k, rfl⟩ := Int.eq_ofNat_of_zero_le p0
  get_elem_tactic_trivial
  refine cRule_e lg g1 g8 mg mr (by omega) (by omega) (by omega) (by omega) fun u n3 f1 f2 f3 f5 => ?_
  (get_elem_tactic_trivial; repeat (dsimp only [cShuf_e]; get_elem_tactic_trivial))
  rw [cutL_to _ (by decide), ← List.map_take]
  have e : (us.take (2 : Int).toNat).map ruD ++ [ruD u, .tup [.str "size", .int (k : Int), .int 1000000000]] = (us.take 2 ++ [u, .size k 1000000000]).map ruD := by
    rw [List.map_append]; rfl
  have l2 : (us.take 2).length ≤ 2 := by rw [List.length_take]; omega
  have l2' : (us.take (2 : Int).toNat).length ≤ 2 := l2
  rw [e, List.length_map]
  refine ⟨by omega, by simp; omega, by simp; omega, fun ys n4 pm hn4 => ?_⟩
  obtain ⟨vs, rfl, pv⟩ := perm_map pm
  have lv := pv.length_eq
  simp only [List.length_append, List.length_cons, List.length_nil, List.length_map] at lv hn4
  get_elem_tactic_trivial
  refine ⟨by omega, ?_⟩
  have hin : ∀ x, x ∈ vs → x.Fit g.length ∧ x.deep ≤ deep.toNat - 1 := fun x hx => by
    rcases List.mem_append.mp (pv.mem_iff.mp hx) with z | z
    · have := hu x (List.mem_of_mem_take z); exact ⟨this.1, this.2.1⟩
    · simp only [List.mem_cons, List.not_mem_nil, or_false] at z
      rcases z with rfl | rfl
      · exact ⟨f1, by omega⟩
      · exact ⟨⟨by omega, by decide, by decide⟩, by rw [Ru.deep]; omega⟩
  have e := h (.any vs) n4 ⟨by omega, fitAll_iff.mpr fun x hx => (hin x hx).1⟩ (by rw [Ru.deep]; have := deepAll_le.mpr fun x hx => (hin x hx).2; omega) (keeps_any (r := u) (pv.mem_iff.mpr (by simp)) f3) (by omega)
  rw [ruD, ruDs_map] at e
  exact e

end Gg

namespace Gg
open PySem PySem.Spec PyProof.Rows L2
structure Wb (n w : Nat) (d : D) : Prop where
  pl : plain d = true
  bd : Bd 300 n w (toP d)
structure Wbs (n w : Nat) (ds : List D) : Prop where
  pl : plains ds = true
  bd : Bds 300 n w (toPs ds)
section
variable {n m w v : Nat} {d : D} {ds es : List D}
theorem Wb.mono (h : Wb n w d) (a : n ≤ m) (b : w ≤ v) : Wb m v d := ⟨h.pl, h.bd.mono a b⟩
theorem Wbs.mono (h : Wbs n w ds) (a : n ≤ m) (b : w ≤ v) : Wbs m v ds := ⟨h.pl, h.bd.mono a b⟩
theorem Wbs.nil : Wbs n w [] := ⟨rfl, Bds.nil⟩
theorem Wbs.cons (h : Wb n w d) (k : Wbs n v ds) : Wbs n (w + 2 + v) (d :: ds) := ⟨by rw [plains, h.pl, k.pl]; rfl, by rw [toPs]; exact Bds.cons h.bd k.bd⟩
theorem plains_app : ∀ {ds es : List D}, plains ds = true → plains es = true → plains (ds ++ es) = true
  | [], _, _, h => h
  | d :: ds, es, h, k => by
    rw [plains, Bool.and_eq_true] at h
    rw [List.cons_append, plains, h.1, plains_app h.2 k]; rfl
theorem toPs_app : ∀ ds es : List D, toPs (ds ++ es) = toPs ds ++ toPs es
  | [], _ => rfl
  | d :: ds, es => by rw [List.cons_append, toPs, toPs, toPs_app ds es]; rfl
theorem Wbs.app (h : Wbs n w ds) (k : Wbs n v es) : Wbs n (w + v) (ds ++ es) := ⟨plains_app h.pl k.pl, by rw [toPs_app]; exact h.bd.app k.bd⟩
theorem Wb.tupS (h : Wbs n w ds) : Wb (n + 1) (w + 3) (.tup ds) := ⟨by rw [Gg.plain]; exact h.pl, by rw [toP]; exact Bd.tup h.bd⟩
theorem Wb.lstS (h : Wbs n w ds) : Wb (n + 1) (w + 3) (.lst ds) := ⟨by rw [Gg.plain]; exact h.pl, by rw [toP]; exact Bd.lst h.bd⟩
theorem Wbs.of : ∀ {ds : List D}, (∀ d, d ∈ ds → Wb n w d) → Wbs n (ds.length * (w + 2)) ds
  | [], _ => Wbs.nil
  | d :: ds, h => (Wbs.cons (h d (List.mem_cons_self ..)) (Wbs.of fun x hx => h x (List.mem_cons_of_mem _ hx))).mono (Nat.le_refl _) (by rw [List.length_cons, Nat.add_mul]; omega)
theorem Wb.tup (h : ∀ d, d ∈ ds → Wb n w d) : Wb (n + 1) (ds.length * (w + 2) + 3) (.tup ds) := Wb.tupS (Wbs.of h)
theorem Wb.lst (h : ∀ d, d ∈ ds → Wb n w d) : Wb (n + 1) (ds.length * (w + 2) + 3) (.lst ds) := Wb.lstS (Wbs.of h)
theorem Wb.str {s : Str} (h : PyData.strOk s = true) (l : 10 * s.length + 2 ≤ w) : Wb n w (.str s) := ⟨rfl, Bd.str h l⟩
theorem Wb.int {i : Int} (e : Nat) (h : i.natAbs < 2 ^ e) (he : e ≤ 290) (hw : e + 2 ≤ w) : Wb n w (.int i) := by
  refine ⟨rfl, ?_⟩
  rw [toP]
  have l : i.natAbs.log2 < e + 1 := by
    by_cases z : i.natAbs = 0
    · rw [z]; exact Nat.succ_pos _
    · exact (Nat.log2_lt z).mpr (by rw [Nat.pow_succ]; omega)
  exact Bd.int (by omega) (by omega)
theorem Wb.int0 {i : Int} {m : Nat} (e : Nat) (h0 : 0 ≤ i) (h : i ≤ m) (hm : m < 2 ^ e) (he : e ≤ 290) (hw : e + 2 ≤ w) : Wb n w (.int i) := Wb.int e (by omega) he hw
theorem Wb.non : Wb n 100 .non := ⟨rfl, Bd.non (by decide)⟩
theorem Wb.bl (b : Bool) : Wb n 100 (.bl b) := ⟨rfl, Bd.bool (by decide)⟩
theorem Wb.repr {R : D → Prop} (h : Wb n w d) (hn : n ≤ 60) (hw : w ≤ 10000000) (r : R (.str (toP d).shown)) : reprD [d] R := by
  obtain ⟨a, b, c⟩ := h.bd.shown hn hw
  exact ⟨h.pl, a, b, c, r⟩
end
end Gg

namespace Gg
open PySem PySem.Spec PyProof.Rows L2
local macro_rules | `(tactic| get_elem_tactic_trivial) => `(tactic| ((try simp only [Gg.ixD_0, Gg.ixD_1, Gg.ixD_2, Gg.atI_z0, Gg.atI_z1, Gg.atI_z2, Gg.atI_if2, Gg.ite_int, Gg.some_ex, decide_eq_true_eq, List.length_map, List.map_append, Nat.reduceLeDiff, Nat.reduceLT, Int.cast_ofNat_Int, Int.reduceLT, Int.reduceLE, true_and, and_true, ne_eq, reduceCtorEq, not_false_eq_true, Bool.false_eq_true, Bool.true_eq_false, if_true, if_false, ite_true, ite_false, decide_true, decide_false, Gg.isi_non_int, Gg.isi_non_bool, Gg.isi_non_str, Gg.isi_non_tuple, Gg.isi_non_list, Gg.isi_non_dict, Gg.isi_non_tuple_list, Gg.isi_non_list_tuple, Gg.isi_bl_int, Gg.isi_bl_bool, Gg.isi_bl_str, Gg.isi_bl_tuple, Gg.isi_bl_list, Gg.isi_bl_dict, Gg.isi_bl_tuple_list, Gg.isi_bl_list_tuple, Gg.isi_int_int, Gg.isi_int_bool, Gg.isi_int_str, Gg.isi_int_tuple, Gg.isi_int_list, Gg.isi_int_dict, Gg.isi_int_tuple_list, Gg.isi_int_list_tuple, Gg.isi_str_int, Gg.isi_str_bool, Gg.isi_str_str, Gg.isi_str_tuple, Gg.isi_str_list, Gg.isi_str_dict, Gg.isi_str_tuple_list, Gg.isi_str_list_tuple, Gg.isi_tup_int, Gg.isi_tup_bool, Gg.isi_tup_str, Gg.isi_tup_tuple, Gg.isi_tup_list, Gg.isi_tup_dict, Gg.isi_tup_tuple_list, Gg.isi_tup_list_tuple, Gg.isi_lst_int, Gg.isi_lst_bool, Gg.isi_lst_str, Gg.isi_lst_tuple, Gg.isi_lst_list, Gg.isi_lst_dict, Gg.isi_lst_tuple_list, Gg.isi_lst_list_tuple, Gg.isi_emp_int, Gg.isi_emp_bool, Gg.isi_emp_str, Gg.isi_emp_tuple, Gg.isi_emp_list, Gg.isi_emp_dict, Gg.isi_emp_tuple_list, Gg.isi_emp_list_tuple]); (repeat (dsimp only [Gg.dSeq, Gg.dSet, Gg.dOwn, Gg.dVar, Gg.dVarC, Gg.dC, Gg.dOp, Gg.dTest, Gg.dChain, Gg.dAndT, Gg.dOrT, Gg.dNotT, Gg.dAndV, Gg.dOrV, Gg.dNotV, Gg.dIf, Gg.dIfS, Gg.dRet, Gg.dRetN, Gg.dNext, Gg.dDrop, Gg.dAppend, Gg.dSetIx, Gg.dFrz, Gg.dPar, Gg.dB, Gg.dCall, Gg.dCons, Gg.dNil, Gg.dTup, Gg.dLst, Gg.dLc, Gg.dYes, Gg.dSeqI, Gg.dRng1, Gg.dRng2, Gg.dZip, Gg.dEnumT, Gg.dFor, Gg.dAsg, Gg.dgName, Gg.dgTup, Gg.dgCons, Gg.dgNil, Gg.dTruth, Gg.dNeg, Gg.dNoPart, Gg.dPart, Gg.dSl, Gg.dRv, Gg.dAug, Gg.dBreak, Gg.dCont, Gg.dNever, Gg.wipeS, Gg.startN, Gg.ends, Gg.rl_mapc, Gg.rl_mapn, Gg.rl_appc, Gg.rl_appn, Gg.rl_get0, Gg.rl_gets, Gg.rl_set0, Gg.rl_sets, Gg.rl_lenc, Gg.rl_lenn, Gg.rl_rep0, Gg.rl_reps, Nat.reduceAdd, Nat.reduceSub, Gg.dFld, Gg.dMeth, Gg.dM1, Gg.iNil, Gg.iDrop, Gg.iSet, Gg.iFld, Gg.iIf, Gg.startI, Gg.dNo, Gg.joinD_l, Gg.addD_i, Gg.addD_s, Gg.addD_t, Gg.addD_l, Gg.addD_bi, Gg.addD_ib, Gg.subD_i, Gg.mulD_i, Gg.mulD_t, Gg.mulD_l, Gg.modD_i, Gg.fdivD_i, Gg.powD_i, Gg.ltD_i, Gg.leD_i, Gg.gtD_i, Gg.geD_i, Gg.isND_non, Gg.notND_non, Gg.truD_non, Gg.isND_bl, Gg.notND_bl, Gg.truD_bl, Gg.isND_int, Gg.notND_int, Gg.truD_int, Gg.isND_str, Gg.notND_str, Gg.isND_tup, Gg.notND_tup, Gg.truD_tup, Gg.isND_lst, Gg.notND_lst, Gg.truD_lst, Gg.isND_obj, Gg.notND_obj, Gg.truD_str, Gg.slD_t, Gg.slD_l, Gg.slD_s, Gg.rvD_t, Gg.rvD_l, Gg.ixD_t, Gg.ixD_l, Gg.ixD_s, Gg.lenD_l, Gg.lenD_t, Gg.lenD_s, Gg.absD_i, Gg.intOfD_i, Gg.intOfD_b, Gg.tupleD_l, Gg.tupleD_t, Gg.listD_l, Gg.listD_t, Gg.sumD_l, Gg.allD_l, Gg.anyD_l, Gg.catLD_l, Gg.strD_i, Gg.seqQ_l, Gg.seqQ_t, Gg.seqQ_s, Gg.negQ_i, Gg.inQ_s, Gg.inD_ss, Gg.isS_s, Gg.min2D_j, Gg.max2D_j, Gg.cDraw_i, Gg.eqD_int, Gg.neD_int, Gg.eqD_bl, Gg.neD_bl, Gg.eqD_ss, Gg.neD_ss, Gg.eqD_ln, Gg.neD_ln, Gg.eqD_tn, Gg.neD_tn, Int.reduceAdd, Int.reduceSub, Int.reduceMul, Int.reducePow, Int.reduceToNat, Bool.not_true, Bool.not_false]; (try simp only [Gg.ixD_0, Gg.ixD_1, Gg.ixD_2, Gg.atI_z0, Gg.atI_z1, Gg.atI_z2, Gg.atI_if2, Gg.ite_int, Gg.some_ex, decide_eq_true_eq, List.length_map, List.map_append, Nat.reduceLeDiff, Nat.reduceLT, Int.cast_ofNat_Int, Int.reduceLT, Int.reduceLE, true_and, and_true, ne_eq, reduceCtorEq, not_false_eq_true, Bool.false_eq_true, Bool.true_eq_false, if_true, if_false, ite_true, ite_false, decide_true, decide_false, Gg.isi_non_int, Gg.isi_non_bool, Gg.isi_non_str, Gg.isi_non_tuple, Gg.isi_non_list, Gg.isi_non_dict, Gg.isi_non_tuple_list, Gg.isi_non_list_tuple, Gg.isi_bl_int, Gg.isi_bl_bool, Gg.isi_bl_str, Gg.isi_bl_tuple, Gg.isi_bl_list, Gg.isi_bl_dict, Gg.isi_bl_tuple_list, Gg.isi_bl_list_tuple, Gg.isi_int_int, Gg.isi_int_bool, Gg.isi_int_str, Gg.isi_int_tuple, Gg.isi_int_list, Gg.isi_int_dict, Gg.isi_int_tuple_list, Gg.isi_int_list_tuple, Gg.isi_str_int, Gg.isi_str_bool, Gg.isi_str_str, Gg.isi_str_tuple, Gg.isi_str_list, Gg.isi_str_dict, Gg.isi_str_tuple_list, Gg.isi_str_list_tuple, Gg.isi_tup_int, Gg.isi_tup_bool, Gg.isi_tup_str, Gg.isi_tup_tuple, Gg.isi_tup_list, Gg.isi_tup_dict, Gg.isi_tup_tuple_list, Gg.isi_tup_list_tuple, Gg.isi_lst_int, Gg.isi_lst_bool, Gg.isi_lst_str, Gg.isi_lst_tuple, Gg.isi_lst_list, Gg.isi_lst_dict, Gg.isi_lst_tuple_list, Gg.isi_lst_list_tuple, Gg.isi_emp_int, Gg.isi_emp_bool, Gg.isi_emp_str, Gg.isi_emp_tuple, Gg.isi_emp_list, Gg.isi_emp_dict, Gg.isi_emp_tuple_list, Gg.isi_emp_list_tuple])))))


theorem wb_wts {ws : List Int} (h : Ms 1000 ws) (hl : ws.length ≤ 8) : Wb 1 115 (tI ws) := by
  have := Wbs.of (n := 0) (w := 12) (ds := ws.map D.int) fun d hd => by
    obtain ⟨i, hi, rfl⟩ := List.mem_map.mp hd
    exact Wb.int0 (m := 1000) 10 (h i hi).1 (h i hi).2 (by decide) (by decide) (by decide)
  rw [List.length_map] at this
  exact (Wb.tupS this).mono (by omega) (by omega)
theorem wb_wd {x : Str} (h : PyData.strOk x = true) (l : x.length ≤ 7) (n : Nat) : Wb n 72 (.str x) := Wb.str h (by omega)
theorem wb_sc {n : Nat} (hn : n ≤ 8) : ∀ s : Sc, s.Ok n → Wb (s.deep + 1) (145 * 2 ^ s.deep - 90) (scD s)
  | .sum ws, h => (Wb.tupS (Wbs.cons (wb_wd (x := "sum") (by decide +kernel) (by decide) 1) (Wbs.cons (wb_wts h.2 (by rw [h.1]; exact hn)) (Wbs.nil (w := 0))))).mono (by show 1 + 1 ≤ 2; omega) (by show _ ≤ 145 * 2 ^ 1 - 90; omega)
  | .times, _ => ⟨by decide +kernel, by decide +kernel, by decide +kernel, by decide +kernel⟩
  | .low, _ => ⟨by decide +kernel, by decide +kernel, by decide +kernel, by decide +kernel⟩
  | .high, _ => ⟨by decide +kernel, by decide +kernel, by decide +kernel, by decide +kernel⟩
  | .two t a b, h => by
    have ia := wb_sc hn a h.1
    have ib := wb_sc hn b h.2
    obtain ⟨t1, t2⟩ := t.fine
    have e1 : 2 ^ a.deep ≤ 2 ^ max a.deep b.deep := Nat.pow_le_pow_right (by decide) (Nat.le_max_left _ _)
    have e2 : 2 ^ b.deep ≤ 2 ^ max a.deep b.deep := Nat.pow_le_pow_right (by decide) (Nat.le_max_right _ _)
    have p1 : 1 ≤ 2 ^ a.deep := Nat.one_le_two_pow
    have p2 : 1 ≤ 2 ^ b.deep := Nat.one_le_two_pow
    refine (Wb.tupS (Wbs.cons (wb_wd t1 t2 (max a.deep b.deep + 1)) (Wbs.cons (ia.mono (by omega) (Nat.le_refl _)) (Wbs.cons (ib.mono (by omega) (Nat.le_refl _)) (Wbs.nil (w := 0)))))).mono (by rw [Sc.deep]; omega) ?_
    rw [Sc.deep, Nat.pow_succ]
    omega
theorem wb_sc4 {n : Nat} (hn : n ≤ 8) {s : Sc} (h : s.Ok n) (hd : s.deep ≤ 4) : Wb 5 2230 (scD s) := (wb_sc hn s h).mono (by omega) (by
  have : 2 ^ s.deep ≤ 2 ^ 4 := Nat.pow_le_pow_right (by decide) hd
  omega)
/-- how wide a rule is -/
def Wr : Nat → Nat
  | 0 => 2670
  | k + 1 => 4 * (Wr k + 2) + 80
theorem wr_mono {a b : Nat} (h : a ≤ b) : Wr a ≤ Wr b := by
  induction b with
  | zero => rw [Nat.le_zero.mp h]; exact Nat.le_refl _
  | succ b ih =>
    by_cases z : a = b + 1
    · rw [z]; exact Nat.le_refl _
    · have := ih (by omega); rw [Wr]; omega
theorem wr_all {rs : List Ru} (h : rs.length ≤ 4) : 72 + 2 + rs.length * (Wr (deepAll rs - 1) + 2) + 3 ≤ Wr (deepAll rs + 1 - 1) := by
  rw [Nat.add_sub_cancel]
  cases rs with
  | nil => rw [List.length_nil, Nat.zero_mul, deepAll]; decide
  | cons r rs =>
    have := r.deep_pos
    have e : deepAll (r :: rs) = (deepAll (r :: rs) - 1) + 1 := by rw [deepAll]; omega
    have m := Nat.mul_le_mul_right (Wr (deepAll (r :: rs) - 1) + 2) h
    rw [e, Wr, Nat.add_sub_cancel]
    omega
mutual
theorem wb_ru {n : Nat} (hn : n ≤ 8) : ∀ r : Ru, r.Fit n → Wb (r.deep + 5) (Wr (r.deep - 1)) (ruD r)
  | .size k m, h => by
    rw [Ru.Fit] at h
    rw [ruD, Ru.deep]
    exact (Wb.tupS (Wbs.cons (wb_wd (x := "size") (by decide +kernel) (by decide) 1) (Wbs.cons (Wb.int0 (m := 7) (w := 10) 3 (by omega) (by omega) (by decide) (by decide) (by decide)) (Wbs.cons (Wb.int0 (m := 1000000000) (w := 32) 30 h.2.1 h.2.2 (by decide) (by decide) (by decide)) (Wbs.nil (w := 0)))))).mono (by omega) (by show _ ≤ 2670; omega)
  | .worth s m, h => by
    rw [Ru.Fit] at h
    rw [ruD, Ru.deep]
    exact (Wb.tupS (Wbs.cons (wb_wd (x := "worth") (by decide +kernel) (by decide) 5) (Wbs.cons (wb_sc4 hn h.1 h.2.1) (Wbs.cons (Wb.int0 (m := 10 ^ 75) (w := 252) 250 h.2.2.1 (by exact_mod_cast h.2.2.2) (by decide) (by decide) (by decide)) (Wbs.nil (w := 0)))))).mono (by omega) (by show _ ≤ 2670; omega)
  | .all rs, h => by
    rw [Ru.Fit] at h
    have i := wb_rus hn rs h.2
    rw [ruD, Ru.deep]
    exact (Wb.tupS (Wbs.cons (wb_wd (x := "all") (by decide +kernel) (by decide) _) i)).mono (by omega) (wr_all h.1)
  | .any rs, h => by
    rw [Ru.Fit] at h
    have i := wb_rus hn rs h.2
    rw [ruD, Ru.deep]
    exact (Wb.tupS (Wbs.cons (wb_wd (x := "any") (by decide +kernel) (by decide) _) i)).mono (by omega) (wr_all h.1)
theorem wb_rus {n : Nat} (hn : n ≤ 8) : ∀ rs : List Ru, FitAll n rs → Wbs (deepAll rs + 5) (rs.length * (Wr (deepAll rs - 1) + 2)) (ruDs rs)
  | [], _ => by rw [ruDs]; exact Wbs.nil
  | r :: rs, h => by
    rw [FitAll] at h
    have a := wb_ru hn r h.1
    have b := wb_rus hn rs h.2
    have m1 : Wr (r.deep - 1) ≤ Wr (deepAll (r :: rs) - 1) := wr_mono (by rw [deepAll]; omega)
    have m2 : Wr (deepAll rs - 1) ≤ Wr (deepAll (r :: rs) - 1) := wr_mono (by rw [deepAll]; omega)
    have m3 : rs.length * (Wr (deepAll rs - 1) + 2) ≤ rs.length * (Wr (deepAll (r :: rs) - 1) + 2) := Nat.mul_le_mul_left _ (by omega)
    rw [ruDs]
    refine (Wbs.cons (a.mono (m := deepAll (r :: rs) + 5) (by rw [deepAll]; omega) m1) (b.mono (by rw [deepAll]; omega) m3)).mono (Nat.le_refl _) ?_
    rw [List.length_cons, Nat.succ_mul]; omega
end


theorem wb_ru4 {n : Nat} (hn : n ≤ 8) {r : Ru} (h : r.Fit n) (hd : r.deep ≤ 4) : Wb 9 173000 (ruD r) := (wb_ru hn r h).mono (by omega) (Nat.le_trans (wr_mono (b := 3) (by omega)) (by decide))
def cEdge : DC := fun ds n R => match ds with
  | [.pen, .int count] => 1 ≤ count ∧ count ≤ 8 ∧ n ≤ 800000000 ∧ ∀ (d : D) (n' : Nat), Wb 7 2900 d → n' ≤ n + 200 → R d n'
  | _ => False
theorem cEdge_e {count : Int} {n : Nat} {R : D → Nat → Prop} : cEdge [.pen, .int count] n R = (1 ≤ count ∧ count ≤ 8 ∧ n ≤ 800000000 ∧ ∀ (d : D) (n' : Nat), Wb 7 2900 d → n' ≤ n + 200 → R d n') := rfl

theorem cPick_s {z : Str} {n : Nat} {R : D → Nat → Prop} : cPick [.pen, .str z] n R = (0 < z.length ∧ z.length ≤ 1000000 ∧ n ≤ 900000000 ∧ ∀ c, c ∈ z.cps.toList → R (.str ⟨#[c]⟩) (n + 1)) := rfl
theorem cFar_e {u : Int} {n : Nat} {R : D → Nat → Prop} : cFar [.pen, .int u] n R = (100 ≤ u ∧ n ≤ 900000000 ∧ ∀ d : Int, 0 ≤ d → d ≤ u → R (.int d) (n + 3)) := rfl
theorem wb_size {k m : Int} (k0 : -1 ≤ k) (k8 : k ≤ 8) (m0 : 0 ≤ m) (m1 : m ≤ 2000000000) : Wb 7 2900 (.tup [.str "size", .int k, .int m]) :=
  (Wb.tupS (Wbs.cons (wb_wd (x := "size") (by decide +kernel) (by decide) 1) (Wbs.cons (Wb.int (w := 10) 4 (by show _ < 16; omega) (by decide) (by decide)) (Wbs.cons (Wb.int (w := 34) 32 (by show _ < 4294967296; omega) (by decide) (by decide)) (Wbs.nil (w := 0)))))).mono (by omega) (by omega)
theorem lt_253 {m : Int} (m0 : 0 ≤ m) (m1 : m ≤ 10 ^ 75 + 1) : m.natAbs < 2 ^ 253 := by
  have : (2 : Nat) ^ 253 > 10 ^ 75 + 1 := by decide
  omega
theorem wb_worth {d : D} {m : Int} (h : Wb 6 2400 d) (m0 : 0 ≤ m) (m1 : m ≤ 10 ^ 75 + 1) : Wb 7 2900 (.tup [.str "worth", d, .int m]) :=
  (Wb.tupS (Wbs.cons (wb_wd (x := "worth") (by decide +kernel) (by decide) 6) (Wbs.cons h (Wbs.cons (Wb.int (w := 255) 253 (lt_253 m0 m1) (by decide) (by decide)) (Wbs.nil (w := 0)))))).mono (by omega) (by omega)

theorem wp_law_edge {ds : List D} {n : Nat} {R : D → Nat → Prop} (h : cEdge ds n R) : (dSeq (dSet 2 (dCall cPick (dCons (dVarC 0) (dCons (dLst (dCons (dC (.int 0)) (dCons (dOp subD (dVar 1) (dC (.int 1))) (dCons (dVarC 1) (dCons (dC (.int (-1))) dNil))))) dNil))))
    (dSeq (dSet 3 (dCall (cScale 5) (dCons (dVarC 0) (dCons (dVarC 1) (dCons (dC (.int 4)) dNil)))))
    (dSeq (dSet 4 (dLst (dCons (dTup (dCons (dC (.str "size")) (dCons (dVarC 2) (dCons (dCall cFar (dCons (dVarC 0) (dCons (dC (.int 1000000000)) dNil))) dNil)))) (dCons (dTup (dCons (dC (.str "size")) (dCons (dC (.int 0)) (dCons (dOp addD (dC (.int 1000000000)) (dCall cDraw (dCons (dVarC 0) (dCons (dC (.int 2)) dNil)))) dNil)))) dNil))))
    (dSeq (dOwn 4 (dOp catLD (dVar 4) (dLst (dCons (dTup (dCons (dC (.str "worth")) (dCons (dVarC 3) (dCons (dC (.int 1000000000000000000000000000000000000000000000000000000000000000000000000000)) dNil)))) (dCons (dTup (dCons (dC (.str "worth")) (dCons (dVarC 3) (dCons (dC (.int 1000000000000000000000000000000000000000000000000000000000000000000000000001)) dNil)))) (dCons (dC (.tup [.str "all"])) (dCons (dC (.tup [.str "any"])) dNil)))))))
    (dSeq (dAppend 4 (dTup (dCons (dC (.str "worth")) (dCons (dTup (dCons (dC (.str "add")) (dCons (dVarC 3) (dCons (dC (.tup [.str "low"])) dNil)))) (dCons (dC (.int 0)) dNil)))))
    (dFrz 4 (dRet (dCall cPick (dCons (dVarC 0) (dCons (dOp addD (dVar 4) (dLst (dCons (dC (.tup [.str "size", .int 0, .int 0])) (dCons (dTup (dCons (dC (.str "size")) (dCons (dOp subD (dVar 1) (dC (.int 1))) (dCons (dC (.int 1)) dNil)))) (dCons (dTup (dCons (dC (.str "worth")) (dCons (dVarC 3) (dCons (dC (.int 0)) dNil)))) dNil))))) dNil)))))))))) (ends R) (startN 5 ds) n := by
  unfold cEdge at h
  split at h
  case h_2 => exact h.elim
  next count =>
  obtain ⟨c1, c8, hb, h⟩ := h
  (get_elem_tactic_trivial; repeat (dsimp only [cPick_l, cFar_e, cScale_e]; get_elem_tactic_trivial))
  refine ⟨by omega, fun p hp => ⟨by omega, by omega, by omega, fun s n1 so sd sn => ?_⟩⟩
  have sn1 : n1 < n + 1 + 160 := sn
  have sd1 : s.deep ≤ 4 := sd
  obtain ⟨k, rfl, k0, k8⟩ : ∃ k : Int, p = .int k ∧ -1 ≤ k ∧ k ≤ 8 := by
    simp only [List.mem_cons, List.not_mem_nil, or_false] at hp
    rcases hp with rfl | rfl | rfl | rfl <;> exact ⟨_, rfl, by omega, by omega⟩
  have ws := wb_sc4 (by omega) so sd1
  refine ⟨by omega, fun f f0 f1 => ⟨by omega, fun e e0 e1 => ⟨by omega, fun d hd => h d _ ?_ (by omega)⟩⟩⟩
  simp only [List.mem_append, List.mem_cons, List.not_mem_nil, or_false] at hd
  have w1 : Wb 6 2400 (scD s) := ws.mono (by omega) (by omega)
  have w2 : Wb 6 2400 (.tup [.str "add", scD s, .tup [.str "low"]]) := (Wb.tupS (Wbs.cons (wb_wd (x := "add") (by decide +kernel) (by decide) 5) (Wbs.cons ws (Wbs.cons ((Wb.tupS (Wbs.cons (wb_wd (x := "low") (by decide +kernel) (by decide) 1) (Wbs.nil (w := 0)))).mono (by omega) (Nat.le_refl _)) (Wbs.nil (w := 0)))))).mono (by omega) (by omega)
  have wa : ∀ x : Str, PyData.strOk x = true → x.length ≤ 7 → Wb 7 2900 (.tup [.str x]) := fun x a b => (Wb.tupS (Wbs.cons (wb_wd a b 1) (Wbs.nil (w := 0)))).mono (by omega) (by omega)
  rcases hd with rfl | rfl | rfl | rfl | rfl | rfl | rfl | rfl | rfl | rfl
  · exact wb_size k0 k8 f0 (by omega)
  · exact wb_size (by decide) (by decide) (by omega) (by omega)
  · exact wb_worth w1 (by decide) (by decide)
  · exact wb_worth w1 (by decide) (by decide)
  · exact wa _ (by decide +kernel) (by decide)
  · exact wa _ (by decide +kernel) (by decide)
  · exact wb_worth w2 (by decide) (by decide)
  · exact wb_size (by decide) (by decide) (by omega) (by omega)
  · exact wb_size (by omega) (by omega) (by omega) (by omega)
  · exact wb_worth w1 (by decide) (by decide)

end Gg

namespace Gg
open PySem PySem.Spec PyProof.Rows L2
def numD : D → Option Int
  | .int i => some i
  | .bl b => some (if b = true then 1 else 0)
  | _ => none
def subXD : Op2 := fun x y R => match y with
  | .int j => ∃ i, numD x = some i ∧ R (.int (i - j))
  | _ => False
def mulXD : Op2 := fun x y R => match y with
  | .int j => ∃ i, numD x = some i ∧ -(2 ^ 64) < j ∧ j < 2 ^ 64 ∧ R (.int (i * j))
  | _ => False
section
variable {X : Cx} {G : Gx}
theorem Rv.num {O : List Addr} {H : Hp} {v : V} {d : D} {i : Int} (h : Rv G O H v d) (e : numD d = some i) : nm v = some i := by
  cases d with
  | int k => cases h.int; cases e; rfl
  | bl b => cases h.bl; cases e; rfl
  | _ => cases e
theorem op_subXD : OpR X (binaryOp .Sub) (rD G subXD) := OpR.of op_subN fun x y H Q ⟨O, dx, dy, R, od, rx, ry, q, z⟩ => by
  unfold subXD at q
  split at q
  · obtain ⟨i, e, q⟩ := q
    cases ry.int
    exact ⟨i, _, rx.num e, rfl, z _ _ H q (fun _ _ e => e) (.int _)⟩
  · cases q
theorem op_mulXD : OpR X (binaryOp .Mult) (rD G mulXD) := OpR.of op_mulN fun x y H Q ⟨O, dx, dy, R, od, rx, ry, q, z⟩ => by
  unfold mulXD at q
  split at q
  · obtain ⟨i, e, h1, h2, q⟩ := q
    cases ry.int
    exact ⟨i, _, rx.num e, rfl, h1, h2, z _ _ H q (fun _ _ e => e) (.int _)⟩
  · cases q
theorem qo_subX : QOp X G (binaryOp .Sub) subXD := ⟨op_subXD⟩
theorem qo_mulX : QOp X G (binaryOp .Mult) mulXD := ⟨op_mulXD⟩
end
theorem subXD_ii {i j : Int} {R : D → Prop} : subXD (.int i) (.int j) R = R (.int (i - j)) := propext ⟨fun ⟨_, e, h⟩ => by cases e; exact h, fun h => ⟨_, rfl, h⟩⟩
theorem subXD_bi {b : Bool} {j : Int} {R : D → Prop} : subXD (.bl b) (.int j) R = R (.int ((if b = true then 1 else 0) - j)) := propext ⟨fun ⟨_, e, h⟩ => by cases e; exact h, fun h => ⟨_, rfl, h⟩⟩
theorem mulXD_ii {i : Int} {R : D → Prop} : mulXD (.int i) (.int 10) R = R (.int (i * 10)) := propext ⟨fun ⟨_, e, _, _, h⟩ => by cases e; exact h, fun h => ⟨_, rfl, by decide, by decide, h⟩⟩
theorem mulXD_bi {b : Bool} {R : D → Prop} : mulXD (.bl b) (.int 10) R = R (.int ((if b = true then 1 else 0) * 10)) := propext ⟨fun ⟨_, e, _, _, h⟩ => by cases e; exact h, fun h => ⟨_, rfl, by decide, by decide, h⟩⟩
theorem negQ_b {b : Bool} {R : D → Prop} : negQ (.bl b) R = R (.int (-(if b = true then 1 else 0))) := rfl
theorem strD_b {b : Bool} {R : D → Prop} : strD [.bl b] R = R (.str (if b then "True" else "False")) := rfl
theorem eqD_b1 {b : Bool} {R : D → Prop} : eqD (.bl b) (.int 1) R = R (.bl b) := by
  unfold eqD eqQ
  cases b
  · apply propext; constructor
    · rintro ⟨_, _, _, _, h⟩; exact h
    · intro h; exact ⟨rfl, rfl, rfl, rfl, h⟩
  · apply propext; constructor
    · rintro ⟨_, _, _, _, h⟩; exact h
    · intro h; exact ⟨rfl, rfl, rfl, rfl, h⟩
theorem toPs_take : ∀ (k : Nat) (xs : List D), toPs (xs.take k) = (toPs xs).take k
  | 0, _ => rfl
  | _ + 1, [] => rfl
  | k + 1, x :: xs => by rw [List.take_succ_cons, toPs, toPs, List.take_succ_cons, toPs_take k xs]
theorem toPs_drop : ∀ (k : Nat) (xs : List D), toPs (xs.drop k) = (toPs xs).drop k
  | 0, _ => rfl
  | _ + 1, [] => rfl
  | k + 1, x :: xs => by rw [List.drop_succ_cons, toPs, List.drop_succ_cons, toPs_drop k xs]
theorem toPs_rev : ∀ xs : List D, toPs xs.reverse = (toPs xs).reverse
  | [] => rfl
  | x :: xs => by rw [List.reverse_cons, toPs_app, toPs_rev xs, toPs, toPs, toPs, List.reverse_cons]
theorem toPs_get : ∀ (xs : List D) (i : Nat), (toPs xs)[i]? = xs[i]?.map toP
  | [], _ => rfl
  | x :: xs, 0 => rfl
  | x :: xs, i + 1 => by rw [toPs, List.getElem?_cons_succ, List.getElem?_cons_succ, toPs_get xs i]
theorem plains_iff : ∀ {xs : List D}, plains xs = true ↔ ∀ x, x ∈ xs → plain x = true
  | [] => ⟨fun _ x h => (nomatch h), fun _ => rfl⟩
  | x :: xs => by
    rw [plains, Bool.and_eq_true, plains_iff (xs := xs)]
    exact Iff.intro (fun ⟨a, b⟩ y hy => (List.mem_cons.mp hy).elim (fun e => e ▸ a) (b y)) (fun h => ⟨h x (List.mem_cons_self ..), fun y hy => h y (List.mem_cons_of_mem _ hy)⟩)
/-- small enough, told by looking -/
def wbC (n w : Nat) (d : D) : Bool := plain d && finX 300 (toP d) && decide (wx (toP d) ≤ w) && decide ((toP d).depth ≤ n)
theorem wbC_ok {n w : Nat} {ds : List D} (h : ds.all (wbC n w) = true) {d : D} (m : d ∈ ds) : Wb n w d := by
  have := List.all_eq_true.mp h d m
  unfold wbC at this
  rw [Bool.and_eq_true, Bool.and_eq_true, Bool.and_eq_true, decide_eq_true_eq, decide_eq_true_eq] at this
  exact ⟨this.1.1.1, ⟨this.1.1.2, this.1.2, this.2⟩⟩
end Gg

namespace Gg
open PySem PySem.Spec PyProof.Rows L2
local macro_rules | `(tactic| get_elem_tactic_trivial) => `(tactic| ((try simp only [Gg.ixD_0, Gg.ixD_1, Gg.ixD_2, Gg.atI_z0, Gg.atI_z1, Gg.atI_z2, Gg.atI_if2, Gg.ite_int, Gg.some_ex, decide_eq_true_eq, List.length_map, List.map_append, Nat.reduceLeDiff, Nat.reduceLT, Int.cast_ofNat_Int, Int.reduceLT, Int.reduceLE, true_and, and_true, ne_eq, reduceCtorEq, not_false_eq_true, Bool.false_eq_true, Bool.true_eq_false, if_true, if_false, ite_true, ite_false, decide_true, decide_false, Gg.isi_non_int, Gg.isi_non_bool, Gg.isi_non_str, Gg.isi_non_tuple, Gg.isi_non_list, Gg.isi_non_dict, Gg.isi_non_tuple_list, Gg.isi_non_list_tuple, Gg.isi_bl_int, Gg.isi_bl_bool, Gg.isi_bl_str, Gg.isi_bl_tuple, Gg.isi_bl_list, Gg.isi_bl_dict, Gg.isi_bl_tuple_list, Gg.isi_bl_list_tuple, Gg.isi_int_int, Gg.isi_int_bool, Gg.isi_int_str, Gg.isi_int_tuple, Gg.isi_int_list, Gg.isi_int_dict, Gg.isi_int_tuple_list, Gg.isi_int_list_tuple, Gg.isi_str_int, Gg.isi_str_bool, Gg.isi_str_str, Gg.isi_str_tuple, Gg.isi_str_list, Gg.isi_str_dict, Gg.isi_str_tuple_list, Gg.isi_str_list_tuple, Gg.isi_tup_int, Gg.isi_tup_bool, Gg.isi_tup_str, Gg.isi_tup_tuple, Gg.isi_tup_list, Gg.isi_tup_dict, Gg.isi_tup_tuple_list, Gg.isi_tup_list_tuple, Gg.isi_lst_int, Gg.isi_lst_bool, Gg.isi_lst_str, Gg.isi_lst_tuple, Gg.isi_lst_list, Gg.isi_lst_dict, Gg.isi_lst_tuple_list, Gg.isi_lst_list_tuple, Gg.isi_emp_int, Gg.isi_emp_bool, Gg.isi_emp_str, Gg.isi_emp_tuple, Gg.isi_emp_list, Gg.isi_emp_dict, Gg.isi_emp_tuple_list, Gg.isi_emp_list_tuple]); (repeat (dsimp only [Gg.dSeq, Gg.dSet, Gg.dOwn, Gg.dVar, Gg.dVarC, Gg.dC, Gg.dOp, Gg.dTest, Gg.dChain, Gg.dAndT, Gg.dOrT, Gg.dNotT, Gg.dAndV, Gg.dOrV, Gg.dNotV, Gg.dIf, Gg.dIfS, Gg.dRet, Gg.dRetN, Gg.dNext, Gg.dDrop, Gg.dAppend, Gg.dSetIx, Gg.dFrz, Gg.dPar, Gg.dB, Gg.dCall, Gg.dCons, Gg.dNil, Gg.dTup, Gg.dLst, Gg.dLc, Gg.dYes, Gg.dSeqI, Gg.dRng1, Gg.dRng2, Gg.dZip, Gg.dEnumT, Gg.dFor, Gg.dAsg, Gg.dgName, Gg.dgTup, Gg.dgCons, Gg.dgNil, Gg.dTruth, Gg.dNeg, Gg.dNoPart, Gg.dPart, Gg.dSl, Gg.dRv, Gg.dAug, Gg.dBreak, Gg.dCont, Gg.dNever, Gg.wipeS, Gg.startN, Gg.ends, Gg.rl_mapc, Gg.rl_mapn, Gg.rl_appc, Gg.rl_appn, Gg.rl_get0, Gg.rl_gets, Gg.rl_set0, Gg.rl_sets, Gg.rl_lenc, Gg.rl_lenn, Gg.rl_rep0, Gg.rl_reps, Nat.reduceAdd, Nat.reduceSub, Gg.dFld, Gg.dMeth, Gg.dM1, Gg.iNil, Gg.iDrop, Gg.iSet, Gg.iFld, Gg.iIf, Gg.startI, Gg.dNo, Gg.joinD_l, Gg.addD_i, Gg.addD_s, Gg.addD_t, Gg.addD_l, Gg.addD_bi, Gg.addD_ib, Gg.subD_i, Gg.mulD_i, Gg.mulD_t, Gg.mulD_l, Gg.modD_i, Gg.fdivD_i, Gg.powD_i, Gg.ltD_i, Gg.leD_i, Gg.gtD_i, Gg.geD_i, Gg.isND_non, Gg.notND_non, Gg.truD_non, Gg.isND_bl, Gg.notND_bl, Gg.truD_bl, Gg.isND_int, Gg.notND_int, Gg.truD_int, Gg.isND_str, Gg.notND_str, Gg.isND_tup, Gg.notND_tup, Gg.truD_tup, Gg.isND_lst, Gg.notND_lst, Gg.truD_lst, Gg.isND_obj, Gg.notND_obj, Gg.truD_str, Gg.slD_t, Gg.slD_l, Gg.slD_s, Gg.rvD_t, Gg.rvD_l, Gg.ixD_t, Gg.ixD_l, Gg.ixD_s, Gg.lenD_l, Gg.lenD_t, Gg.lenD_s, Gg.absD_i, Gg.intOfD_i, Gg.intOfD_b, Gg.tupleD_l, Gg.tupleD_t, Gg.listD_l, Gg.listD_t, Gg.sumD_l, Gg.allD_l, Gg.anyD_l, Gg.catLD_l, Gg.strD_i, Gg.seqQ_l, Gg.seqQ_t, Gg.seqQ_s, Gg.negQ_i, Gg.inQ_s, Gg.inD_ss, Gg.isS_s, Gg.min2D_j, Gg.max2D_j, Gg.cDraw_i, Gg.eqD_int, Gg.neD_int, Gg.eqD_bl, Gg.neD_bl, Gg.eqD_ss, Gg.neD_ss, Gg.eqD_ln, Gg.neD_ln, Gg.eqD_tn, Gg.neD_tn, Int.reduceAdd, Int.reduceSub, Int.reduceMul, Int.reducePow, Int.reduceToNat, Bool.not_true, Bool.not_false]; (try simp only [Gg.ixD_0, Gg.ixD_1, Gg.ixD_2, Gg.atI_z0, Gg.atI_z1, Gg.atI_z2, Gg.atI_if2, Gg.ite_int, Gg.some_ex, decide_eq_true_eq, List.length_map, List.map_append, Nat.reduceLeDiff, Nat.reduceLT, Int.cast_ofNat_Int, Int.reduceLT, Int.reduceLE, true_and, and_true, ne_eq, reduceCtorEq, not_false_eq_true, Bool.false_eq_true, Bool.true_eq_false, if_true, if_false, ite_true, ite_false, decide_true, decide_false, Gg.isi_non_int, Gg.isi_non_bool, Gg.isi_non_str, Gg.isi_non_tuple, Gg.isi_non_list, Gg.isi_non_dict, Gg.isi_non_tuple_list, Gg.isi_non_list_tuple, Gg.isi_bl_int, Gg.isi_bl_bool, Gg.isi_bl_str, Gg.isi_bl_tuple, Gg.isi_bl_list, Gg.isi_bl_dict, Gg.isi_bl_tuple_list, Gg.isi_bl_list_tuple, Gg.isi_int_int, Gg.isi_int_bool, Gg.isi_int_str, Gg.isi_int_tuple, Gg.isi_int_list, Gg.isi_int_dict, Gg.isi_int_tuple_list, Gg.isi_int_list_tuple, Gg.isi_str_int, Gg.isi_str_bool, Gg.isi_str_str, Gg.isi_str_tuple, Gg.isi_str_list, Gg.isi_str_dict, Gg.isi_str_tuple_list, Gg.isi_str_list_tuple, Gg.isi_tup_int, Gg.isi_tup_bool, Gg.isi_tup_str, Gg.isi_tup_tuple, Gg.isi_tup_list, Gg.isi_tup_dict, Gg.isi_tup_tuple_list, Gg.isi_tup_list_tuple, Gg.isi_lst_int, Gg.isi_lst_bool, Gg.isi_lst_str, Gg.isi_lst_tuple, Gg.isi_lst_list, Gg.isi_lst_dict, Gg.isi_lst_tuple_list, Gg.isi_lst_list_tuple, Gg.isi_emp_int, Gg.isi_emp_bool, Gg.isi_emp_str, Gg.isi_emp_tuple, Gg.isi_emp_list, Gg.isi_emp_dict, Gg.isi_emp_tuple_list, Gg.isi_emp_list_tuple])))))

def cOd : DC := fun ds n R => match ds with
  | [.pen] => n ≤ 900000000 ∧ ∀ d, Wb 3 600 d → R d (n + 1)
  | _ => False
theorem cOd_e  {n : Nat} {R : D → Nat → Prop} : cOd [.pen] n R = (n ≤ 900000000 ∧ ∀ d, Wb 3 600 d → R d (n + 1)) := rfl
def cBn (m : Nat) : DC := fun ds n R => match ds with
  | [.pen, d] => plain d = true ∧ ∃ k mm w, Bd k mm w (toP d) ∧ mm < m ∧ mm < 20 ∧ w ≤ 400000 ∧ 300 ≤ k ∧ k ≤ 400 ∧ n + 10 * (mm + 1) ≤ 900000000 ∧ ∀ d' n', plain d' = true → Bd (k + 4) (mm + 4) (2 * w + 4000) (toP d') → n' ≤ n + 10 * (mm + 1) → R d' n'
  | _ => False
theorem cBn_e {m : Nat} {d : D} {n : Nat} {R : D → Nat → Prop} : cBn m [.pen, d] n R = (plain d = true ∧ ∃ k mm w, Bd k mm w (toP d) ∧ mm < m ∧ mm < 20 ∧ w ≤ 400000 ∧ 300 ≤ k ∧ k ≤ 400 ∧ n + 10 * (mm + 1) ≤ 900000000 ∧ ∀ d' n', plain d' = true → Bd (k + 4) (mm + 4) (2 * w + 4000) (toP d') → n' ≤ n + 10 * (mm + 1) → R d' n') := rfl

theorem cBn_zero {ds : List D} {n : Nat} {R : D → Nat → Prop} (h : cBn 0 ds n R) : False := by
  unfold cBn at h
  split at h
  · obtain ⟨_, k, mm, w, _, h1, _⟩ := h; omega
  · exact h

theorem wp_law_odd {ds : List D} {n : Nat} {R : D → Nat → Prop} (h : cOd ds n R) : (dSeq (dSet 1 (dC (.lst [.non, .bl true, .bl false, .int 0, .int 1, .int (-1), .int 1000000000, .int 1000000001, .int 4000000000, .int 4000000001, .str "", .str "a", .str "A"])))
    (dSeq (dSet 1 (dOp addD (dVar 1) (dC (.lst [.int 1000000000000000000000000000000000000000000000000000000000000000000000000001, .str "abcdefgh", .str "abcdefghi", .str "a1", .str "1", .tup [], .tup [.int 0], .tup [.int 0, .int 0], .tup [.bl true], .tup [.int 0, .non]]))))
    (dSeq (dOwn 1 (dOp catLD (dVar 1) (dC (.lst [.tup [.str "low"], .tup [.str "sum"], .lst [], .emp, .lst [.int 0], .tup [.str "sum", .tup []], .tup [.str "all"], .tup [.str "any"], .tup [.str "size", .int 0], .tup [.str "size", .int 0, .int 0], .str "low"]))))
    (dSeq (dAppend 1 (dC (.tup [.str "worth", .tup [.str "low"], .int 0])))
    (dFrz 1 (dRet (dCall cPick (dCons (dVarC 0) (dCons (dVarC 1) dNil))))))))) (ends R) (startN 2 ds) n := by
  unfold cOd at h
  split at h
  case h_2 => exact h.elim
  obtain ⟨hb, h⟩ := h
  (get_elem_tactic_trivial; repeat (dsimp only [cPick_l]; get_elem_tactic_trivial))
  exact ⟨hb, fun d hd => h d (wbC_ok (by decide +kernel) hd)⟩

theorem wp_law_bent {m : Nat} {ds : List D} {n : Nat} {R : D → Nat → Prop} (h : cBn (m + 1) ds n R) : (dSeq (dIfS (dAndT (dTruth (dB isiD (dCons (dVar 1) (dCons (dTup (dCons (dC (.ty "tuple")) (dCons (dC (.ty "list")) dNil))) dNil)))) (dAndT (dTest (dOp gtD (dB lenD (dCons (dVar 1) dNil)) (dC (.int 0)))) (dTest (dOp gtD (dCall cDraw (dCons (dVarC 0) (dCons (dC (.int 6)) dNil))) (dC (.int 0)))))) (dSeq (dPar 2 3 false false (dCall cDraw (dCons (dVarC 0) (dCons (dB lenD (dCons (dVar 1) dNil)) dNil))) (dCall cDraw (dCons (dVarC 0) (dCons (dC (.int 8)) dNil))))
    (dSeq (dSet 4 (dIf (dTest (dOp ltD (dVar 3) (dC (.int 4)))) (dLst (dCons (dCall (cBn m) (dCons (dVarC 0) (dCons (dOp ixD (dVar 1) (dVar 2)) dNil))) dNil)) (dC (.lst []))))
    (dSeq (dIfS (dTruth (dB isiD (dCons (dVar 1) (dCons (dC (.ty "tuple")) dNil)))) (dSet 4 (dB tupleD (dCons (dVar 4) dNil))) dNext)
    (dSeq (dIfS (dTest (dOp ltD (dVar 3) (dC (.int 4)))) (dRet (dOp addD (dOp addD (dSl (dVar 1) dNoPart (dPart (dVarC 2))) (dVar 4)) (dSl (dVar 1) (dPart (dOp addD (dVar 2) (dC (.int 1)))) dNoPart))) dNext)
    (dSeq (dSet 5 (dLst (dCons (dOp addD (dSl (dVar 1) dNoPart (dPart (dVarC 2))) (dSl (dVar 1) (dPart (dOp addD (dVar 2) (dC (.int 1)))) dNoPart)) (dCons (dOp addD (dSl (dVar 1) dNoPart (dPart (dOp addD (dVar 2) (dC (.int 1))))) (dSl (dVar 1) (dPart (dVarC 2)) dNoPart)) (dCons (dRv (dVar 1) (dPart (dC (.int (-1))))) dNil)))))
    (dRet (dOp ixD (dOp addD (dVar 5) (dLst (dCons (dIf (dTruth (dB isiD (dCons (dVar 1) (dCons (dC (.ty "list")) dNil)))) (dB tupleD (dCons (dVar 1) dNil)) (dB listD (dCons (dVar 1) dNil))) dNil))) (dOp subXD (dVar 3) (dC (.int 4)))))))))) dNext)
    (dSeq (dIfS (dAndT (dTruth (dB isiD (dCons (dVar 1) (dCons (dC (.ty "str")) dNil)))) (dTest (dOp gtD (dCall cDraw (dCons (dVarC 0) (dCons (dC (.int 5)) dNil))) (dC (.int 0))))) (dSeq (dPar 2 6 false false (dCall cDraw (dCons (dVarC 0) (dCons (dOp addD (dB lenD (dCons (dVar 1) dNil)) (dC (.int 1))) dNil))) (dCall cPick (dCons (dVarC 0) (dCons (dC (.str "abcdefghijklmnopqrstuvwxyzA0 _")) dNil))))
    (dRet (dCall cPick (dCons (dVarC 0) (dCons (dLst (dCons (dOp addD (dOp addD (dSl (dVar 1) dNoPart (dPart (dVarC 2))) (dVar 6)) (dSl (dVar 1) (dPart (dVarC 2)) dNoPart)) (dCons (dOp addD (dOp addD (dSl (dVar 1) dNoPart (dPart (dVarC 2))) (dVar 6)) (dSl (dVar 1) (dPart (dOp addD (dVar 2) (dC (.int 1)))) dNoPart)) (dCons (dSl (dVar 1) dNoPart (dPart (dVarC 2))) dNil)))) dNil))))) dNext)
    (dSeq (dIfS (dAndT (dTruth (dB isiD (dCons (dVar 1) (dCons (dC (.ty "int")) dNil)))) (dTest (dOp gtD (dCall cDraw (dCons (dVarC 0) (dCons (dC (.int 5)) dNil))) (dC (.int 0))))) (dRet (dCall cPick (dCons (dVarC 0) (dCons (dLst (dCons (dOp addD (dVar 1) (dC (.int 1))) (dCons (dOp subXD (dVar 1) (dC (.int 1))) (dCons (dNeg (dVar 1)) (dCons (dB strD (dCons (dVar 1) dNil)) (dCons (dOp eqD (dVar 1) (dC (.int 1))) (dCons (dOp mulXD (dVar 1) (dC (.int 10))) (dCons (dC (.int 1000000000)) (dCons (dC (.int 1000)) (dCons (dC (.int 1001)) dNil)))))))))) dNil)))) dNext)
    (dRet (dCall cOd (dCons (dVarC 0) dNil)))))) (ends R) (startN 7 ds) n := by
  unfold cBn at h
  split at h
  case h_2 => exact h.elim
  next d =>
  obtain ⟨pl, k, mm, w, bd, hm, hm20, hw, hk, hk2, hb, h⟩ := h
  have fail : ∀ j : Nat, j ≤ 3 → cOd [.pen] (n + j) R := fun j hj => by
    rw [cOd_e]
    exact ⟨by omega, fun d hd => h d _ hd.pl ((hd.bd.more (by omega)).mono (by omega) (by omega)) (by omega)⟩
  cases d with
  | non => get_elem_tactic_trivial; exact fail 0 (Nat.zero_le _)
  | emp => get_elem_tactic_trivial; exact fail 0 (Nat.zero_le _)
  | ty _ => simp [Gg.plain] at pl
  | pen => simp [Gg.plain] at pl
  | obj _ _ _ => simp [Gg.plain] at pl
  | tup xs =>
    rw [Gg.plain] at pl
    have bd' := bd
    rw [toP] at bd'
    obtain ⟨m1, v1, hb1, hm1, hv1⟩ := bd'.ofTup
    have lx : xs.length ≤ 200000 := by have := hb1.len; rw [toPs_len] at this; omega
    get_elem_tactic_trivial
    split
    case isFalse =>
      exact fail 0 (Nat.zero_le _)
    next pos =>
    refine ⟨by omega, fun q q0 q1 => ?_⟩
    split
    case isFalse => exact fail 1 (by decide)
    refine ⟨by omega, by omega, by omega, fun at' a0 a1 => ⟨by omega, fun way w0 w1 => ?_⟩⟩
    obtain ⟨i, rfl⟩ := Int.eq_ofNat_of_zero_le a0
    have hi : i < xs.length := by omega
    have mem := plains_iff.mp pl
    split
    · next hw4 =>
      obtain ⟨b, hbw, hbd, hback⟩ := bent_in hb1 (i := i) (d := toP xs[i]) (by rw [toPs_get, List.getElem?_eq_getElem hi]; rfl)
      refine ⟨xs[i], atI_nat (List.getElem?_eq_getElem hi), ?_⟩
      (get_elem_tactic_trivial; repeat (dsimp only [cBn_e]; get_elem_tactic_trivial))
      refine ⟨mem _ (List.getElem_mem hi), k, m1, b, hbd, by omega, by omega, by omega, hk, hk2, by omega, fun d' n' pd bd' hn' => ?_⟩
      (get_elem_tactic_trivial; repeat (simp only [hw4, cutL_to xs a0, cutL_from xs (show (0 : Int) ≤ (i : Int) + 1 by omega), List.length_append, List.length_take, List.length_drop]; get_elem_tactic_trivial))
      rw [show ((i : Int) + 1).toNat = i + 1 by omega, Int.toNat_natCast]
      refine ⟨by omega, by omega, h _ _ ?_ ?_ (by omega)⟩
      · rw [Gg.plain]
        exact plains_app (plains_app (plains_iff.mpr fun x hx => mem x (List.mem_of_mem_take hx)) (by rw [plains, pd]; rfl)) (plains_iff.mpr fun x hx => mem x (List.mem_of_mem_drop hx))
      · rw [toP, toPs_app, toPs_app, toPs_take, toPs_drop]
        exact (Bd.tup (hback _ bd')).mono (by omega) (by omega)
    · next hw4 =>
      (get_elem_tactic_trivial; repeat (simp only [hw4, cutL_to xs a0, cutL_to xs (show (0 : Int) ≤ (i : Int) + 1 by omega), cutL_from xs a0, cutL_from xs (show (0 : Int) ≤ (i : Int) + 1 by omega), List.length_append, List.length_take, List.length_drop, subXD_ii]; get_elem_tactic_trivial))
      rw [show ((i : Int) + 1).toNat = i + 1 by omega, Int.toNat_natCast]
      refine ⟨by omega, by omega, ?_⟩
      obtain ⟨y, ey, my, _⟩ := atI_in (xs := [D.tup (xs.take i ++ xs.drop (i + 1)), D.tup (xs.take (i + 1) ++ xs.drop i), D.tup xs.reverse, D.lst xs]) (d := way - 4) (by omega) (by show way - 4 < 4; omega)
      refine ⟨y, ey, ?_⟩
      have bo := bent_out (i := i) hb1
      simp only [List.mem_cons, List.not_mem_nil, or_false] at my
      rcases my with rfl | rfl | rfl | rfl
      · exact h _ _ (by rw [Gg.plain]; exact plains_app (plains_iff.mpr fun x hx => mem x (List.mem_of_mem_take hx)) (plains_iff.mpr fun x hx => mem x (List.mem_of_mem_drop hx))) (by rw [toP, toPs_app, toPs_take, toPs_drop]; exact bent_tup bo.1 hm1 hv1) (by omega)
      · exact h _ _ (by rw [Gg.plain]; exact plains_app (plains_iff.mpr fun x hx => mem x (List.mem_of_mem_take hx)) (plains_iff.mpr fun x hx => mem x (List.mem_of_mem_drop hx))) (by rw [toP, toPs_app, toPs_take, toPs_drop]; exact bent_tup bo.2.1 hm1 hv1) (by omega)
      · exact h _ _ (by rw [Gg.plain]; exact plains_iff.mpr fun x hx => mem x (List.mem_reverse.mp hx)) (by rw [toP, toPs_rev]; exact bent_tup bo.2.2.1 hm1 hv1) (by omega)
      · exact h _ _ (by rw [Gg.plain]; exact pl) (by rw [toP]; exact bent_lst bo.2.2.2 hm1 hv1) (by omega)

  | lst xs =>
    rw [Gg.plain] at pl
    have bd' := bd
    rw [toP] at bd'
    obtain ⟨m1, v1, hb1, hm1, hv1⟩ := bd'.ofLst
    have lx : xs.length ≤ 200000 := by have := hb1.len; rw [toPs_len] at this; omega
    get_elem_tactic_trivial
    split
    case isFalse =>
      exact fail 0 (Nat.zero_le _)
    next pos =>
    refine ⟨by omega, fun q q0 q1 => ?_⟩
    split
    case isFalse => exact fail 1 (by decide)
    refine ⟨by omega, by omega, by omega, fun at' a0 a1 => ⟨by omega, fun way w0 w1 => ?_⟩⟩
    obtain ⟨i, rfl⟩ := Int.eq_ofNat_of_zero_le a0
    have hi : i < xs.length := by omega
    have mem := plains_iff.mp pl
    split
    · next hw4 =>
      obtain ⟨b, hbw, hbd, hback⟩ := bent_in hb1 (i := i) (d := toP xs[i]) (by rw [toPs_get, List.getElem?_eq_getElem hi]; rfl)
      refine ⟨xs[i], atI_nat (List.getElem?_eq_getElem hi), ?_⟩
      (get_elem_tactic_trivial; repeat (dsimp only [cBn_e]; get_elem_tactic_trivial))
      refine ⟨mem _ (List.getElem_mem hi), k, m1, b, hbd, by omega, by omega, by omega, hk, hk2, by omega, fun d' n' pd bd' hn' => ?_⟩
      (get_elem_tactic_trivial; repeat (simp only [hw4, cutL_to xs a0, cutL_from xs (show (0 : Int) ≤ (i : Int) + 1 by omega), List.length_append, List.length_take, List.length_drop]; get_elem_tactic_trivial))
      rw [show ((i : Int) + 1).toNat = i + 1 by omega, Int.toNat_natCast]
      refine ⟨by omega, by omega, h _ _ ?_ ?_ (by omega)⟩
      · rw [Gg.plain]
        exact plains_app (plains_app (plains_iff.mpr fun x hx => mem x (List.mem_of_mem_take hx)) (by rw [plains, pd]; rfl)) (plains_iff.mpr fun x hx => mem x (List.mem_of_mem_drop hx))
      · rw [toP, toPs_app, toPs_app, toPs_take, toPs_drop]
        exact (Bd.lst (hback _ bd')).mono (by omega) (by omega)
    · next hw4 =>
      (get_elem_tactic_trivial; repeat (simp only [hw4, cutL_to xs a0, cutL_to xs (show (0 : Int) ≤ (i : Int) + 1 by omega), cutL_from xs a0, cutL_from xs (show (0 : Int) ≤ (i : Int) + 1 by omega), List.length_append, List.length_take, List.length_drop, subXD_ii]; get_elem_tactic_trivial))
      rw [show ((i : Int) + 1).toNat = i + 1 by omega, Int.toNat_natCast]
      refine ⟨by omega, by omega, ?_⟩
      obtain ⟨y, ey, my, _⟩ := atI_in (xs := [D.lst (xs.take i ++ xs.drop (i + 1)), D.lst (xs.take (i + 1) ++ xs.drop i), D.lst xs.reverse, D.tup xs]) (d := way - 4) (by omega) (by show way - 4 < 4; omega)
      refine ⟨y, ey, ?_⟩
      have bo := bent_out (i := i) hb1
      simp only [List.mem_cons, List.not_mem_nil, or_false] at my
      rcases my with rfl | rfl | rfl | rfl
      · exact h _ _ (by rw [Gg.plain]; exact plains_app (plains_iff.mpr fun x hx => mem x (List.mem_of_mem_take hx)) (plains_iff.mpr fun x hx => mem x (List.mem_of_mem_drop hx))) (by rw [toP, toPs_app, toPs_take, toPs_drop]; exact bent_lst bo.1 hm1 hv1) (by omega)
      · exact h _ _ (by rw [Gg.plain]; exact plains_app (plains_iff.mpr fun x hx => mem x (List.mem_of_mem_take hx)) (plains_iff.mpr fun x hx => mem x (List.mem_of_mem_drop hx))) (by rw [toP, toPs_app, toPs_take, toPs_drop]; exact bent_lst bo.2.1 hm1 hv1) (by omega)
      · exact h _ _ (by rw [Gg.plain]; exact plains_iff.mpr fun x hx => mem x (List.mem_reverse.mp hx)) (by rw [toP, toPs_rev]; exact bent_lst bo.2.2.1 hm1 hv1) (by omega)
      · exact h _ _ (by rw [Gg.plain]; exact pl) (by rw [toP]; exact bent_tup bo.2.2.2 hm1 hv1) (by omega)

  | str x =>
    obtain ⟨ok, wl⟩ := bd_str bd
    get_elem_tactic_trivial
    refine ⟨by omega, fun q q0 q1 => ?_⟩
    split
    case isFalse => exact fail 1 (by decide)
    (get_elem_tactic_trivial; repeat (dsimp only [cPick_l, cPick_s]; get_elem_tactic_trivial))
    refine ⟨by omega, by omega, by omega, by omega, fun at' a0 a1 => ⟨by decide, by decide, by omega, fun sg hs => ?_⟩⟩
    have sok : PyData.strOk ⟨#[sg]⟩ = true := strOk_sub (x := "abcdefghijklmnopqrstuvwxyzA0 _") (by decide +kernel) (fun c hc => by
      have : c = sg := by simpa using hc
      rw [this]; exact hs)
    have l1 := cutS_two x a0 (Int.le_refl at')
    have l2 := cutS_two x a0 (show at' ≤ at' + 1 by omega)
    have l3 := cutS_len x none (some at')
    have sl : (⟨#[sg]⟩ : Str).length = 1 := rfl
    have lx : x.length ≤ 1000000 := by omega
    (get_elem_tactic_trivial; repeat (simp only [app_len, lx]; get_elem_tactic_trivial))
    refine ⟨by omega, by omega, by omega, by omega, by omega, fun d hd => ?_⟩
    simp only [List.mem_cons, List.not_mem_nil, or_false] at hd
    rcases hd with rfl | rfl | rfl
    · exact h _ _ rfl (bent_str bd (strOk_app (strOk_app (strOk_cut ok ..) sok) (strOk_cut ok ..)) (by rw [app_len, app_len]; omega)) (by omega)
    · exact h _ _ rfl (bent_str bd (strOk_app (strOk_app (strOk_cut ok ..) sok) (strOk_cut ok ..)) (by rw [app_len, app_len]; omega)) (by omega)
    · exact h _ _ rfl (bent_str bd (strOk_cut ok ..) (by omega)) (by omega)
  | int i =>
    get_elem_tactic_trivial
    refine ⟨by omega, fun q q0 q1 => ?_⟩
    split
    case isFalse => exact fail 1 (by decide)
    (get_elem_tactic_trivial; repeat (first | (dsimp only [cPick_l, negQ_b, strD_b]; get_elem_tactic_trivial) | (simp only [subXD_ii, subXD_bi, mulXD_ii, mulXD_bi, eqD_b1]; get_elem_tactic_trivial)))
    refine ⟨bd_log bd hk2, by omega, fun d hd => ?_⟩
    simp only [List.mem_cons, List.not_mem_nil, or_false] at hd
    rcases hd with rfl | rfl | rfl | rfl | rfl | rfl | rfl | rfl | rfl
    · exact h _ _ rfl (bent_int bd hk (by omega)) (by omega)
    · exact h _ _ rfl (bent_int bd hk (by omega)) (by omega)
    · exact h _ _ rfl (bent_int bd hk (by omega)) (by omega)
    · exact h _ _ rfl (bent_text bd hk2) (by omega)
    · exact h _ _ rfl (Bd.bool (by omega)) (by omega)
    · exact h _ _ rfl (bent_int bd hk (by omega)) (by omega)
    · exact h _ _ rfl (bent_small hk (by decide)) (by omega)
    · exact h _ _ rfl (bent_small hk (by decide)) (by omega)
    · exact h _ _ rfl (bent_small hk (by decide)) (by omega)
  | bl b =>
    get_elem_tactic_trivial
    refine ⟨by omega, fun q q0 q1 => ?_⟩
    split
    case isFalse => exact fail 1 (by decide)
    (get_elem_tactic_trivial; repeat (first | (dsimp only [cPick_l, negQ_b, strD_b]; get_elem_tactic_trivial) | (simp only [subXD_ii, subXD_bi, mulXD_ii, mulXD_bi, eqD_b1]; get_elem_tactic_trivial)))
    refine ⟨by omega, fun d hd => ?_⟩
    simp only [List.mem_cons, List.not_mem_nil, or_false] at hd
    rcases hd with rfl | rfl | rfl | rfl | rfl | rfl | rfl | rfl | rfl
    · exact h _ _ rfl (bent_small hk (by cases b <;> decide)) (by omega)
    · exact h _ _ rfl (bent_small hk (by cases b <;> decide)) (by omega)
    · exact h _ _ rfl (bent_small hk (by cases b <;> decide)) (by omega)
    · exact h _ _ rfl (Bd.str (by cases b <;> decide +kernel) (Nat.le_trans (show _ ≤ 2000 by cases b <;> decide +kernel) (by omega))) (by omega)
    · exact h _ _ rfl (Bd.bool (by omega)) (by omega)
    · exact h _ _ rfl (bent_small hk (by cases b <;> decide)) (by omega)
    · exact h _ _ rfl (bent_small hk (by decide)) (by omega)
    · exact h _ _ rfl (bent_small hk (by decide)) (by omega)
    · exact h _ _ rfl (bent_small hk (by decide)) (by omega)


end Gg

namespace K08
open PySem PySem.Spec PyProof.Rows L2 Gg

def top (i : Nat) : Stmt := PySem.Challenge.pw_gapgrades_k08_what_is_a_rule.main.body.getD i (.Pass ⟨0, 0, 0, 0⟩)

structure Bi (mg : Str → Option Value) : Prop where
  abs : mg "abs" = none
  all : mg "all" = none
  bool : mg "bool" = none
  int : mg "int" = none
  isinstance : mg "isinstance" = none
  len : mg "len" = none
  list : mg "list" = none
  max : mg "max" = none
  min : mg "min" = none
  range : mg "range" = none
  repr : mg "repr" = none
  str : mg "str" = none
  sum : mg "sum" = none
  tuple : mg "tuple" = none

structure Cs (K : PySem.W.Frag) (mg : Str → Option Value) : Prop where
  MOST_SCALES_WITHIN : ∃ t, mg "MOST_SCALES_WITHIN" = some (.int 4 t)
  GREATEST_WEIGHT : ∃ t, mg "GREATEST_WEIGHT" = some (.int 1000 t)
  ALONE : TupK K mg "ALONE" ["times", "low", "high"]
  OF_TWO : TupK K mg "OF_TWO" ["add", "lesser", "greater"]
  GREATEST_OF_THINGS : ∃ t, mg "GREATEST_OF_THINGS" = some (.int 1000000000 t)
  MOST_RULES_WITHIN : ∃ t, mg "MOST_RULES_WITHIN" = some (.int 4 t)
  MOST_PARTS : ∃ t, mg "MOST_PARTS" = some (.int 4 t)
  GREATEST_WORTH : ∃ t, mg "GREATEST_WORTH" = some (.int 1000000000000000000000000000000000000000000000000000000000000000000000000000 t)

abbrev s_law_pen : Stmt := top 21
abbrev Nsc_law_pen : List Str := ["_law_script"]
abbrev Ssc_law_pen : Scope := defScope s_law_pen
theorem sc_law_pen : FnScope ["_law_script"] ["_law_script"] (defScope s_law_pen) := ⟨rfl, rfl, rfl, by decide +kernel, rfl, by decide +kernel, by decide +kernel⟩

abbrev s_law_draw : Stmt := top 22
abbrev Nsc_law_draw : List Str := ["_law_pen_here", "_law_many", "_law_digit", "_law_turn", "_law_cell", "_law_primes", "_law_prime", "_law_drawn"]
abbrev Ssc_law_draw : Scope := defScope s_law_draw
theorem sc_law_draw : FnScope ["_law_pen_here", "_law_many", "_law_digit", "_law_turn", "_law_cell", "_law_primes", "_law_prime", "_law_drawn"] ["_law_pen_here", "_law_many"] (defScope s_law_draw) := ⟨rfl, rfl, rfl, by decide +kernel, rfl, by decide +kernel, by decide +kernel⟩

abbrev s_law_thing : Stmt := top 27
abbrev Nsc_law_thing : List Str := ["_law_pen_here", "_law_many", "_law_upto", "_law_by", "_law_k"]
abbrev Ssc_law_thing : Scope := defScope s_law_thing
theorem sc_law_thing : FnScope ["_law_pen_here", "_law_many", "_law_upto", "_law_by", "_law_k"] ["_law_pen_here", "_law_many", "_law_upto", "_law_by"] (defScope s_law_thing) := ⟨rfl, rfl, rfl, by decide +kernel, rfl, by decide +kernel, by decide +kernel⟩

abbrev s_law_pick : Stmt := top 23
abbrev Nsc_law_pick : List Str := ["_law_pen_here", "_law_some"]
abbrev Ssc_law_pick : Scope := defScope s_law_pick
theorem sc_law_pick : FnScope ["_law_pen_here", "_law_some"] ["_law_pen_here", "_law_some"] (defScope s_law_pick) := ⟨rfl, rfl, rfl, by decide +kernel, rfl, by decide +kernel, by decide +kernel⟩

abbrev s_law_scale : Stmt := top 30
abbrev Nsc_law_scale : List Str := ["_law_pen_here", "_law_many", "_law_deep", "_law_way", "_law_word", "_law_k"]
abbrev Ssc_law_scale : Scope := defScope s_law_scale
theorem sc_law_scale : FnScope ["_law_pen_here", "_law_many", "_law_deep", "_law_way", "_law_word", "_law_k"] ["_law_pen_here", "_law_many", "_law_deep"] (defScope s_law_scale) := ⟨rfl, rfl, rfl, by decide +kernel, rfl, by decide +kernel, by decide +kernel⟩

abbrev s_law_bound : Stmt := top 31
abbrev Nsc_law_bound : List Str := ["_law_pen_here", "_law_count", "_law_other", "_law_beside"]
abbrev Ssc_law_bound : Scope := defScope s_law_bound
theorem sc_law_bound : FnScope ["_law_pen_here", "_law_count", "_law_other", "_law_beside"] ["_law_pen_here", "_law_count", "_law_other"] (defScope s_law_bound) := ⟨rfl, rfl, rfl, by decide +kernel, rfl, by decide +kernel, by decide +kernel⟩

abbrev s_law_shuffled : Stmt := top 24
abbrev Nsc_law_shuffled : List Str := ["_law_pen_here", "_law_some", "_law_left", "_law_found"]
abbrev Ssc_law_shuffled : Scope := defScope s_law_shuffled
theorem sc_law_shuffled : FnScope ["_law_pen_here", "_law_some", "_law_left", "_law_found"] ["_law_pen_here", "_law_some"] (defScope s_law_shuffled) := ⟨rfl, rfl, rfl, by decide +kernel, rfl, by decide +kernel, by decide +kernel⟩

abbrev s_law_worth : Stmt := top 29
abbrev Nsc_law_worth : List Str := ["_law_scale_here", "_law_thing_here", "_law_k", "_law_found", "_law_number", "_law_both"]
abbrev Ssc_law_worth : Scope := defScope s_law_worth
theorem sc_law_worth : FnScope ["_law_scale_here", "_law_thing_here", "_law_k", "_law_found", "_law_number", "_law_both"] ["_law_scale_here", "_law_thing_here"] (defScope s_law_worth) := ⟨rfl, rfl, rfl, by decide +kernel, rfl, by decide +kernel, by decide +kernel⟩

abbrev s_law_rule : Stmt := top 32
abbrev Nsc_law_rule : List Str := ["_law_pen_here", "_law_greatest", "_law_near", "_law_deep", "_law_way", "_law_many", "_law_place", "_law_scale_here", "_law_some", "_law_k", "_law_odd_here"]
abbrev Ssc_law_rule : Scope := defScope s_law_rule
theorem sc_law_rule : FnScope ["_law_pen_here", "_law_greatest", "_law_near", "_law_deep", "_law_way", "_law_many", "_law_place", "_law_scale_here", "_law_some", "_law_k", "_law_odd_here"] ["_law_pen_here", "_law_greatest", "_law_near", "_law_deep"] (defScope s_law_rule) := ⟨rfl, rfl, rfl, by decide +kernel, rfl, by decide +kernel, by decide +kernel⟩

abbrev s_law_far : Stmt := top 25
abbrev Nsc_law_far : List Str := ["_law_pen_here", "_law_upto", "_law_number"]
abbrev Ssc_law_far : Scope := defScope s_law_far
theorem sc_law_far : FnScope ["_law_pen_here", "_law_upto", "_law_number"] ["_law_pen_here", "_law_upto"] (defScope s_law_far) := ⟨rfl, rfl, rfl, by decide +kernel, rfl, by decide +kernel, by decide +kernel⟩

abbrev s_law_edge : Stmt := top 38
abbrev Nsc_law_edge : List Str := ["_law_pen_here", "_law_count", "_law_place", "_law_scale_here", "_law_some"]
abbrev Ssc_law_edge : Scope := defScope s_law_edge
theorem sc_law_edge : FnScope ["_law_pen_here", "_law_count", "_law_place", "_law_scale_here", "_law_some"] ["_law_pen_here", "_law_count"] (defScope s_law_edge) := ⟨rfl, rfl, rfl, by decide +kernel, rfl, by decide +kernel, by decide +kernel⟩

abbrev s_law_step : Stmt := top 26
abbrev Nsc_law_step : List Str := ["_law_pen_here"]
abbrev Ssc_law_step : Scope := defScope s_law_step
theorem sc_law_step : FnScope ["_law_pen_here"] ["_law_pen_here"] (defScope s_law_step) := ⟨rfl, rfl, rfl, by decide +kernel, rfl, by decide +kernel, by decide +kernel⟩

abbrev s_law_meet : Stmt := top 28
abbrev Nsc_law_meet : List Str := ["_law_one", "_law_other", "_law_k"]
abbrev Ssc_law_meet : Scope := defScope s_law_meet
theorem sc_law_meet : FnScope ["_law_one", "_law_other", "_law_k"] ["_law_one", "_law_other"] (defScope s_law_meet) := ⟨rfl, rfl, rfl, by decide +kernel, rfl, by decide +kernel, by decide +kernel⟩

abbrev s_law_odd : Stmt := top 33
abbrev Nsc_law_odd : List Str := ["_law_pen_here", "_law_some"]
abbrev Ssc_law_odd : Scope := defScope s_law_odd
theorem sc_law_odd : FnScope ["_law_pen_here", "_law_some"] ["_law_pen_here"] (defScope s_law_odd) := ⟨rfl, rfl, rfl, by decide +kernel, rfl, by decide +kernel, by decide +kernel⟩

abbrev s_law_bent : Stmt := top 34
abbrev Nsc_law_bent : List Str := ["_law_pen_here", "_law_thing_here", "_law_at", "_law_way", "_law_inner", "_law_some", "_law_sign"]
abbrev Ssc_law_bent : Scope := defScope s_law_bent
theorem sc_law_bent : FnScope ["_law_pen_here", "_law_thing_here", "_law_at", "_law_way", "_law_inner", "_law_some", "_law_sign"] ["_law_pen_here", "_law_thing_here"] (defScope s_law_bent) := ⟨rfl, rfl, rfl, by decide +kernel, rfl, by decide +kernel, by decide +kernel⟩

abbrev s_law_is_from : Stmt := top 35
abbrev Nsc_law_is_from : List Str := ["_law_thing_here", "_law_low", "_law_high"]
abbrev Ssc_law_is_from : Scope := defScope s_law_is_from
theorem sc_law_is_from : FnScope ["_law_thing_here", "_law_low", "_law_high"] ["_law_thing_here", "_law_low", "_law_high"] (defScope s_law_is_from) := ⟨rfl, rfl, rfl, by decide +kernel, rfl, by decide +kernel, by decide +kernel⟩

abbrev s_law_is_scale : Stmt := top 36
abbrev Nsc_law_is_scale : List Str := ["_law_thing_here", "_law_many", "_law_deep", "_law_odd_here", "_law_one"]
abbrev Ssc_law_is_scale : Scope := defScope s_law_is_scale
theorem sc_law_is_scale : FnScope ["_law_thing_here", "_law_many", "_law_deep", "_law_odd_here", "_law_one"] ["_law_thing_here", "_law_many", "_law_deep"] (defScope s_law_is_scale) := ⟨rfl, rfl, rfl, by decide +kernel, rfl, by decide +kernel, by decide +kernel⟩

abbrev s_law_is_rule : Stmt := top 37
abbrev Nsc_law_is_rule : List Str := ["_law_thing_here", "_law_many", "_law_deep", "_law_odd_here", "_law_one"]
abbrev Ssc_law_is_rule : Scope := defScope s_law_is_rule
theorem sc_law_is_rule : FnScope ["_law_thing_here", "_law_many", "_law_deep", "_law_odd_here", "_law_one"] ["_law_thing_here", "_law_many", "_law_deep"] (defScope s_law_is_rule) := ⟨rfl, rfl, rfl, by decide +kernel, rfl, by decide +kernel, by decide +kernel⟩

abbrev s_is_whole : Stmt := top 1
abbrev Nsc_is_whole : List Str := ["thing"]
abbrev Ssc_is_whole : Scope := defScope s_is_whole
theorem sc_is_whole : FnScope ["thing"] ["thing"] (defScope s_is_whole) := ⟨rfl, rfl, rfl, by decide +kernel, rfl, by decide +kernel, by decide +kernel⟩

abbrev s_is_whole_from : Stmt := top 2
abbrev Nsc_is_whole_from : List Str := ["thing", "least", "greatest"]
abbrev Ssc_is_whole_from : Scope := defScope s_is_whole_from
theorem sc_is_whole_from : FnScope ["thing", "least", "greatest"] ["thing", "least", "greatest"] (defScope s_is_whole_from) := ⟨rfl, rfl, rfl, by decide +kernel, rfl, by decide +kernel, by decide +kernel⟩

abbrev s_is_size : Stmt := top 16
abbrev Nsc_is_size : List Str := ["thing", "many"]
abbrev Ssc_is_size : Scope := defScope s_is_size
theorem sc_is_size : FnScope ["thing", "many"] ["thing", "many"] (defScope s_is_size) := ⟨rfl, rfl, rfl, by decide +kernel, rfl, by decide +kernel, by decide +kernel⟩

abbrev s_are_weights : Stmt := top 8
abbrev Nsc_are_weights : List Str := ["thing", "many", "weight"]
abbrev Ssc_are_weights : Scope := defScope s_are_weights
theorem sc_are_weights : FnScope ["thing", "many", "weight"] ["thing", "many"] (defScope s_are_weights) := ⟨rfl, rfl, rfl, by decide +kernel, rfl, by decide +kernel, by decide +kernel⟩

abbrev s_is_scale_within : Stmt := top 9
abbrev Nsc_is_scale_within : List Str := ["thing", "many", "within", "part"]
abbrev Ssc_is_scale_within : Scope := defScope s_is_scale_within
theorem sc_is_scale_within : FnScope ["thing", "many", "within", "part"] ["thing", "many", "within"] (defScope s_is_scale_within) := ⟨rfl, rfl, rfl, by decide +kernel, rfl, by decide +kernel, by decide +kernel⟩

abbrev s_is_scale : Stmt := top 10
abbrev Nsc_is_scale : List Str := ["thing", "many"]
abbrev Ssc_is_scale : Scope := defScope s_is_scale
theorem sc_is_scale : FnScope ["thing", "many"] ["thing", "many"] (defScope s_is_scale) := ⟨rfl, rfl, rfl, by decide +kernel, rfl, by decide +kernel, by decide +kernel⟩

abbrev s_is_worth : Stmt := top 17
abbrev Nsc_is_worth : List Str := ["thing", "many"]
abbrev Ssc_is_worth : Scope := defScope s_is_worth
theorem sc_is_worth : FnScope ["thing", "many"] ["thing", "many"] (defScope s_is_worth) := ⟨rfl, rfl, rfl, by decide +kernel, rfl, by decide +kernel, by decide +kernel⟩

abbrev s_is_rule_within : Stmt := top 18
abbrev Nsc_is_rule_within : List Str := ["thing", "many", "within", "part"]
abbrev Ssc_is_rule_within : Scope := defScope s_is_rule_within
theorem sc_is_rule_within : FnScope ["thing", "many", "within", "part"] ["thing", "many", "within"] (defScope s_is_rule_within) := ⟨rfl, rfl, rfl, by decide +kernel, rfl, by decide +kernel, by decide +kernel⟩

abbrev s_is_rule : Stmt := top 19
abbrev Nsc_is_rule : List Str := ["thing", "many"]
abbrev Ssc_is_rule : Scope := defScope s_is_rule
theorem sc_is_rule : FnScope ["thing", "many"] ["thing", "many"] (defScope s_is_rule) := ⟨rfl, rfl, rfl, by decide +kernel, rfl, by decide +kernel, by decide +kernel⟩

abbrev s_law : Stmt := top 39
abbrev Nsc_law : List Str := ["_law_script", "_law_pen_here", "_law_bout", "_law_count", "_law_by", "_law_great", "_law_rule_here", "_law_deep", "_law_k", "_law_more", "_law_j", "_law_some", "_law_thing_here", "_law_many", "_law_kept", "_law_due"]
abbrev Ssc_law : Scope := defScope s_law
theorem sc_law : FnScope ["_law_script", "_law_pen_here", "_law_bout", "_law_count", "_law_by", "_law_great", "_law_rule_here", "_law_deep", "_law_k", "_law_more", "_law_j", "_law_some", "_law_thing_here", "_law_many", "_law_kept", "_law_due"] ["_law_script"] (defScope s_law) := ⟨rfl, rfl, rfl, by decide +kernel, rfl, by decide +kernel, by decide +kernel⟩

local macro_rules | `(tactic| get_elem_tactic_trivial) => `(tactic| ((try simp only [Gg.ixD_0, Gg.ixD_1, Gg.ixD_2, Gg.atI_z0, Gg.atI_z1, Gg.atI_z2, Gg.atI_if2, Gg.ite_int, Gg.some_ex, decide_eq_true_eq, List.length_map, List.map_append, Nat.reduceLeDiff, Nat.reduceLT, Int.cast_ofNat_Int, Int.reduceLT, Int.reduceLE, true_and, and_true, ne_eq, reduceCtorEq, not_false_eq_true, Bool.false_eq_true, Bool.true_eq_false, if_true, if_false, ite_true, ite_false, decide_true, decide_false, Gg.isi_non_int, Gg.isi_non_bool, Gg.isi_non_str, Gg.isi_non_tuple, Gg.isi_non_list, Gg.isi_non_dict, Gg.isi_non_tuple_list, Gg.isi_non_list_tuple, Gg.isi_bl_int, Gg.isi_bl_bool, Gg.isi_bl_str, Gg.isi_bl_tuple, Gg.isi_bl_list, Gg.isi_bl_dict, Gg.isi_bl_tuple_list, Gg.isi_bl_list_tuple, Gg.isi_int_int, Gg.isi_int_bool, Gg.isi_int_str, Gg.isi_int_tuple, Gg.isi_int_list, Gg.isi_int_dict, Gg.isi_int_tuple_list, Gg.isi_int_list_tuple, Gg.isi_str_int, Gg.isi_str_bool, Gg.isi_str_str, Gg.isi_str_tuple, Gg.isi_str_list, Gg.isi_str_dict, Gg.isi_str_tuple_list, Gg.isi_str_list_tuple, Gg.isi_tup_int, Gg.isi_tup_bool, Gg.isi_tup_str, Gg.isi_tup_tuple, Gg.isi_tup_list, Gg.isi_tup_dict, Gg.isi_tup_tuple_list, Gg.isi_tup_list_tuple, Gg.isi_lst_int, Gg.isi_lst_bool, Gg.isi_lst_str, Gg.isi_lst_tuple, Gg.isi_lst_list, Gg.isi_lst_dict, Gg.isi_lst_tuple_list, Gg.isi_lst_list_tuple, Gg.isi_emp_int, Gg.isi_emp_bool, Gg.isi_emp_str, Gg.isi_emp_tuple, Gg.isi_emp_list, Gg.isi_emp_dict, Gg.isi_emp_tuple_list, Gg.isi_emp_list_tuple]); (repeat (dsimp only [Gg.dSeq, Gg.dSet, Gg.dOwn, Gg.dVar, Gg.dVarC, Gg.dC, Gg.dOp, Gg.dTest, Gg.dChain, Gg.dAndT, Gg.dOrT, Gg.dNotT, Gg.dAndV, Gg.dOrV, Gg.dNotV, Gg.dIf, Gg.dIfS, Gg.dRet, Gg.dRetN, Gg.dNext, Gg.dDrop, Gg.dAppend, Gg.dSetIx, Gg.dFrz, Gg.dPar, Gg.dB, Gg.dCall, Gg.dCons, Gg.dNil, Gg.dTup, Gg.dLst, Gg.dLc, Gg.dYes, Gg.dSeqI, Gg.dRng1, Gg.dRng2, Gg.dZip, Gg.dEnumT, Gg.dFor, Gg.dAsg, Gg.dgName, Gg.dgTup, Gg.dgCons, Gg.dgNil, Gg.dTruth, Gg.dNeg, Gg.dNoPart, Gg.dPart, Gg.dSl, Gg.dRv, Gg.dAug, Gg.dBreak, Gg.dCont, Gg.dNever, Gg.wipeS, Gg.startN, Gg.ends, Gg.rl_mapc, Gg.rl_mapn, Gg.rl_appc, Gg.rl_appn, Gg.rl_get0, Gg.rl_gets, Gg.rl_set0, Gg.rl_sets, Gg.rl_lenc, Gg.rl_lenn, Gg.rl_rep0, Gg.rl_reps, Nat.reduceAdd, Nat.reduceSub, Gg.dFld, Gg.dMeth, Gg.dM1, Gg.iNil, Gg.iDrop, Gg.iSet, Gg.iFld, Gg.iIf, Gg.startI, Gg.dNo, Gg.joinD_l, Gg.addD_i, Gg.addD_s, Gg.addD_t, Gg.addD_l, Gg.addD_bi, Gg.addD_ib, Gg.subD_i, Gg.mulD_i, Gg.mulD_t, Gg.mulD_l, Gg.modD_i, Gg.fdivD_i, Gg.powD_i, Gg.ltD_i, Gg.leD_i, Gg.gtD_i, Gg.geD_i, Gg.isND_non, Gg.notND_non, Gg.truD_non, Gg.isND_bl, Gg.notND_bl, Gg.truD_bl, Gg.isND_int, Gg.notND_int, Gg.truD_int, Gg.isND_str, Gg.notND_str, Gg.isND_tup, Gg.notND_tup, Gg.truD_tup, Gg.isND_lst, Gg.notND_lst, Gg.truD_lst, Gg.isND_obj, Gg.notND_obj, Gg.truD_str, Gg.slD_t, Gg.slD_l, Gg.slD_s, Gg.rvD_t, Gg.rvD_l, Gg.ixD_t, Gg.ixD_l, Gg.ixD_s, Gg.lenD_l, Gg.lenD_t, Gg.lenD_s, Gg.absD_i, Gg.intOfD_i, Gg.intOfD_b, Gg.tupleD_l, Gg.tupleD_t, Gg.listD_l, Gg.listD_t, Gg.sumD_l, Gg.allD_l, Gg.anyD_l, Gg.catLD_l, Gg.strD_i, Gg.seqQ_l, Gg.seqQ_t, Gg.seqQ_s, Gg.negQ_i, Gg.inQ_s, Gg.inD_ss, Gg.isS_s, Gg.min2D_j, Gg.max2D_j, Gg.cDraw_i, Gg.eqD_int, Gg.neD_int, Gg.eqD_bl, Gg.neD_bl, Gg.eqD_ss, Gg.neD_ss, Gg.eqD_ln, Gg.neD_ln, Gg.eqD_tn, Gg.neD_tn, Int.reduceAdd, Int.reduceSub, Int.reduceMul, Int.reducePow, Int.reduceToNat, Bool.not_true, Bool.not_false]; (try simp only [Gg.ixD_0, Gg.ixD_1, Gg.ixD_2, Gg.atI_z0, Gg.atI_z1, Gg.atI_z2, Gg.atI_if2, Gg.ite_int, Gg.some_ex, decide_eq_true_eq, List.length_map, List.map_append, Nat.reduceLeDiff, Nat.reduceLT, Int.cast_ofNat_Int, Int.reduceLT, Int.reduceLE, true_and, and_true, ne_eq, reduceCtorEq, not_false_eq_true, Bool.false_eq_true, Bool.true_eq_false, if_true, if_false, ite_true, ite_false, decide_true, decide_false, Gg.isi_non_int, Gg.isi_non_bool, Gg.isi_non_str, Gg.isi_non_tuple, Gg.isi_non_list, Gg.isi_non_dict, Gg.isi_non_tuple_list, Gg.isi_non_list_tuple, Gg.isi_bl_int, Gg.isi_bl_bool, Gg.isi_bl_str, Gg.isi_bl_tuple, Gg.isi_bl_list, Gg.isi_bl_dict, Gg.isi_bl_tuple_list, Gg.isi_bl_list_tuple, Gg.isi_int_int, Gg.isi_int_bool, Gg.isi_int_str, Gg.isi_int_tuple, Gg.isi_int_list, Gg.isi_int_dict, Gg.isi_int_tuple_list, Gg.isi_int_list_tuple, Gg.isi_str_int, Gg.isi_str_bool, Gg.isi_str_str, Gg.isi_str_tuple, Gg.isi_str_list, Gg.isi_str_dict, Gg.isi_str_tuple_list, Gg.isi_str_list_tuple, Gg.isi_tup_int, Gg.isi_tup_bool, Gg.isi_tup_str, Gg.isi_tup_tuple, Gg.isi_tup_list, Gg.isi_tup_dict, Gg.isi_tup_tuple_list, Gg.isi_tup_list_tuple, Gg.isi_lst_int, Gg.isi_lst_bool, Gg.isi_lst_str, Gg.isi_lst_tuple, Gg.isi_lst_list, Gg.isi_lst_dict, Gg.isi_lst_tuple_list, Gg.isi_lst_list_tuple, Gg.isi_emp_int, Gg.isi_emp_bool, Gg.isi_emp_str, Gg.isi_emp_tuple, Gg.isi_emp_list, Gg.isi_emp_dict, Gg.isi_emp_tuple_list, Gg.isi_emp_list_tuple])))))

theorem cStep_e {n : Nat} {R : D → Nat → Prop} : cStep [.pen] n R = (n ≤ 900000000 ∧ ∀ v : Int, 1 ≤ v → v ≤ 100000000 → R (.int v) (n + 1)) := rfl
theorem cThing_e {many upto by' : Int} {n : Nat} {R : D → Nat → Prop} : cThing [.pen, .int many, .int upto, .int by'] n R = (0 ≤ many ∧ many ≤ 1000 ∧ 0 ≤ upto ∧ upto < 1000000 ∧ 0 ≤ by' ∧ by' ≤ 1000000000 ∧ n + many.toNat ≤ 900000000 ∧ ∀ (ns : List Int) (n' : Nat), ns.length = many.toNat → (∀ x, x ∈ ns → ∃ k : Int, x = by' * k ∧ 0 ≤ k ∧ k ≤ upto) → n' ≤ n + many.toNat → R (tI ns) n') := rfl
theorem cMeetL_i {xs ys : List Int} {n : Nat} {R : D → Nat → Prop} (h : xs.length = ys.length) (l : xs.length ≤ 1000) (r : R (tI (List.zipWith mn xs ys)) n) : cMeetL [.tup (xs.map D.int), .tup (ys.map D.int)] n R := ⟨xs, ys, rfl, rfl, h, l, r⟩
theorem ms_by {b u : Int} {xs : List Int} (b0 : 0 ≤ b) (h : ∀ x, x ∈ xs → ∃ k : Int, x = b * k ∧ 0 ≤ k ∧ k ≤ u) (bu : b * u ≤ 1000000000) : Ms 1000000000 xs := fun x hx => by
  obtain ⟨k, rfl, k0, k1⟩ := h x hx
  exact ⟨Int.mul_nonneg b0 k0, Int.le_trans (Int.mul_le_mul_of_nonneg_left k1 b0) bu⟩
theorem Wbs.perm {n : Nat} {ds es : List D} (p : ds.Perm es) : ∀ {w : Nat}, Wbs n w ds → Wbs n w es := by
  have hd : ∀ {w : Nat} {d : D} {ds : List D}, Wbs n w (d :: ds) → ∃ a b, Wb n a d ∧ Wbs n b ds ∧ a + 2 + b ≤ w := fun {w d ds} h => by
    have pl := h.pl
    rw [plains, Bool.and_eq_true] at pl
    have bd := h.bd
    rw [toPs] at bd
    obtain ⟨a, b, h1, h2, h3⟩ := bd.head
    exact ⟨a, b, ⟨pl.1, h1⟩, ⟨pl.2, h2⟩, h3⟩
  induction p with
  | nil => exact fun h => h
  | cons x _ ih =>
    intro w h
    obtain ⟨a, b, h1, h2, h3⟩ := hd h
    exact (Wbs.cons h1 (ih h2)).mono (Nat.le_refl _) h3
  | swap x y l =>
    intro w h
    obtain ⟨a, b, h1, h2, h3⟩ := hd h
    obtain ⟨c, e, h4, h5, h6⟩ := hd h2
    exact (Wbs.cons h4 (Wbs.cons h1 h5)).mono (Nat.le_refl _) (by omega)
  | trans _ _ ih1 ih2 => exact fun h => ih2 (ih1 h)
theorem up310 {n w : Nat} {d : D} (h : Wb n w d) (hn : n ≤ 19) (hw : w ≤ 710000) : Gg.plain d = true ∧ Bd 310 19 710000 (toP d) := ⟨h.pl, (h.bd.more (by omega)).mono hn hw⟩
theorem sh_b (a : Bool) : Gg.plain (.bl a) = true ∧ (toP (.bl a)).showable = true ∧ (toP (.bl a)).shown.length ≤ sizeLine ∧ (toP (.bl a)).depth ≤ 60 := by
  cases a <;> exact ⟨by decide +kernel, by decide +kernel, by decide +kernel, by decide +kernel⟩


theorem law_bout {x0 x2 x3 x4 x5 x6 x7 x8 x9 x10 x11 x12 x13 x14 x15 : Sl} {n i : Nat} (hi : i < 9) (hn : n ≤ 1000000 * i) : (dSeq (dAsg (dTup (dCons (dOp addD (dC (.int 1)) (dCall cDraw (dCons (dVarC 1) (dCons (dC (.int 8)) dNil)))) (dCons (dCall cStep (dCons (dVarC 1) dNil)) dNil))) (dgTup 2 (dgCons (dgName 3) (dgCons (dgName 4) dgNil))))
    (dSeq (dSet 5 (dCall cThing (dCons (dVarC 1) (dCons (dVarC 3) (dCons (dC (.int 10)) (dCons (dVarC 4) dNil))))))
    (dSeq (dSet 6 (dCall (cRule 5) (dCons (dVarC 1) (dCons (dVarC 5) (dCons (dCall cMeetL (dCons (dVarC 5) (dCons (dCall cThing (dCons (dVarC 1) (dCons (dVarC 3) (dCons (dC (.int 10)) (dCons (dVarC 4) dNil))))) dNil))) (dCons (dOp addD (dC (.int 1)) (dCall cDraw (dCons (dVarC 1) (dCons (dC (.int 4)) dNil)))) dNil))))))
    (dSeq (dSet 7 (dCall cEdge (dCons (dVarC 1) (dCons (dVarC 3) dNil))))
    (dSeq (dFor (dRng1 (dCons (dCall cDraw (dCons (dVarC 1) (dCons (dC (.int 5)) dNil))) dNil)) (dgName 8) (dSeq (dSet 9 (dLc (dRng1 (dCons (dCall cDraw (dCons (dVarC 1) (dCons (dC (.int 5)) dNil))) dNil)) (dgName 10) dYes (dCall cEdge (dCons (dVarC 1) (dCons (dVarC 3) dNil))) [10]))
    (dSet 7 (dOp addD (dTup (dCons (dCall cPick (dCons (dVarC 1) (dCons (dC (.lst [.str "all", .str "any"])) dNil))) dNil)) (dB tupleD (dCons (dCall cShuf (dCons (dVarC 1) (dCons (dOp addD (dVar 9) (dLst (dCons (dVarC 7) dNil))) dNil))) dNil))))))
    (dSeq (dOwn 11 (dLst (dCons (dVarC 6) (dCons (dVarC 7) (dCons (dCall cEdge (dCons (dVarC 1) (dCons (dVarC 3) dNil))) (dCons (dC (.tup [])) (dCons (dC (.str "all")) (dCons (dC .non) (dCons (dC (.tup [.str "all", .tup [.str "all", .tup [.str "all", .tup [.str "all"]]]])) dNil)))))))))
    (dSeq (dFor (dRng1 (dCons (dC (.int 4)) dNil)) (dgName 8) (dSeq (dAppend 11 (dCall (cBn 20) (dCons (dVarC 1) (dCons (dOp ixD (dLst (dCons (dVarC 6) (dCons (dVarC 7) dNil))) (dOp modD (dVar 8) (dC (.int 2)))) dNil))))
    (dAppend 11 (dCall (cBn 20) (dCons (dVarC 1) (dCons (dOp ixD (dVar 11) (dC (.int (-1)))) dNil))))))
    (dFrz 11 (dFor (dSeqI (dVarC 11)) (dgName 12) (dFor (dSeqI (dTup (dCons (dVarC 3) (dCons (dOp addD (dOp modD (dVar 3) (dC (.int 8))) (dC (.int 1))) dNil)))) (dgName 13) (dSeq (dPar 14 15 false false (dB reprD (dCons (dVar 12) dNil)) (dCall (cRuW 5) (dCons (dVarC 12) (dCons (dVarC 13) (dCons (dC (.int 4)) dNil)))))
    (dIfS (dOrT (dTest (dOp neD (dB reprD (dCons (dCall cRu (dCons (dVarC 12) (dCons (dVarC 13) dNil))) dNil)) (dB reprD (dCons (dVar 15) dNil)))) (dTest (dOp neD (dB reprD (dCons (dVar 12) dNil)) (dVar 14)))) (dRet (dC (.bl false))) dNext)))))))))))) ⟨fun ρ' n' => ρ'.length = 16 ∧ ρ'[1]? = some (.val .pen) ∧ n' ≤ 1000000 * (i + 1), fun _ _ => False, fun _ _ => False, fun ρ' n' => ρ'.length = 16 ∧ ρ'[1]? = some (.val .pen) ∧ n' ≤ 1000000 * (i + 1)⟩ [x0, .val .pen, .val (.int i), x3, x4, x5, x6, x7, x8, x9, x10, x11, x12, x13, x14, x15] n := by
  (get_elem_tactic_trivial; repeat (dsimp only [cStep_e, cThing_e, cPick_l, cEdge_e]; get_elem_tactic_trivial))
  refine ⟨by omega, fun a a0 a1 => ⟨by omega, fun b b1 b2 => ⟨by omega, by omega, by omega, by omega, by omega, fun g n1 lg hg hn1 => ⟨by omega, by omega, by omega, by omega, by omega, fun g' n2 lg' hg' hn2 => ?_⟩⟩⟩⟩
  have mg := ms_by (by omega) hg (by omega)
  have mg' := ms_by (by omega) hg' (by omega)
  have lz : (List.zipWith mn g g').length = g.length := by rw [List.length_zipWith]; omega
  refine cMeetL_i (by omega) (by omega) ?_
  get_elem_tactic_trivial
  refine ⟨by omega, fun c c0 c1 => ?_⟩
  have pw : 6 ^ (1 + c).toNat ≤ 6 ^ 4 := Nat.pow_le_pow_right (by decide) (by omega)
  have pw' : 6 ^ (1 + c).toNat ≤ 1296 := pw
  refine cRule_e lz.symm (by omega) (by omega) mg (ms_mn mg mg') (by omega) (by omega) (by omega) (by omega) fun ru n3 fit dp kp hn3 => ?_
  have wr : Wb 9 173000 (ruD ru) := wb_ru4 (by omega) fit (by omega)
  (get_elem_tactic_trivial; repeat (dsimp only [cEdge_e]; get_elem_tactic_trivial))
  refine ⟨by omega, by omega, by omega, fun d0 n3' w0 hn3' => ⟨by omega, fun t t0 t1 => ⟨by omega, by omega, ?_⟩⟩⟩
  refine loop0 (fun j ρ n' => ∃ dd y8 y9 y10 y11 y12 y13 y14 y15, ρ = [x0, .val (.pen), .val (.int i), .val (.int (1 + a)), .val (.int b), .val (tI g), .val (ruD ru), .val (dd), y8, y9, y10, y11, y12, y13, y14, y15] ∧ Wb (7 + j) (2900 + 12000 * j) dd ∧ n' ≤ n3' + 1 + 1100 * j) ⟨d0, _, _, _, _, _, _, _, _, rfl, w0, by omega⟩ (fun j x ρ n' K hj hI hK => ?_) fun ρ n' hI => ?_
  · obtain ⟨dd, y8, y9, y10, y11, y12, y13, y14, y15, rfl, hd, hn⟩ := hI
    obtain ⟨rfl, hj'⟩ := rangeL_get hj
    have hj4 : j < 4 := by omega
    (get_elem_tactic_trivial; repeat (dsimp only [cPick_l]; get_elem_tactic_trivial))
    refine ⟨by omega, fun r r0 r1 => ⟨by omega, by omega, by rw [rangeL_len]; omega, lc_dr (fun d => Wb 7 2900 d) 200 (fun d hd' n4 S b4 q => ?_) fun rs n4 hl hp hn4 => ?_⟩⟩
    · rw [rangeL_len] at b4
      (get_elem_tactic_trivial; repeat (dsimp only [cEdge_e]; get_elem_tactic_trivial))
      exact ⟨by omega, by omega, by omega, fun d n5 w5 b5 => q d n5 w5 b5⟩
    rw [rangeL_len] at hl hn4
    have lr : rs.length ≤ 4 := by omega
    (get_elem_tactic_trivial; repeat (dsimp only [cPick_l, cShuf_e]; get_elem_tactic_trivial))
    refine ⟨by omega, fun wd hwd => ⟨by omega, by simp; omega, by simp; omega, fun ys n5 pm hn5 => ?_⟩⟩
    simp only [List.length_append, List.length_cons, List.length_nil] at hn5
    have lp := pm.length_eq
    simp only [List.length_append, List.length_cons, List.length_nil] at lp
    get_elem_tactic_trivial
    refine ⟨by omega, hK _ _ ⟨.tup (wd :: ys), _, _, _, _, _, _, _, _, rfl, ?_, by omega⟩⟩
    have wy : Wbs (7 + j) (4 * 2902 + (2900 + 12000 * j + 2)) ys := Wbs.perm pm.symm (((Wbs.of (n := 7 + j) (w := 2900) fun d hd => (hp d hd).mono (by omega) (Nat.le_refl _)).app (Wbs.cons hd (Wbs.nil (w := 0)))).mono (Nat.le_refl _) (by
      have : rs.length * (2900 + 2) ≤ 4 * 2902 := Nat.mul_le_mul_right 2902 lr
      omega))
    have ww : Wb (7 + j) 72 wd := by
      simp only [List.mem_cons, List.not_mem_nil, or_false] at hwd
      rcases hwd with rfl | rfl
      · exact wb_wd (by decide +kernel) (by decide) _
      · exact wb_wd (by decide +kernel) (by decide) _
    exact (Wb.tupS (Wbs.cons ww wy)).mono (by omega) (by omega)
  obtain ⟨dd, y8, y9, y10, y11, y12, y13, y14, y15, rfl, hd, hn⟩ := hI
  rw [rangeL_len] at hd hn
  have wd : Wb 11 51000 dd := hd.mono (by omega) (by omega)
  (get_elem_tactic_trivial; repeat (dsimp only [cEdge_e]; get_elem_tactic_trivial))
  refine ⟨by omega, by omega, by omega, fun e n4 we hn4 => ?_⟩
  refine loop0 (fun j ρ n' => ∃ L y8 y9 y10 y12 y13 y14 y15, ρ = [x0, .val (.pen), .val (.int i), .val (.int (1 + a)), .val (.int b), .val (tI g), .val (ruD ru), .val (dd), y8, y9, y10, .own L, y12, y13, y14, y15] ∧ L.length ≤ 7 + 2 * j ∧ (∀ d ∈ L, Gg.plain d = true ∧ Bd 310 19 710000 (toP d)) ∧ n' ≤ n4 + 400 * j) ⟨[ruD ru, dd, e, .tup [], .str "all", .non, .tup [.str "all", .tup [.str "all", .tup [.str "all", .tup [.str "all"]]]]], _, _, _, _, _, _, _, rfl, by simp, ?_, by omega⟩ (fun j x ρ n' K hj hI hK => ?_) fun ρ n' hI => ?_
  · intro d hd'
    simp only [List.mem_cons, List.not_mem_nil, or_false] at hd'
    rcases hd' with rfl | rfl | rfl | rfl | rfl | rfl | rfl
    · exact up310 wr (by decide) (by decide)
    · exact up310 wd (by decide) (by decide)
    · exact up310 we (by decide) (by decide)
    all_goals exact ⟨by decide +kernel, by decide +kernel, by decide +kernel, by decide +kernel⟩
  · obtain ⟨L, y8, y9, y10, y12, y13, y14, y15, rfl, hL, hg, hn⟩ := hI
    obtain ⟨rfl, hj'⟩ := rangeL_get hj
    have hj4 : j < 4 := hj'
    get_elem_tactic_trivial
    obtain ⟨z, ez, mz, _⟩ := atI_in (xs := [ruD ru, dd]) (d := (0 + (j : Int)) % 2) (by omega) (by show _ < 2; omega)
    have wz : Wb 11 173000 z := by
      simp only [List.mem_cons, List.not_mem_nil, or_false] at mz
      rcases mz with rfl | rfl
      · exact wr.mono (by omega) (by omega)
      · exact wd.mono (by omega) (by omega)
    refine ⟨z, ez, ?_⟩
    rw [cBn_e]
    refine ⟨wz.pl, 300, 11, 173000, wz.bd, by omega, by omega, by omega, by omega, by omega, by omega, fun d1 m1 p1 q1 h1 => ?_⟩
    get_elem_tactic_trivial
    refine ⟨by omega, d1, atI_last L d1, ?_⟩
    rw [cBn_e]
    refine ⟨p1, 304, 15, 350000, q1, by omega, by omega, by omega, by omega, by omega, by omega, fun d2 m2 p2 q2 h2 => ?_⟩
    get_elem_tactic_trivial
    refine ⟨by simp only [List.length_append, List.length_cons, List.length_nil]; omega, hK _ _ ⟨L ++ [d1] ++ [d2], _, _, _, _, _, _, _, rfl, ?_, ?_, ?_⟩⟩
    · simp only [List.length_append, List.length_cons, List.length_nil]; omega
    · intro d hd
      simp only [List.mem_append, List.mem_cons, List.not_mem_nil, or_false] at hd
      rcases hd with (hd | rfl) | rfl
      · exact hg d hd
      · exact ⟨p1, (q1.more (by omega)).mono (by omega) (by omega)⟩
      · exact ⟨p2, (q2.more (by omega)).mono (by omega) (by omega)⟩
    · omega
  obtain ⟨L, y8, y9, y10, y12, y13, y14, y15, rfl, hL, hg, hn⟩ := hI
  rw [rangeL_len] at hL hn
  have hn5 : n' ≤ n4 + 1600 := hn
  get_elem_tactic_trivial
  refine loop0 (fun j ρ m => ∃ y8 y9 y10 y12 y13 y14 y15, ρ = [x0, .val (.pen), .val (.int i), .val (.int (1 + a)), .val (.int b), .val (tI g), .val (ruD ru), .val (dd), y8, y9, y10, .val (.lst L), y12, y13, y14, y15] ∧ m = n') ⟨_, _, _, _, _, _, _, rfl, rfl⟩ (fun j d ρ m K hj hI hK => ?_) fun ρ m hI => ?_
  rotate_left
  · obtain ⟨y8, y9, y10, y12, y13, y14, y15, rfl, hm⟩ := hI
    exact ⟨rfl, rfl, by omega⟩
  obtain ⟨y8, y9, y10, y12, y13, y14, y15, rfl, hm⟩ := hI
  obtain ⟨pl, bd⟩ := hg d (List.mem_of_getElem? hj)
  obtain ⟨s1, s2, s3⟩ := bd.shown (by omega) (by omega)
  have sz : Sz d := ⟨pl, 310, 19, bd.mono (by omega) (by omega)⟩
  get_elem_tactic_trivial
  refine loop0 (fun j ρ m => ∃ y8 y9 y10 y13 y14 y15, ρ = [x0, .val (.pen), .val (.int i), .val (.int (1 + a)), .val (.int b), .val (tI g), .val (ruD ru), .val (dd), y8, y9, y10, .val (.lst L), .val (d), y13, y14, y15] ∧ m = n') ⟨_, _, _, _, _, _, rfl, hm⟩ (fun k md ρ m K' hk hI hK' => ?_) fun ρ m hI => ?_
  · obtain ⟨y8, y9, y10, y13, y14, y15, rfl, hm⟩ := hI
    obtain ⟨mm, rfl⟩ : ∃ mm : Int, md = .int mm := by
      have := List.mem_of_getElem? hk
      simp only [List.mem_cons, List.not_mem_nil, or_false] at this
      rcases this with rfl | rfl <;> exact ⟨_, rfl⟩
    obtain ⟨r1, r2, r3, r4⟩ := sh_b (ruleB mm 4 d)
    (get_elem_tactic_trivial; repeat (dsimp only [reprD, cRuW, cRu]; get_elem_tactic_trivial))
    refine ⟨pl, s1, s2, s3, sz, sz, r1, r2, r3, r4, r1, r2, r3, r4, ?_⟩
    exact ⟨pl, s1, s2, s3, hK' _ _ ⟨_, _, _, _, _, _, rfl, hm⟩⟩
  · obtain ⟨y8, y9, y10, y13, y14, y15, rfl, hm⟩ := hI
    exact hK _ _ ⟨_, _, _, _, _, _, _, rfl, hm⟩
theorem law_body (ρ : List Sl) (n i : Nat) (hl : ρ.length = 16) (hp : ρ[1]? = some (.val .pen)) (hi : i < 9) (hn : n ≤ 1000000 * i) : (dSeq (dAsg (dTup (dCons (dOp addD (dC (.int 1)) (dCall cDraw (dCons (dVarC 1) (dCons (dC (.int 8)) dNil)))) (dCons (dCall cStep (dCons (dVarC 1) dNil)) dNil))) (dgTup 2 (dgCons (dgName 3) (dgCons (dgName 4) dgNil))))
    (dSeq (dSet 5 (dCall cThing (dCons (dVarC 1) (dCons (dVarC 3) (dCons (dC (.int 10)) (dCons (dVarC 4) dNil))))))
    (dSeq (dSet 6 (dCall (cRule 5) (dCons (dVarC 1) (dCons (dVarC 5) (dCons (dCall cMeetL (dCons (dVarC 5) (dCons (dCall cThing (dCons (dVarC 1) (dCons (dVarC 3) (dCons (dC (.int 10)) (dCons (dVarC 4) dNil))))) dNil))) (dCons (dOp addD (dC (.int 1)) (dCall cDraw (dCons (dVarC 1) (dCons (dC (.int 4)) dNil)))) dNil))))))
    (dSeq (dSet 7 (dCall cEdge (dCons (dVarC 1) (dCons (dVarC 3) dNil))))
    (dSeq (dFor (dRng1 (dCons (dCall cDraw (dCons (dVarC 1) (dCons (dC (.int 5)) dNil))) dNil)) (dgName 8) (dSeq (dSet 9 (dLc (dRng1 (dCons (dCall cDraw (dCons (dVarC 1) (dCons (dC (.int 5)) dNil))) dNil)) (dgName 10) dYes (dCall cEdge (dCons (dVarC 1) (dCons (dVarC 3) dNil))) [10]))
    (dSet 7 (dOp addD (dTup (dCons (dCall cPick (dCons (dVarC 1) (dCons (dC (.lst [.str "all", .str "any"])) dNil))) dNil)) (dB tupleD (dCons (dCall cShuf (dCons (dVarC 1) (dCons (dOp addD (dVar 9) (dLst (dCons (dVarC 7) dNil))) dNil))) dNil))))))
    (dSeq (dOwn 11 (dLst (dCons (dVarC 6) (dCons (dVarC 7) (dCons (dCall cEdge (dCons (dVarC 1) (dCons (dVarC 3) dNil))) (dCons (dC (.tup [])) (dCons (dC (.str "all")) (dCons (dC .non) (dCons (dC (.tup [.str "all", .tup [.str "all", .tup [.str "all", .tup [.str "all"]]]])) dNil)))))))))
    (dSeq (dFor (dRng1 (dCons (dC (.int 4)) dNil)) (dgName 8) (dSeq (dAppend 11 (dCall (cBn 20) (dCons (dVarC 1) (dCons (dOp ixD (dLst (dCons (dVarC 6) (dCons (dVarC 7) dNil))) (dOp modD (dVar 8) (dC (.int 2)))) dNil))))
    (dAppend 11 (dCall (cBn 20) (dCons (dVarC 1) (dCons (dOp ixD (dVar 11) (dC (.int (-1)))) dNil))))))
    (dFrz 11 (dFor (dSeqI (dVarC 11)) (dgName 12) (dFor (dSeqI (dTup (dCons (dVarC 3) (dCons (dOp addD (dOp modD (dVar 3) (dC (.int 8))) (dC (.int 1))) dNil)))) (dgName 13) (dSeq (dPar 14 15 false false (dB reprD (dCons (dVar 12) dNil)) (dCall (cRuW 5) (dCons (dVarC 12) (dCons (dVarC 13) (dCons (dC (.int 4)) dNil)))))
    (dIfS (dOrT (dTest (dOp neD (dB reprD (dCons (dCall cRu (dCons (dVarC 12) (dCons (dVarC 13) dNil))) dNil)) (dB reprD (dCons (dVar 15) dNil)))) (dTest (dOp neD (dB reprD (dCons (dVar 12) dNil)) (dVar 14)))) (dRet (dC (.bl false))) dNext)))))))))))) ⟨fun ρ' n' => ρ'.length = 16 ∧ ρ'[1]? = some (.val .pen) ∧ n' ≤ 1000000 * (i + 1), fun _ _ => False, fun _ _ => False, fun ρ' n' => ρ'.length = 16 ∧ ρ'[1]? = some (.val .pen) ∧ n' ≤ 1000000 * (i + 1)⟩ (ρ.set 2 (.val (.int i))) n := by
  match ρ, hl, hp with
  | [x0, x1, x2, x3, x4, x5, x6, x7, x8, x9, x10, x11, x12, x13, x14, x15], _, hp =>
    cases (Option.some.inj hp : x1 = _)
    exact law_bout (x0 := x0) (x2 := x2) (x3 := x3) (x4 := x4) (x5 := x5) (x6 := x6) (x7 := x7) (x8 := x8) (x9 := x9) (x10 := x10) (x11 := x11) (x12 := x12) (x13 := x13) (x14 := x14) (x15 := x15) hi hn

section
variable {P : Program} {w : World} {K : PySem.W.Frag} {mg : Str → Option Value} {base : Heap} {f  : Addr} {fd : FuncData}

theorem okO_law_pen (F : Fun K "_law_pen" "_law_pen" s_law_pen f fd) (M : Bi mg) (C : Cs K mg) : FnOk P w K mg base CX0 1 f fd ["_law_script"] (spPen K) := by
  refine F.ok sc_law_pen (fun vs H Q E h => ?_) (fun cdv A outer s H vs Q E hr h => ?_)
  · obtain ⟨a, ns, rfl, _⟩ := h
    rfl
  obtain ⟨a, ns, rfl, h⟩ := h
  have hu := hu_of hr
  refine ⟨_, (pss_one (ps_ret (pe_disp (pps_cons pe_str (pe_callTy (call_listK (K := K)) (by rfl) M.list (by decide +kernel) (pa_cons (pe_slice (sl_listK (K := K)) (pv 0) po_none (po_some pe_int)) pa_nil)) (pps_cons pe_str pe_int (pps_cons pe_str pe_int pps_nil))) (by rfl) (by rfl) (fun z => by cases z) (by decide)))), ?_⟩
  obtain ⟨hS, h63, q⟩ := h
  intro p hp
  refine ⟨_, rfl, 63, rfl, a, ns.map V.int, rfl, (same_new hp _).seq hS, fun b hb => ?_⟩
  refine ⟨b, _, rfl, .inl (sqL upd_same), fun c hc => ?_⟩
  have n1 : b ≠ p := fun e => by rw [e, upd_same] at hb; cases hb
  have n2 : c ≠ p := fun e => by rw [e, upd_ne n1.symm, upd_same] at hc; cases hc
  refine ⟨by rw [upd_ne n2.symm, upd_ne n1.symm, upd_same], penL c 0 0, rfl, (by show 3 ≤ 15; decide), ?_⟩
  rw [merge_pen, cut63 h63]
  refine q p c _ (same_put (same_put (same_put (same_new hp _) ?_) ?_) hp) ⟨ns, 0, 0, upd_same, ?_, h63, by decide, by decide, by decide⟩
  · cases e : H b with
    | none => rfl
    | some o => rw [upd_ne n1, e] at hb; cases hb
  · have n3 : c ≠ b := fun e => by rw [e, upd_same] at hc; cases hc
    cases e : H c with
    | none => rfl
    | some o => rw [upd_ne n3, upd_ne n2, e] at hc; cases hc
  · rw [upd_ne n2, upd_same]

theorem okO_law_draw (F : Fun K "_law_draw" "_law_draw" s_law_draw f fd) (M : Bi mg) (C : Cs K mg) : FnOk P w K mg base CX0 1 f fd ["_law_pen_here", "_law_many"] (spDraw) := by
  refine F.ok sc_law_draw (fun vs H Q E h => ?_) (fun cdv A outer s H vs Q E hr h => ?_)
  · obtain ⟨p, c, B, many, rfl, _⟩ := h
    rfl
  obtain ⟨p, c, B, many, rfl, h⟩ := h
  have hu := hu_of hr
  refine ⟨_, (pss_cons (ps_if (pt_cmpR op_gt (pe_dget hu (pv 0) pe_str (fun _ _ => rfl)) pe_int (nomark _)) (pss_cons (ps_set (i := 2) sc_law_draw.nd rfl (Or.inl rfl) (pe_op op_mod (pe_dget hu (pv 0) pe_str (fun _ _ => rfl)) (pv 1)))
    (pss_cons (ps_dput hu (pv 0) pe_str (pe_op op_fdiv (pe_dget hu (pv 0) pe_str (fun _ _ => rfl)) (pv 1)) rfl)
    (pss_one (ps_ret (pv 2))))) pss_nil)
    (pss_cons (ps_set (i := 3) sc_law_draw.nd rfl (Or.inl rfl) (pe_dget hu (pv 0) pe_str (fun _ _ => rfl)))
    (pss_cons (ps_dput hu (pv 0) pe_str (pe_op op_add (pv 3) pe_int) rfl)
    (pss_cons (ps_set (i := 4) sc_law_draw.nd rfl (Or.inl rfl) (pe_op op_add (pe_op op_mul pe_int (pv 3)) pe_int))
    (pss_cons (ps_via (ps_if (pt_cmpR (op_neDK (K := K) hr.units) (pe_dget hu (pv 0) pe_str (fun _ _ => rfl)) (pe_lst pa_nil) (nomark _)) (pss_one (ps_set (i := 4) sc_law_draw.nd rfl (Or.inl rfl) (pe_ix (ix_listK (K := K)) (pe_dget hu (pv 0) pe_str (fun _ _ => rfl)) (pe_op op_mod (pv 3) (pe_callB (call_lenK (K := K)) (by rfl) M.len (by decide +kernel) (pa_cons (pe_dget hu (pv 0) pe_str (fun _ _ => rfl)) pa_nil))) (fun _ _ => rfl)))) pss_nil))
    (pss_cons (ps_via (ps_if (PW.pt (pw_and (pt_cmpR op_lt (pv 3) (pe_callB (call_lenK (K := K)) (by rfl) M.len (by decide +kernel) (pa_cons (pe_dget hu (pv 0) pe_str (fun _ _ => rfl)) pa_nil)) (nomark _)) (pw_and1 (pt_cmpR op_ge (pe_callB call_abs (by rfl) M.abs (by decide +kernel) (pa_cons (pv 4) pa_nil)) (pe_op op_pow pe_int pe_int) (nomark _))))) (pss_cons (ps_dput hu (pv 0) pe_str (pe_op op_fdiv (pe_op op_sub (pe_callB call_abs (by rfl) M.abs (by decide +kernel) (pa_cons (pv 4) pa_nil)) (pe_op op_pow pe_int pe_int)) (pv 1)) rfl)
    (pss_one (ps_ret (pe_op op_mod (pe_op op_sub (pe_callB call_abs (by rfl) M.abs (by decide +kernel) (pa_cons (pv 4) pa_nil)) (pe_op op_pow pe_int pe_int)) (pv 1))))) pss_nil))
    (pss_cons (ps_set (i := 5) sc_law_draw.nd rfl (Or.inl rfl) (pe_lst (pa_cons pe_int (pa_cons pe_int (pa_cons pe_int (pa_cons pe_int (pa_cons pe_int pa_nil)))))))
    (pss_cons (ps_set (i := 6) sc_law_draw.nd rfl (Or.inl rfl) (pe_ix (ix_listK (K := K)) (pv 5) (pe_op op_mod (pv 3) pe_int) (fun _ _ => rfl)))
    (pss_cons (ps_set (i := 7) sc_law_draw.nd rfl (Or.inl rfl) (pe_op op_mod (pe_op op_add (pe_op op_add (pe_op op_mul (pe_op op_mod (pv 4) (pv 6)) pe_int) (pe_op op_mul (pe_op op_mul pe_int (pv 3)) (pv 3))) pe_int) (pv 6)))
    (pss_cons (ps_set (i := 7) sc_law_draw.nd rfl (Or.inl rfl) (pe_op op_mod (pe_op op_mul (pv 7) (pe_op op_add (pv 7) pe_int)) (pe_ix (ix_listK (K := K)) (pv 5) (pe_op op_mod (pe_op op_add (pv 3) pe_int) pe_int) (fun _ _ => rfl))))
    (pss_one (ps_ret (pe_op op_mod (pe_op op_fdiv (pe_op op_mod (pe_op op_mul (pv 7) (pv 7)) pe_int) pe_int) (pv 1)))))))))))))), ?_⟩
  obtain ⟨hP, hB, hm, hm2, q⟩ := h
  obtain ⟨cells, turn, rest, e1, e2, hl, ht, htB, hrest⟩ := hP
  have ncp : c ≠ p := ne_of e2 e1 (fun z => by cases z)
  refine ⟨_, rfl, p, .int rest, rfl, get_rest e1, _, _, rfl, rfl, _, rfl, ?_⟩
  refine ite2 (fun z => ?_) (fun z => ?_)
  · refine ⟨_, rfl, p, _, rfl, get_rest e1, _, rfl, _, _, rfl, rfl, hm, ?_⟩
    refine ⟨_, rfl, p, _, rfl, get_rest e1, _, rfl, _, _, rfl, rfl, ⟨hm, hm2⟩, _, rfl, p, _, rfl, dput_rest e1, ?_⟩
    refine ⟨_, rfl, q _ _ (Int.emod_nonneg _ (by omega)) (Int.emod_lt_of_pos _ hm) Kp.pen ⟨cells, turn, rest / many, upd_same, by rw [upd_ne ncp]; exact e2, hl, ht, by omega, Int.ediv_nonneg hrest (by omega)⟩⟩
  · refine ⟨_, rfl, p, _, rfl, get_turn e1, ?_⟩
    refine ⟨_, rfl, _, _, rfl, rfl, _, rfl, p, _, rfl, dput_turn e1, ?_⟩
    refine ⟨_, rfl, _, _, rfl, rfl, .inl ⟨by decide, by decide⟩, _, _, rfl, rfl, ?_⟩
    generalize hH1 : upd H p (.dK (penL c (turn + 1) rest)) = H1
    have f1 : H1 p = some (.dK (penL c (turn + 1) rest)) := by rw [← hH1]; exact upd_same
    have f2 : H1 c = some (.lst (cells.map V.int)) := by rw [← hH1, upd_ne ncp]; exact e2
    have g1 : Kp p H H1 := by rw [← hH1]; exact Kp.pen
    refine ⟨fun σ' H' => ∃ cell : Int, σ' = [some (.ref p), some (.int many), none, some (.int turn), some (.int cell), none, none, none] ∧ Same H1 H', ?_, ?_⟩
    · refine ⟨_, rfl, p, _, rfl, get_cells f1, (by show 0 ≤ sizeLine; decide), fun b hb => ?_⟩
      have sb : Same H1 (upd H1 b (.lst [])) := same_new hb _
      refine ⟨.list (cells.map PyData.int), .list [], .lst (sqL (sb _ _ f2)) (dp_ints cells), .lst (sqL upd_same) .nil, ?_, by decide, _, rfl, ?_⟩
      · unfold SeqAt.shaped
        rw [PyData.canLay0, PyData.depth, depth_ints]
        rw [show PyData.canLayAll0 (cells.map PyData.int) = true from by
          clear e2 f2 hl
          induction cells with
          | nil => rw [List.map_nil, PyData.canLayAll0]
          | cons x xs ih => rw [List.map_cons, PyData.canLayAll0, ih, PyData.canLay0]; rfl]
        decide
      refine ite2 (fun y => ?_) (fun y => ?_)
      · have ne : cells ≠ [] := fun e => by subst e; simp [PyData.eqv, PyData.eqvAll] at y
        have pos : 0 < cells.length := List.length_pos_iff.mpr ne
        have ll : (cells.map V.int).length = cells.length := List.length_map _
        have b0 : 0 ≤ turn % ((cells.map V.int).length : Int) := Int.emod_nonneg _ (by omega)
        have b1 : turn % ((cells.map V.int).length : Int) < (cells.length : Int) := by rw [ll]; exact Int.emod_lt_of_pos _ (by omega)
        obtain ⟨v, hv, _, _⟩ := at_int (ns := cells) b0 b1
        refine ⟨_, rfl, p, _, rfl, get_cells (sb _ _ f1), _, rfl, _, rfl, p, _, rfl, get_cells (sb _ _ f1), c, _, rfl, .inl (sqL (sb _ _ f2)), _, _, rfl, rfl, ?_, c, _, _, _, rfl, rfl, sqL (sb _ _ f2), hv, ?_⟩
        · rw [ll]; omega
        · exact ⟨v, rfl, sb⟩
      · exact ⟨31 * turn + 5, rfl, sb⟩
    · rintro σ' H2 ⟨cell, rfl, g2⟩
      have f1 := g2 _ _ f1
      have f2 := g2 _ _ f2
      have g3 : Kp p H H2 := g1.trans (Kp.of_same g2)
      have pn : ∀ r : Int, 0 ≤ r → Pen (upd H2 p (.dK (penL c (turn + 1) r))) p c (B + 1) := fun r hr => ⟨cells, turn + 1, r, upd_same, by rw [upd_ne ncp]; exact f2, hl, by omega, by omega, hr⟩
      have pw : CPow 10 18 := ⟨by decide, by decide, by decide⟩
      refine ⟨fun σ' H' => σ' = [some (.ref p), some (.int many), none, some (.int turn), some (.int cell), none, none, none] ∧ H' = H2, ?_, ?_⟩
      · refine ⟨_, rfl, _, rfl, p, _, rfl, get_cells f1, c, _, rfl, .inl (sqL f2), _, _, rfl, rfl, _, rfl, ?_⟩
        refine ite2 (fun y => ?_) (fun y => iteF ⟨rfl, rfl⟩)
        refine ⟨_, rfl, _, rfl, _, _, rfl, rfl, pw, _, _, rfl, rfl, _, rfl, ?_⟩
        refine ite2 (fun y2 => ?_) (fun y2 => ⟨rfl, rfl⟩)
        have big := of_decide_eq_true y2
        refine ⟨_, rfl, _, rfl, _, _, rfl, rfl, pw, _, _, rfl, rfl, _, rfl, _, _, rfl, rfl, ⟨hm, hm2⟩, _, rfl, p, _, rfl, dput_rest f1, ?_⟩
        refine ⟨_, rfl, _, rfl, _, _, rfl, rfl, pw, _, _, rfl, rfl, _, rfl, _, _, rfl, rfl, hm, ?_⟩
        exact q _ _ (Int.emod_nonneg _ (by omega)) (Int.emod_lt_of_pos _ hm) (g3.trans Kp.pen) (pn _ (Int.ediv_nonneg (by omega) (by omega)))
      · rintro σ' H' ⟨rfl, rfl⟩
        refine ⟨(by show 5 ≤ sizeLine; decide), fun b hb => ?_⟩
        have t5 : 0 ≤ turn % 5 ∧ turn % 5 < 5 := ⟨Int.emod_nonneg _ (by decide), Int.emod_lt_of_pos _ (by decide)⟩
        have t6 : 0 ≤ (turn + 3) % 5 ∧ (turn + 3) % 5 < 5 := ⟨Int.emod_nonneg _ (by decide), Int.emod_lt_of_pos _ (by decide)⟩
        obtain ⟨m1, hm1, a1, a2⟩ := prime_at t5.1 t5.2
        obtain ⟨m2, hm2', c1, c2⟩ := prime_at t6.1 t6.2
        refine ⟨_, rfl, _, rfl, _, _, rfl, rfl, (show (0 : Int) < 5 by decide), b, _, _, _, rfl, rfl, sqL upd_same, hm1, ?_⟩
        have r1 : 0 ≤ cell % m1 ∧ cell % m1 < m1 := ⟨Int.emod_nonneg _ (by omega), Int.emod_lt_of_pos _ a1⟩
        refine ⟨_, rfl, _, rfl, _, _, rfl, rfl, a1, _, _, rfl, rfl, .inl ⟨by omega, by omega⟩, _, rfl, _, _, rfl, rfl, .inl ⟨by decide, by decide⟩, _, rfl, _, _, rfl, rfl, .inr ⟨by omega, by omega⟩, _, _, rfl, rfl, _, _, rfl, rfl, _, rfl, _, _, rfl, rfl, a1, ?_⟩
        have r2 : 0 ≤ (cell % m1 * 69621 + 40692 * turn * turn + 11) % m1 ∧ (cell % m1 * 69621 + 40692 * turn * turn + 11) % m1 < m1 := ⟨Int.emod_nonneg _ (by omega), Int.emod_lt_of_pos _ a1⟩
        refine ⟨_, rfl, _, rfl, _, _, rfl, rfl, _, _, rfl, rfl, .inl ⟨by omega, by omega⟩, _, rfl, _, rfl, _, _, rfl, rfl, _, _, rfl, rfl, (show (0 : Int) < 5 by decide), b, _, _, _, rfl, rfl, sqL upd_same, hm2', _, _, rfl, rfl, c1, ?_⟩
        have r3 : ∀ u : Int, -(2 ^ 64) < u % m2 ∧ u % m2 < 2 ^ 64 := fun u => by
          have z1 := Int.emod_nonneg u (show m2 ≠ 0 by omega)
          have z2 := Int.emod_lt_of_pos u c1
          exact ⟨by omega, by omega⟩
        refine ⟨_, rfl, _, rfl, _, _, rfl, rfl, .inl (r3 _), _, _, rfl, rfl, (show (0 : Int) < 2147483549 by decide), _, _, rfl, rfl, ⟨by decide, by decide⟩, _, rfl, _, _, rfl, rfl, hm, ?_⟩
        exact q _ _ (Int.emod_nonneg _ (by omega)) (Int.emod_lt_of_pos _ hm) (g3.trans (Kp.new hb)) (Pen.keep ⟨cells, turn + 1, rest, f1, f2, hl, by omega, by omega, hrest⟩ (same_new hb _))

theorem ok_law_thing (F : Fun K "_law_thing" "_law_thing" s_law_thing f fd) (M : Bi mg) (C : Cs K mg) (O_law_draw : Ow P w K mg base "_law_draw" 1 ["_law_pen_here", "_law_many"] (spD cDraw)) : FnOk P w K mg base CX0 2 f fd ["_law_pen_here", "_law_many", "_law_upto", "_law_by"] (spD cThing) :=
  Fun.okQ F sc_law_thing rfl (fun ds n R h => by unfold cThing at h; split at h <;> first | rfl | exact h.elim | exact h.1.elim) (fun cdv A outer s H E Γ hr => (qss_one (qs_ret (q_s (q_bty qc_tuple (by rfl) M.tuple (by decide +kernel) (q_conss (q_s (q_f (q_lc (own := [("_law_k", 4)]) (by rfl) sc_law_thing.nd (qi_c (qi_range1 (by rfl) M.range (q_cons (qvC 1) q_nil))) (blkOk_by (own := [("_law_k", 4)]) (N := Nsc_law_thing) (sc := Ssc_law_thing) (by decide +kernel)) rfl (fun _ _ _ _ _ => (qg_name 4 sc_law_thing.nd (by rfl) (Or.inl (by rfl)))) (fun _ _ _ _ _ => qts_nil) (fun _ _ _ _ _ => (q_op qo_mul (qv 3) (q_s (q_call (O_law_draw.G.mono (by omega)) hr (by rfl) O_law_draw.M O_law_draw.kp O_law_draw.b (q_cons (qvC 0) (q_cons (q_op qo_add (qv 2) (q_s q_int)) q_nil))))))))) q_nils)))))) (fun h => wp_law_thing h)

theorem ok_law_pick (F : Fun K "_law_pick" "_law_pick" s_law_pick f fd) (M : Bi mg) (C : Cs K mg) (O_law_draw : Ow P w K mg base "_law_draw" 1 ["_law_pen_here", "_law_many"] (spD cDraw)) : FnOk P w K mg base CX0 2 f fd ["_law_pen_here", "_law_some"] (spD cPick) :=
  Fun.okQ F sc_law_pick rfl (fun ds n R h => by unfold cPick at h; split at h <;> first | rfl | exact h.elim | exact h.1.elim) (fun cdv A outer s H E Γ hr => (qss_one (qs_ret (q_s (q_ix (qv 1) (q_s (q_call (O_law_draw.G.mono (by omega)) hr (by rfl) O_law_draw.M O_law_draw.kp O_law_draw.b (q_cons (qvC 0) (q_cons (q_bi qc_len (by rfl) M.len (by decide +kernel) (q_conss (qv 1) q_nils)) q_nil))))))))) (fun h => wp_law_pick h)

theorem ok_law_scale {m : Nat} (F : Fun K "_law_scale" "_law_scale" s_law_scale f fd) (M : Bi mg) (C : Cs K mg) (O_law_draw : Ow P w K mg base "_law_draw" 1 ["_law_pen_here", "_law_many"] (spD cDraw)) (O_law_pick : Ow P w K mg base "_law_pick" 2 ["_law_pen_here", "_law_some"] (spD cPick)) (GG : FnOk P w K mg base CX0 (2 + m) f fd ["_law_pen_here", "_law_many", "_law_deep"] (spD (cScale m))) (mG : mg "_law_scale" = some (.ref f)) (kG : PySem.W.keepIn K (.ref f) = true) (bG : Binds K fd ["_law_pen_here", "_law_many", "_law_deep"] []) : FnOk P w K mg base CX0 (2 + m + 1) f fd ["_law_pen_here", "_law_many", "_law_deep"] (spD (cScale (m + 1))) :=
  Fun.okQ F sc_law_scale rfl (fun ds n R h => by unfold cScale at h; split at h <;> first | rfl | exact h.elim | exact h.1.elim) (fun cdv A outer s H E Γ hr => (qss_cons (qs_set 3 sc_law_scale.nd (by rfl) (Or.inl (by rfl)) (q_call (O_law_draw.G.mono (by omega)) hr (by rfl) O_law_draw.M O_law_draw.kp O_law_draw.b (q_cons (qvC 0) (q_cons (q_ix (q_s (q_lit (by decide +kernel) (by rfl))) (q_s (q_bty qc_int (by rfl) M.int (by decide +kernel) (q_conss (q_s (q_cmp qo_gt (qv 2) (q_s q_int) (nomark _))) q_nils)))) q_nil))))
    (qss_cons (qs_if (qt_cmp qo_gt (qv 3) (q_s q_int) (nomark _)) (qss_cons (qs_set 4 sc_law_scale.nd (by rfl) (Or.inl (by rfl)) (q_ix (q_s (q_lit (by decide +kernel) (by rfl))) (q_s (q_op qo_sub (qv 3) (q_s q_int)))))
    (qss_one (qs_ret (q_s (q_tup (q_cons (qvC 4) (q_cons (q_call GG hr (by rfl) mG kG bG (q_cons (qvC 0) (q_cons (qvC 1) (q_cons (q_op qo_sub (qv 2) (q_s q_int)) q_nil)))) (q_cons (q_call GG hr (by rfl) mG kG bG (q_cons (qvC 0) (q_cons (qvC 1) (q_cons (q_op qo_sub (qv 2) (q_s q_int)) q_nil)))) q_nil)))))))) qss_nil)
    (qss_cons (qs_if (qt_cmp qo_gt (qv 3) (q_s q_int) (nomark _)) (qss_one (qs_ret (q_s (q_ix (q_s (q_lit (by decide +kernel) (by rfl))) (q_s (q_op qo_sub (qv 3) (q_s q_int))))))) qss_nil)
    (qss_one (qs_ret (q_s (q_tup (q_cons q_str (q_cons (q_bty qc_tuple (by rfl) M.tuple (by decide +kernel) (q_conss (q_s (q_f (q_lc (own := [("_law_k", 5)]) (by rfl) sc_law_scale.nd (qi_c (qi_range1 (by rfl) M.range (q_cons (qvC 1) q_nil))) (blkOk_by (own := [("_law_k", 5)]) (N := Nsc_law_scale) (sc := Ssc_law_scale) (by decide +kernel)) rfl (fun _ _ _ _ _ => (qg_name 5 sc_law_scale.nd (by rfl) (Or.inl (by rfl)))) (fun _ _ _ _ _ => qts_nil) (fun _ _ _ _ _ => (q_call (O_law_pick.G.mono (by omega)) hr (by rfl) O_law_pick.M O_law_pick.kp O_law_pick.b (q_cons (qvC 0) (q_cons (q_lit (by decide +kernel) (by rfl)) q_nil))))))) q_nils)) q_nil)))))))))) (fun h => wp_law_scale h)
theorem rec_law_scale (F : Fun K "_law_scale" "_law_scale" s_law_scale f fd) (M : Bi mg) (C : Cs K mg) (O_law_draw : Ow P w K mg base "_law_draw" 1 ["_law_pen_here", "_law_many"] (spD cDraw)) (O_law_pick : Ow P w K mg base "_law_pick" 2 ["_law_pen_here", "_law_some"] (spD cPick)) (mG : mg "_law_scale" = some (.ref f)) (kG : PySem.W.keepIn K (.ref f) = true) (bG : Binds K fd ["_law_pen_here", "_law_many", "_law_deep"] []) : ∀ m : Nat, FnOk P w K mg base CX0 (2 + m) f fd ["_law_pen_here", "_law_many", "_law_deep"] (spD (cScale m))
  | 0 => by
    have no : ∀ vs H Q E, ¬ (spD (cScale 0)) vs H Q E := fun vs H Q E ⟨_, _, _, _, _, _, _, _, _, h, _⟩ => cScale_zero h
    exact ⟨fun vs H Q E h => absurd h (no vs H Q E), fun A outer s H args us vs Q E _ _ _ _ h => absurd h (no vs H Q E)⟩
  | m + 1 => ok_law_scale F M C O_law_draw O_law_pick (rec_law_scale F M C O_law_draw O_law_pick mG kG bG m) mG kG bG

theorem ok_law_bound (F : Fun K "_law_bound" "_law_bound" s_law_bound f fd) (M : Bi mg) (C : Cs K mg) (O_law_pick : Ow P w K mg base "_law_pick" 2 ["_law_pen_here", "_law_some"] (spD cPick)) (O_law_draw : Ow P w K mg base "_law_draw" 1 ["_law_pen_here", "_law_many"] (spD cDraw)) : FnOk P w K mg base CX0 3 f fd ["_law_pen_here", "_law_count", "_law_other"] (spD cBound) :=
  Fun.okQ F sc_law_bound rfl (fun ds n R h => by unfold cBound at h; split at h <;> first | rfl | exact h.elim | exact h.1.elim) (fun cdv A outer s H E Γ hr => (qss_cons (qs_set 3 sc_law_bound.nd (by rfl) (Or.inl (by rfl)) (q_f (q_lst (q_cons (qvC 1) (q_cons (qvC 2) (q_cons (q_bi (qc_min2 (by rfl)) (by rfl) M.min (by decide +kernel) (q_conss (qv 1) (q_conss (q_s (q_op qo_add (qv 2) (q_s q_int))) q_nils))) (q_cons (q_bi (qc_max2 (by rfl)) (by rfl) M.max (by decide +kernel) (q_conss (q_s q_int) (q_conss (q_s (q_op qo_sub (qv 2) (q_s q_int))) q_nils))) (q_cons (q_op qo_fdiv (qv 1) (q_s q_int)) (q_cons q_int q_nil)))))))))
    (qss_one (qs_ret (q_s (q_bi (qc_min2 (by rfl)) (by rfl) M.min (by decide +kernel) (q_conss (qv 1) (q_conss (q_s (q_call (O_law_pick.G.mono (by omega)) hr (by rfl) O_law_pick.M O_law_pick.kp O_law_pick.b (q_cons (qvC 0) (q_cons (q_op qo_add (qv 3) (q_s (q_f (q_lst (q_cons (q_call (O_law_draw.G.mono (by omega)) hr (by rfl) O_law_draw.M O_law_draw.kp O_law_draw.b (q_cons (qvC 0) (q_cons (q_op qo_add (q_s (q_bi (qc_min2 (by rfl)) (by rfl) M.min (by decide +kernel) (q_conss (qv 1) (q_conss (q_s (q_lit (by decide +kernel) (by rfl))) q_nils)))) (q_s q_int)) q_nil))) q_nil))))) q_nil)))) q_nils)))))))) (fun h => wp_law_bound h)

theorem ok_law_shuffled (F : Fun K "_law_shuffled" "_law_shuffled" s_law_shuffled f fd) (M : Bi mg) (C : Cs K mg) (O_law_draw : Ow P w K mg base "_law_draw" 1 ["_law_pen_here", "_law_many"] (spD cDraw)) : FnOk P w K mg base CX0 2 f fd ["_law_pen_here", "_law_some"] (spD cShuf) :=
  Fun.okQ F sc_law_shuffled rfl (fun ds n R h => by unfold cShuf at h; split at h <;> first | rfl | exact h.elim | exact h.1.elim) (fun cdv A outer s H E Γ hr => (qss_cons (qs_parFF 2 3 (by rfl) sc_law_shuffled.nd (by rfl) (by rfl) (by decide) (by rfl) (by rfl) (q_list (by rfl) M.list (by decide +kernel) (q_conss (qv 1) q_nils)) (q_lst q_nil) (by rfl))
    (qss_cons (qs_while PassesOwn.never (qt_cmp (qo_ne hr.units) (qv 2) (q_s (q_lit (by decide +kernel) (by rfl))) (nomark _)) (qss_one (qs_appPop 3 2 (by decide) (by rfl) (by rfl) (q_call (O_law_draw.G.mono (by omega)) hr (by rfl) O_law_draw.M O_law_draw.kp O_law_draw.b (q_cons (qvC 0) (q_cons (q_bi qc_len (by rfl) M.len (by decide +kernel) (q_conss (qv 2) q_nils)) q_nil))))))
    (qss_frz 3 (qss_frz 2 (qss_one (qs_ret (qv 3)))))))) (fun h => wp_law_shuffled h)

theorem ok_law_worth {m : Nat} (F : Fun K "_law_worth" "_law_worth" s_law_worth f fd) (M : Bi mg) (C : Cs K mg) (GG : FnOk P w K mg base CX0 (0 + m) f fd ["_law_scale_here", "_law_thing_here"] (spD (cWorthL m))) (mG : mg "_law_worth" = some (.ref f)) (kG : PySem.W.keepIn K (.ref f) = true) (bG : Binds K fd ["_law_scale_here", "_law_thing_here"] []) : FnOk P w K mg base CX0 (0 + m + 1) f fd ["_law_scale_here", "_law_thing_here"] (spD (cWorthL (m + 1))) :=
  Fun.okQ F sc_law_worth rfl (fun ds n R h => by unfold cWorthL at h; split at h <;> first | rfl | exact h.elim | exact h.1.elim) (fun cdv A outer s H E Γ hr => (qss_cons (qs_if (qt_cmp (qo_eq hr.units) (q_s (q_ix (qv 0) (q_s q_int))) (q_s q_str) (nomark _)) (qss_one (qs_ret (q_s (q_bi (qc_sum (by rfl)) (by rfl) M.sum (by decide +kernel) (q_conss (q_s (q_f (q_lc (own := [("_law_k", 2)]) (by rfl) sc_law_worth.nd (qi_c (qi_range1 (by rfl) M.range (q_cons (q_bi qc_len (by rfl) M.len (by decide +kernel) (q_conss (qv 1) q_nils)) q_nil))) (blkOk_by (own := [("_law_k", 2)]) (N := Nsc_law_worth) (sc := Ssc_law_worth) (by decide +kernel)) rfl (fun _ _ _ _ _ => (qg_name 2 sc_law_worth.nd (by rfl) (Or.inl (by rfl)))) (fun _ _ _ _ _ => qts_nil) (fun _ _ _ _ _ => (q_op qo_mul (q_s (q_ix (q_s (q_ix (qv 0) (q_s q_int))) (qv 2))) (q_s (q_ix (qv 1) (qv 2)))))))) q_nils))))) qss_nil)
    (qss_cons (qs_if (qt_cmp (qo_eq hr.units) (q_s (q_ix (qv 0) (q_s q_int))) (q_s q_str) (nomark _)) (qss_cons (qs_set 3 sc_law_worth.nd (by rfl) (Or.inl (by rfl)) q_int)
    (qss_cons (qs_for (vs := [4]) PassesOwn.never (by rfl) (qi_seq (qvC 1)) (qg_name 4 sc_law_worth.nd (by rfl) (Or.inl (by rfl))) (qss_one (qs_set 3 sc_law_worth.nd (by rfl) (Or.inl (by rfl)) (q_op qo_mul (qv 3) (qv 4)))))
    (qss_one (qs_ret (qv 3))))) qss_nil)
    (qss_cons (qs_if (qt_cmp (qo_in hr.units) (q_s (q_ix (qv 0) (q_s q_int))) (q_s (q_lit (by decide +kernel) (by rfl))) (by first | exact nomark _ | rfl)) (qss_one (qs_ret (q_s (q_if (qt_cmp (qo_eq hr.units) (q_s (q_ix (qv 0) (q_s q_int))) (q_s q_str) (nomark _)) (q_bi (qc_min (by rfl)) (by rfl) M.min (by decide +kernel) (q_conss (qv 1) q_nils)) (q_bi (qc_max (by rfl)) (by rfl) M.max (by decide +kernel) (q_conss (qv 1) q_nils)))))) qss_nil)
    (qss_cons (qs_set 5 sc_law_worth.nd (by rfl) (Or.inl (by rfl)) (q_f (q_lst (q_cons (q_call GG hr (by rfl) mG kG bG (q_cons (q_ix (qv 0) (q_s q_int)) (q_cons (qvC 1) q_nil))) (q_cons (q_call GG hr (by rfl) mG kG bG (q_cons (q_ix (qv 0) (q_s q_int)) (q_cons (qvC 1) q_nil))) q_nil)))))
    (qss_cons (qs_if (qt_cmp (qo_eq hr.units) (q_s (q_ix (qv 0) (q_s q_int))) (q_s q_str) (nomark _)) (qss_one (qs_ret (q_s (q_bi (qc_sum (by rfl)) (by rfl) M.sum (by decide +kernel) (q_conss (qv 5) q_nils))))) qss_nil)
    (qss_one (qs_ret (q_s (q_if (qt_cmp (qo_eq hr.units) (q_s (q_ix (qv 0) (q_s q_int))) (q_s q_str) (nomark _)) (q_bi (qc_min (by rfl)) (by rfl) M.min (by decide +kernel) (q_conss (qv 5) q_nils)) (q_bi (qc_max (by rfl)) (by rfl) M.max (by decide +kernel) (q_conss (qv 5) q_nils)))))))))))) (fun h => wp_law_worth h)
theorem rec_law_worth (F : Fun K "_law_worth" "_law_worth" s_law_worth f fd) (M : Bi mg) (C : Cs K mg) (mG : mg "_law_worth" = some (.ref f)) (kG : PySem.W.keepIn K (.ref f) = true) (bG : Binds K fd ["_law_scale_here", "_law_thing_here"] []) : ∀ m : Nat, FnOk P w K mg base CX0 (0 + m) f fd ["_law_scale_here", "_law_thing_here"] (spD (cWorthL m))
  | 0 => by
    have no : ∀ vs H Q E, ¬ (spD (cWorthL 0)) vs H Q E := fun vs H Q E ⟨_, _, _, _, _, _, _, _, _, h, _⟩ => cWorthL_zero h
    exact ⟨fun vs H Q E h => absurd h (no vs H Q E), fun A outer s H args us vs Q E _ _ _ _ h => absurd h (no vs H Q E)⟩
  | m + 1 => ok_law_worth F M C (rec_law_worth F M C mG kG bG m) mG kG bG

theorem ok_law_rule {m : Nat} (F : Fun K "_law_rule" "_law_rule" s_law_rule f fd) (M : Bi mg) (C : Cs K mg) (O_law_draw : Ow P w K mg base "_law_draw" 1 ["_law_pen_here", "_law_many"] (spD cDraw)) (O_law_bound : Ow P w K mg base "_law_bound" 3 ["_law_pen_here", "_law_count", "_law_other"] (spD cBound)) (O_law_scale : Ow P w K mg base "_law_scale" 7 ["_law_pen_here", "_law_many", "_law_deep"] (spD (cScale 5))) (O_law_worth : Ow P w K mg base "_law_worth" 6 ["_law_scale_here", "_law_thing_here"] (spD (cWorthL 6))) (O_law_shuffled : Ow P w K mg base "_law_shuffled" 2 ["_law_pen_here", "_law_some"] (spD cShuf)) (GG : FnOk P w K mg base CX0 (7 + m) f fd ["_law_pen_here", "_law_greatest", "_law_near", "_law_deep"] (spD (cRule m))) (mG : mg "_law_rule" = some (.ref f)) (kG : PySem.W.keepIn K (.ref f) = true) (bG : Binds K fd ["_law_pen_here", "_law_greatest", "_law_near", "_law_deep"] []) : FnOk P w K mg base CX0 (7 + m + 1) f fd ["_law_pen_here", "_law_greatest", "_law_near", "_law_deep"] (spD (cRule (m + 1))) :=
  Fun.okQ F sc_law_rule rfl (fun ds n R h => by unfold cRule at h; split at h <;> first | rfl | exact h.elim | exact h.1.elim) (fun cdv A outer s H E Γ hr => (qss_cons (qs_par 4 5 (by rfl) sc_law_rule.nd (by rfl) (by rfl) (by decide) (by rfl) (by rfl) (q_call (O_law_draw.G.mono (by omega)) hr (by rfl) O_law_draw.M O_law_draw.kp O_law_draw.b (q_cons (qvC 0) (q_cons (q_ix (q_s (q_lit (by decide +kernel) (by rfl))) (q_s (q_bty qc_int (by rfl) M.int (by decide +kernel) (q_conss (q_s (q_cmp qo_gt (qv 3) (q_s q_int) (nomark _))) q_nils)))) q_nil))) (q_bi qc_len (by rfl) M.len (by decide +kernel) (q_conss (qv 1) q_nils)) (by rfl))
    (qss_cons (qs_if (qt_cmp (qo_eq hr.units) (qv 4) (q_s q_int) (nomark _)) (qss_cons (qs_set 6 sc_law_rule.nd (by rfl) (Or.inl (by rfl)) (q_call (O_law_draw.G.mono (by omega)) hr (by rfl) O_law_draw.M O_law_draw.kp O_law_draw.b (q_cons (qvC 0) (q_cons (qvC 5) q_nil))))
    (qss_one (qs_ret (q_s (q_tup (q_cons q_str (q_cons (qvC 6) (q_cons (q_call (O_law_bound.G.mono (by omega)) hr (by rfl) O_law_bound.M O_law_bound.kp O_law_bound.b (q_cons (qvC 0) (q_cons (q_ix (qv 1) (qv 6)) (q_cons (q_ix (qv 2) (qv 6)) q_nil)))) q_nil)))))))) qss_nil)
    (qss_cons (qs_if (qt_cmp qo_lt (qv 4) (q_s q_int) (nomark _)) (qss_cons (qs_set 7 sc_law_rule.nd (by rfl) (Or.inl (by rfl)) (q_call (O_law_scale.G.mono (by omega)) hr (by rfl) O_law_scale.M O_law_scale.kp O_law_scale.b (q_cons (qvC 0) (q_cons (qvC 5) (q_cons (q_op qo_add (q_s q_int) (q_s (q_call (O_law_draw.G.mono (by omega)) hr (by rfl) O_law_draw.M O_law_draw.kp O_law_draw.b (q_cons (qvC 0) (q_cons (qvC 3) q_nil))))) q_nil)))))
    (qss_one (qs_ret (q_s (q_tup (q_cons q_str (q_cons (qvC 7) (q_cons (q_call (O_law_bound.G.mono (by omega)) hr (by rfl) O_law_bound.M O_law_bound.kp O_law_bound.b (q_cons (qvC 0) (q_cons (q_call (O_law_worth.G.mono (by omega)) hr (by rfl) O_law_worth.M O_law_worth.kp O_law_worth.b (q_cons (qvC 7) (q_cons (qvC 1) q_nil))) (q_cons (q_call (O_law_worth.G.mono (by omega)) hr (by rfl) O_law_worth.M O_law_worth.kp O_law_worth.b (q_cons (qvC 7) (q_cons (qvC 2) q_nil))) q_nil)))) q_nil)))))))) qss_nil)
    (qss_cons (qs_lc 8 (own := [("_law_k", 9)]) (by rfl) sc_law_rule.nd (by rfl) (by rfl) (sw_true rfl rfl rfl (by decide +kernel)) (qi_c (qi_range1 (by rfl) M.range (q_cons (q_call (O_law_draw.G.mono (by omega)) hr (by rfl) O_law_draw.M O_law_draw.kp O_law_draw.b (q_cons (qvC 0) (q_cons (q_ix (q_s (q_lit (by decide +kernel) (by rfl))) (q_s (q_bty qc_int (by rfl) M.int (by decide +kernel) (q_conss (q_s (q_cmp qo_gt (qv 3) (q_s q_int) (nomark _))) q_nils)))) q_nil))) q_nil))) (blkOk_by (own := [("_law_k", 9)]) (N := Nsc_law_rule) (sc := Ssc_law_rule) (by decide +kernel)) rfl (fun _ _ _ _ _ => (qg_name 9 sc_law_rule.nd (by rfl) (Or.inl (by rfl)))) (fun _ _ _ _ _ => qts_nil) (fun _ _ _ _ _ => (q_call GG hr (by rfl) mG kG bG (q_cons (qvC 0) (q_cons (qvC 1) (q_cons (qvC 2) (q_cons (q_op qo_sub (qv 3) (q_s q_int)) q_nil)))))))
    (qss_cons (qs_if (qt_cmp (qo_eq hr.units) (qv 4) (q_s q_int) (nomark _)) (qss_one (qs_ret (q_s (q_op qo_add (q_s (q_lit (by decide +kernel) (by rfl))) (q_s (q_bty qc_tuple (by rfl) M.tuple (by decide +kernel) (q_conss (qv 8) q_nils))))))) qss_nil)
    (qss_cons (qs_set 10 sc_law_rule.nd (by rfl) (Or.inl (by rfl)) (q_tup (q_cons q_str (q_cons (q_call (O_law_draw.G.mono (by omega)) hr (by rfl) O_law_draw.M O_law_draw.kp O_law_draw.b (q_cons (qvC 0) (q_cons (qvC 5) q_nil))) (q_cons (q_lit (by decide +kernel) (by rfl)) q_nil)))))
    (qss_one (qs_ret (q_s (q_op qo_add (q_s (q_lit (by decide +kernel) (by rfl))) (q_s (q_bty qc_tuple (by rfl) M.tuple (by decide +kernel) (q_conss (q_s (q_call (O_law_shuffled.G.mono (by omega)) hr (by rfl) O_law_shuffled.M O_law_shuffled.kp O_law_shuffled.b (q_cons (qvC 0) (q_cons (q_op qo_add (q_s (q_slice (qv 8) qo_none (qo_some q_int))) (q_s (q_f (q_lst (q_cons (q_call GG hr (by rfl) mG kG bG (q_cons (qvC 0) (q_cons (qvC 1) (q_cons (qvC 2) (q_cons (q_op qo_sub (qv 3) (q_s q_int)) q_nil))))) (q_cons (qvC 10) q_nil)))))) q_nil)))) q_nils)))))))))))))) (fun h => wp_law_rule h)
theorem rec_law_rule (F : Fun K "_law_rule" "_law_rule" s_law_rule f fd) (M : Bi mg) (C : Cs K mg) (O_law_draw : Ow P w K mg base "_law_draw" 1 ["_law_pen_here", "_law_many"] (spD cDraw)) (O_law_bound : Ow P w K mg base "_law_bound" 3 ["_law_pen_here", "_law_count", "_law_other"] (spD cBound)) (O_law_scale : Ow P w K mg base "_law_scale" 7 ["_law_pen_here", "_law_many", "_law_deep"] (spD (cScale 5))) (O_law_worth : Ow P w K mg base "_law_worth" 6 ["_law_scale_here", "_law_thing_here"] (spD (cWorthL 6))) (O_law_shuffled : Ow P w K mg base "_law_shuffled" 2 ["_law_pen_here", "_law_some"] (spD cShuf)) (mG : mg "_law_rule" = some (.ref f)) (kG : PySem.W.keepIn K (.ref f) = true) (bG : Binds K fd ["_law_pen_here", "_law_greatest", "_law_near", "_law_deep"] []) : ∀ m : Nat, FnOk P w K mg base CX0 (7 + m) f fd ["_law_pen_here", "_law_greatest", "_law_near", "_law_deep"] (spD (cRule m))
  | 0 => by
    have no : ∀ vs H Q E, ¬ (spD (cRule 0)) vs H Q E := fun vs H Q E ⟨_, _, _, _, _, _, _, _, _, h, _⟩ => cRule_zero h
    exact ⟨fun vs H Q E h => absurd h (no vs H Q E), fun A outer s H args us vs Q E _ _ _ _ h => absurd h (no vs H Q E)⟩
  | m + 1 => ok_law_rule F M C O_law_draw O_law_bound O_law_scale O_law_worth O_law_shuffled (rec_law_rule F M C O_law_draw O_law_bound O_law_scale O_law_worth O_law_shuffled mG kG bG m) mG kG bG

theorem ok_law_far (F : Fun K "_law_far" "_law_far" s_law_far f fd) (M : Bi mg) (C : Cs K mg) (O_law_draw : Ow P w K mg base "_law_draw" 1 ["_law_pen_here", "_law_many"] (spD cDraw)) : FnOk P w K mg base CX0 2 f fd ["_law_pen_here", "_law_upto"] (spD cFar) :=
  Fun.okQ F sc_law_far rfl (fun ds n R h => by unfold cFar at h; split at h <;> first | rfl | exact h.elim | exact h.1.elim) (fun cdv A outer s H E Γ hr => (qss_cons (qs_set 2 sc_law_far.nd (by rfl) (Or.inl (by rfl)) (q_op qo_add (q_s (q_op qo_mul (q_s (q_call (O_law_draw.G.mono (by omega)) hr (by rfl) O_law_draw.M O_law_draw.kp O_law_draw.b (q_cons (qvC 0) (q_cons q_int q_nil)))) (q_s q_int))) (q_s (q_call (O_law_draw.G.mono (by omega)) hr (by rfl) O_law_draw.M O_law_draw.kp O_law_draw.b (q_cons (qvC 0) (q_cons q_int q_nil))))))
    (qss_one (qs_ret (q_s (q_ix (q_s (q_f (q_lst (q_cons (q_op qo_mod (qv 2) (q_s (q_op qo_add (qv 1) (q_s q_int)))) (q_cons q_int (q_cons q_int (q_cons q_int (q_cons q_int (q_cons q_int (q_cons q_int (q_cons (q_op qo_sub (qv 1) (q_s q_int)) (q_cons (qvC 1) q_nil)))))))))))) (q_s (q_op qo_fdiv (q_s (q_call (O_law_draw.G.mono (by omega)) hr (by rfl) O_law_draw.M O_law_draw.kp O_law_draw.b (q_cons (qvC 0) (q_cons q_int q_nil)))) (q_s q_int))))))))) (fun h => wp_law_far h)

theorem ok_law_edge (F : Fun K "_law_edge" "_law_edge" s_law_edge f fd) (M : Bi mg) (C : Cs K mg) (O_law_pick : Ow P w K mg base "_law_pick" 2 ["_law_pen_here", "_law_some"] (spD cPick)) (O_law_scale : Ow P w K mg base "_law_scale" 7 ["_law_pen_here", "_law_many", "_law_deep"] (spD (cScale 5))) (O_law_draw : Ow P w K mg base "_law_draw" 1 ["_law_pen_here", "_law_many"] (spD cDraw)) (O_law_far : Ow P w K mg base "_law_far" 2 ["_law_pen_here", "_law_upto"] (spD cFar)) : FnOk P w K mg base CX0 8 f fd ["_law_pen_here", "_law_count"] (spD cEdge) :=
  Fun.okQ F sc_law_edge rfl (fun ds n R h => by unfold cEdge at h; split at h <;> first | rfl | exact h.elim | exact h.1.elim) (fun cdv A outer s H E Γ hr => (qss_cons (qs_set 2 sc_law_edge.nd (by rfl) (Or.inl (by rfl)) (q_call (O_law_pick.G.mono (by omega)) hr (by rfl) O_law_pick.M O_law_pick.kp O_law_pick.b (q_cons (qvC 0) (q_cons (q_f (q_lst (q_cons q_int (q_cons (q_op qo_sub (qv 1) (q_s q_int)) (q_cons (qvC 1) (q_cons (q_lit (by decide +kernel) (by rfl)) q_nil)))))) q_nil))))
    (qss_cons (qs_set 3 sc_law_edge.nd (by rfl) (Or.inl (by rfl)) (q_call (O_law_scale.G.mono (by omega)) hr (by rfl) O_law_scale.M O_law_scale.kp O_law_scale.b (q_cons (qvC 0) (q_cons (qvC 1) (q_cons q_int q_nil)))))
    (qss_cons (qs_set 4 sc_law_edge.nd (by rfl) (Or.inl (by rfl)) (q_f (q_lst (q_cons (q_tup (q_cons q_str (q_cons (qvC 2) (q_cons (q_call (O_law_far.G.mono (by omega)) hr (by rfl) O_law_far.M O_law_far.kp O_law_far.b (q_cons (qvC 0) (q_cons (q_lit (by decide +kernel) (by rfl)) q_nil))) q_nil)))) (q_cons (q_tup (q_cons q_str (q_cons q_int (q_cons (q_op qo_add (q_s (q_lit (by decide +kernel) (by rfl))) (q_s (q_call (O_law_draw.G.mono (by omega)) hr (by rfl) O_law_draw.M O_law_draw.kp O_law_draw.b (q_cons (qvC 0) (q_cons q_int q_nil))))) q_nil)))) q_nil)))))
    (qss_cons (qs_own 4 sc_law_edge.nd (by rfl) (Or.inl (by rfl)) (q_cat (qv 4) (q_s (q_f (q_lst (q_cons (q_tup (q_cons q_str (q_cons (qvC 3) (q_cons (q_lit (by decide +kernel) (by rfl)) q_nil)))) (q_cons (q_tup (q_cons q_str (q_cons (qvC 3) (q_cons (q_lit (by decide +kernel) (by rfl)) q_nil)))) (q_cons (q_lit (by decide +kernel) (by rfl)) (q_cons (q_lit (by decide +kernel) (by rfl)) q_nil)))))))))
    (qss_cons (qs_app 4 (by rfl) (q_tup (q_cons q_str (q_cons (q_tup (q_cons q_str (q_cons (qvC 3) (q_cons (q_lit (by decide +kernel) (by rfl)) q_nil)))) (q_cons q_int q_nil)))))
    (qss_frz 4 (qss_one (qs_ret (q_s (q_call (O_law_pick.G.mono (by omega)) hr (by rfl) O_law_pick.M O_law_pick.kp O_law_pick.b (q_cons (qvC 0) (q_cons (q_op qo_add (qv 4) (q_s (q_f (q_lst (q_cons (q_lit (by decide +kernel) (by rfl)) (q_cons (q_tup (q_cons q_str (q_cons (q_op qo_sub (qv 1) (q_s q_int)) (q_cons q_int q_nil)))) (q_cons (q_tup (q_cons q_str (q_cons (qvC 3) (q_cons q_int q_nil)))) q_nil))))))) q_nil))))))))))))) (fun h => wp_law_edge h)

theorem ok_law_step (F : Fun K "_law_step" "_law_step" s_law_step f fd) (M : Bi mg) (C : Cs K mg) (O_law_pick : Ow P w K mg base "_law_pick" 2 ["_law_pen_here", "_law_some"] (spD cPick)) : FnOk P w K mg base CX0 3 f fd ["_law_pen_here"] (spD cStep) :=
  Fun.okQ F sc_law_step rfl (fun ds n R h => by unfold cStep at h; split at h <;> first | rfl | exact h.elim | exact h.1.elim) (fun cdv A outer s H E Γ hr => (qss_one (qs_ret (q_s (q_call (O_law_pick.G.mono (by omega)) hr (by rfl) O_law_pick.M O_law_pick.kp O_law_pick.b (q_cons (qvC 0) (q_cons (q_lit (by decide +kernel) (by rfl)) q_nil))))))) (fun h => wp_law_step h)

theorem ok_law_meet (F : Fun K "_law_meet" "_law_meet" s_law_meet f fd) (M : Bi mg) (C : Cs K mg) : FnOk P w K mg base CX0 1 f fd ["_law_one", "_law_other"] (spD cMeetL) :=
  Fun.okQ F sc_law_meet rfl (fun ds n R h => by unfold cMeetL at h; split at h <;> first | rfl | exact h.elim | exact h.1.elim) (fun cdv A outer s H E Γ hr => (qss_one (qs_ret (q_s (q_bty qc_tuple (by rfl) M.tuple (by decide +kernel) (q_conss (q_s (q_f (q_lc (own := [("_law_k", 2)]) (by rfl) sc_law_meet.nd (qi_c (qi_range1 (by rfl) M.range (q_cons (q_bi qc_len (by rfl) M.len (by decide +kernel) (q_conss (qv 0) q_nils)) q_nil))) (blkOk_by (own := [("_law_k", 2)]) (N := Nsc_law_meet) (sc := Ssc_law_meet) (by decide +kernel)) rfl (fun _ _ _ _ _ => (qg_name 2 sc_law_meet.nd (by rfl) (Or.inl (by rfl)))) (fun _ _ _ _ _ => qts_nil) (fun _ _ _ _ _ => (q_bi (qc_min2 (by rfl)) (by rfl) M.min (by decide +kernel) (q_conss (q_s (q_ix (qv 0) (qv 2))) (q_conss (q_s (q_ix (qv 1) (qv 2))) q_nils))))))) q_nils)))))) (fun h => wp_law_meet h)

theorem ok_law_odd (F : Fun K "_law_odd" "_law_odd" s_law_odd f fd) (M : Bi mg) (C : Cs K mg) (O_law_pick : Ow P w K mg base "_law_pick" 2 ["_law_pen_here", "_law_some"] (spD cPick)) : FnOk P w K mg base CX0 3 f fd ["_law_pen_here"] (spD cOd) :=
  Fun.okQ F sc_law_odd rfl (fun ds n R h => by unfold cOd at h; split at h <;> first | rfl | exact h.elim | exact h.1.elim) (fun cdv A outer s H E Γ hr => (qss_cons (qs_set 1 sc_law_odd.nd (by rfl) (Or.inl (by rfl)) (q_lit (by decide +kernel) (by rfl)))
    (qss_cons (qs_set 1 sc_law_odd.nd (by rfl) (Or.inl (by rfl)) (q_op qo_add (qv 1) (q_s (q_lit (by decide +kernel) (by rfl)))))
    (qss_cons (qs_own 1 sc_law_odd.nd (by rfl) (Or.inl (by rfl)) (q_cat (qv 1) (q_s (q_lit (by decide +kernel) (by rfl)))))
    (qss_cons (qs_app 1 (by rfl) (q_lit (by decide +kernel) (by rfl)))
    (qss_frz 1 (qss_one (qs_ret (q_s (q_call (O_law_pick.G.mono (by omega)) hr (by rfl) O_law_pick.M O_law_pick.kp O_law_pick.b (q_cons (qvC 0) (q_cons (qvC 1) q_nil)))))))))))) (fun h => wp_law_odd h)

theorem ok_law_bent {m : Nat} (F : Fun K "_law_bent" "_law_bent" s_law_bent f fd) (M : Bi mg) (C : Cs K mg) (O_law_draw : Ow P w K mg base "_law_draw" 1 ["_law_pen_here", "_law_many"] (spD cDraw)) (O_law_pick : Ow P w K mg base "_law_pick" 2 ["_law_pen_here", "_law_some"] (spD cPick)) (O_law_odd : Ow P w K mg base "_law_odd" 3 ["_law_pen_here"] (spD cOd)) (GG : FnOk P w K mg base CX0 (3 + m) f fd ["_law_pen_here", "_law_thing_here"] (spD (cBn m))) (mG : mg "_law_bent" = some (.ref f)) (kG : PySem.W.keepIn K (.ref f) = true) (bG : Binds K fd ["_law_pen_here", "_law_thing_here"] []) : FnOk P w K mg base CX0 (3 + m + 1) f fd ["_law_pen_here", "_law_thing_here"] (spD (cBn (m + 1))) :=
  Fun.okQ F sc_law_bent rfl (fun ds n R h => by unfold cBn at h; split at h <;> first | rfl | exact h.elim | exact h.1.elim) (fun cdv A outer s H E Γ hr => (qss_cons (qs_if (qt_w (qw_and (qt_truth (q_s (q_bi qc_isi (by rfl) M.isinstance (by decide +kernel) (q_conss (qv 1) (q_conss (q_s (q_tup (q_cons (q_ty (by rfl) M.tuple (by decide +kernel)) (q_cons (q_ty (by rfl) M.list (by decide +kernel)) q_nil)))) q_nils))))) (qw_and (qt_cmp qo_gt (q_s (q_bi qc_len (by rfl) M.len (by decide +kernel) (q_conss (qv 1) q_nils))) (q_s q_int) (nomark _)) (qw_and1 (qt_cmp qo_gt (q_s (q_call (O_law_draw.G.mono (by omega)) hr (by rfl) O_law_draw.M O_law_draw.kp O_law_draw.b (q_cons (qvC 0) (q_cons q_int q_nil)))) (q_s q_int) (nomark _)))))) (qss_cons (qs_par 2 3 (by rfl) sc_law_bent.nd (by rfl) (by rfl) (by decide) (by rfl) (by rfl) (q_call (O_law_draw.G.mono (by omega)) hr (by rfl) O_law_draw.M O_law_draw.kp O_law_draw.b (q_cons (qvC 0) (q_cons (q_bi qc_len (by rfl) M.len (by decide +kernel) (q_conss (qv 1) q_nils)) q_nil))) (q_call (O_law_draw.G.mono (by omega)) hr (by rfl) O_law_draw.M O_law_draw.kp O_law_draw.b (q_cons (qvC 0) (q_cons q_int q_nil))) (by rfl))
    (qss_cons (qs_set 4 sc_law_bent.nd (by rfl) (Or.inl (by rfl)) (q_if (qt_cmp qo_lt (qv 3) (q_s q_int) (nomark _)) (q_f (q_lst (q_cons (q_call GG hr (by rfl) mG kG bG (q_cons (qvC 0) (q_cons (q_ix (qv 1) (qv 2)) q_nil))) q_nil))) (q_lit (by decide +kernel) (by rfl))))
    (qss_cons (qs_if (qt_truth (q_s (q_bi qc_isi (by rfl) M.isinstance (by decide +kernel) (q_conss (qv 1) (q_conss (q_s (q_ty (by rfl) M.tuple (by decide +kernel))) q_nils))))) (qss_one (qs_set 4 sc_law_bent.nd (by rfl) (Or.inl (by rfl)) (q_bty qc_tuple (by rfl) M.tuple (by decide +kernel) (q_conss (qv 4) q_nils)))) qss_nil)
    (qss_cons (qs_if (qt_cmp qo_lt (qv 3) (q_s q_int) (nomark _)) (qss_one (qs_ret (q_s (q_op qo_add (q_s (q_op qo_add (q_s (q_slice (qv 1) qo_none (qo_some (qvC 2)))) (qv 4))) (q_s (q_slice (qv 1) (qo_some (q_op qo_add (qv 2) (q_s q_int))) qo_none)))))) qss_nil)
    (qss_cons (qs_set 5 sc_law_bent.nd (by rfl) (Or.inl (by rfl)) (q_f (q_lst (q_cons (q_op qo_add (q_s (q_slice (qv 1) qo_none (qo_some (qvC 2)))) (q_s (q_slice (qv 1) (qo_some (q_op qo_add (qv 2) (q_s q_int))) qo_none))) (q_cons (q_op qo_add (q_s (q_slice (qv 1) qo_none (qo_some (q_op qo_add (qv 2) (q_s q_int))))) (q_s (q_slice (qv 1) (qo_some (qvC 2)) qo_none))) (q_cons (q_rev (qv 1) (qo_some (q_lit (by decide +kernel) (by rfl)))) q_nil))))))
    (qss_one (qs_ret (q_s (q_ix (q_s (q_op qo_add (qv 5) (q_s (q_f (q_lst (q_cons (q_if (qt_truth (q_s (q_bi qc_isi (by rfl) M.isinstance (by decide +kernel) (q_conss (qv 1) (q_conss (q_s (q_ty (by rfl) M.list (by decide +kernel))) q_nils))))) (q_bty qc_tuple (by rfl) M.tuple (by decide +kernel) (q_conss (qv 1) q_nils)) (q_f (q_list (by rfl) M.list (by decide +kernel) (q_conss (qv 1) q_nils)))) q_nil)))))) (q_s (q_op qo_subX (qv 3) (q_s q_int)))))))))))) qss_nil)
    (qss_cons (qs_if (qt_w (qw_and (qt_truth (q_s (q_bi qc_isi (by rfl) M.isinstance (by decide +kernel) (q_conss (qv 1) (q_conss (q_s (q_ty (by rfl) M.str (by decide +kernel))) q_nils))))) (qw_and1 (qt_cmp qo_gt (q_s (q_call (O_law_draw.G.mono (by omega)) hr (by rfl) O_law_draw.M O_law_draw.kp O_law_draw.b (q_cons (qvC 0) (q_cons q_int q_nil)))) (q_s q_int) (nomark _))))) (qss_cons (qs_par 2 6 (by rfl) sc_law_bent.nd (by rfl) (by rfl) (by decide) (by rfl) (by rfl) (q_call (O_law_draw.G.mono (by omega)) hr (by rfl) O_law_draw.M O_law_draw.kp O_law_draw.b (q_cons (qvC 0) (q_cons (q_op qo_add (q_s (q_bi qc_len (by rfl) M.len (by decide +kernel) (q_conss (qv 1) q_nils))) (q_s q_int)) q_nil))) (q_call (O_law_pick.G.mono (by omega)) hr (by rfl) O_law_pick.M O_law_pick.kp O_law_pick.b (q_cons (qvC 0) (q_cons q_str q_nil))) (by rfl))
    (qss_one (qs_ret (q_s (q_call (O_law_pick.G.mono (by omega)) hr (by rfl) O_law_pick.M O_law_pick.kp O_law_pick.b (q_cons (qvC 0) (q_cons (q_f (q_lst (q_cons (q_op qo_add (q_s (q_op qo_add (q_s (q_slice (qv 1) qo_none (qo_some (qvC 2)))) (qv 6))) (q_s (q_slice (qv 1) (qo_some (qvC 2)) qo_none))) (q_cons (q_op qo_add (q_s (q_op qo_add (q_s (q_slice (qv 1) qo_none (qo_some (qvC 2)))) (qv 6))) (q_s (q_slice (qv 1) (qo_some (q_op qo_add (qv 2) (q_s q_int))) qo_none))) (q_cons (q_slice (qv 1) qo_none (qo_some (qvC 2))) q_nil))))) q_nil))))))) qss_nil)
    (qss_cons (qs_if (qt_w (qw_and (qt_truth (q_s (q_bi qc_isi (by rfl) M.isinstance (by decide +kernel) (q_conss (qv 1) (q_conss (q_s (q_ty (by rfl) M.int (by decide +kernel))) q_nils))))) (qw_and1 (qt_cmp qo_gt (q_s (q_call (O_law_draw.G.mono (by omega)) hr (by rfl) O_law_draw.M O_law_draw.kp O_law_draw.b (q_cons (qvC 0) (q_cons q_int q_nil)))) (q_s q_int) (nomark _))))) (qss_one (qs_ret (q_s (q_call (O_law_pick.G.mono (by omega)) hr (by rfl) O_law_pick.M O_law_pick.kp O_law_pick.b (q_cons (qvC 0) (q_cons (q_f (q_lst (q_cons (q_op qo_add (qv 1) (q_s q_int)) (q_cons (q_op qo_subX (qv 1) (q_s q_int)) (q_cons (q_neg (qv 1)) (q_cons (q_bty qc_str (by rfl) M.str (by decide +kernel) (q_conss (qv 1) q_nils)) (q_cons (q_cmp (qo_eq hr.units) (qv 1) (q_s q_int) (nomark _)) (q_cons (q_op qo_mulX (qv 1) (q_s q_int)) (q_cons (q_lit (by decide +kernel) (by rfl)) (q_cons q_int (q_cons q_int q_nil))))))))))) q_nil)))))) qss_nil)
    (qss_one (qs_ret (q_s (q_call (O_law_odd.G.mono (by omega)) hr (by rfl) O_law_odd.M O_law_odd.kp O_law_odd.b (q_cons (qvC 0) q_nil))))))))) (fun h => wp_law_bent h)
theorem rec_law_bent (F : Fun K "_law_bent" "_law_bent" s_law_bent f fd) (M : Bi mg) (C : Cs K mg) (O_law_draw : Ow P w K mg base "_law_draw" 1 ["_law_pen_here", "_law_many"] (spD cDraw)) (O_law_pick : Ow P w K mg base "_law_pick" 2 ["_law_pen_here", "_law_some"] (spD cPick)) (O_law_odd : Ow P w K mg base "_law_odd" 3 ["_law_pen_here"] (spD cOd)) (mG : mg "_law_bent" = some (.ref f)) (kG : PySem.W.keepIn K (.ref f) = true) (bG : Binds K fd ["_law_pen_here", "_law_thing_here"] []) : ∀ m : Nat, FnOk P w K mg base CX0 (3 + m) f fd ["_law_pen_here", "_law_thing_here"] (spD (cBn m))
  | 0 => by
    have no : ∀ vs H Q E, ¬ (spD (cBn 0)) vs H Q E := fun vs H Q E ⟨_, _, _, _, _, _, _, _, _, h, _⟩ => cBn_zero h
    exact ⟨fun vs H Q E h => absurd h (no vs H Q E), fun A outer s H args us vs Q E _ _ _ _ h => absurd h (no vs H Q E)⟩
  | m + 1 => ok_law_bent F M C O_law_draw O_law_pick O_law_odd (rec_law_bent F M C O_law_draw O_law_pick O_law_odd mG kG bG m) mG kG bG

theorem ok_law_is_from (F : Fun K "_law_is_from" "_law_is_from" s_law_is_from f fd) (M : Bi mg) (C : Cs K mg) : FnOk P w K mg base CX0 1 f fd ["_law_thing_here", "_law_low", "_law_high"] (spD cIsWF) :=
  Fun.okQ F sc_law_is_from rfl (fun ds n R h => by unfold cIsWF at h; split at h <;> first | rfl | exact h.elim | exact h.1.elim) (fun cdv A outer s H E Γ hr => (qss_one (qs_ret (q_s (q_and (q_bi qc_isi (by rfl) M.isinstance (by decide +kernel) (q_conss (qv 0) (q_conss (q_s (q_ty (by rfl) M.int (by decide +kernel))) q_nils))) (q_and (q_not (q_bi qc_isi (by rfl) M.isinstance (by decide +kernel) (q_conss (qv 0) (q_conss (q_s (q_ty (by rfl) M.bool (by decide +kernel))) q_nils)))) (q_one (q_chain qo_le qo_le (qv 1) (qv 0) (qv 2))))))))) (fun h => wp_law_is_from h)

theorem ok_law_is_scale {m : Nat} (F : Fun K "_law_is_scale" "_law_is_scale" s_law_is_scale f fd) (M : Bi mg) (C : Cs K mg) (O_law_is_from : Ow P w K mg base "_law_is_from" 1 ["_law_thing_here", "_law_low", "_law_high"] (spD cIsWF)) (GG : FnOk P w K mg base CX0 (1 + m) f fd ["_law_thing_here", "_law_many", "_law_deep"] (spD (cScW m))) (mG : mg "_law_is_scale" = some (.ref f)) (kG : PySem.W.keepIn K (.ref f) = true) (bG : Binds K fd ["_law_thing_here", "_law_many", "_law_deep"] []) : FnOk P w K mg base CX0 (1 + m + 1) f fd ["_law_thing_here", "_law_many", "_law_deep"] (spD (cScW (m + 1))) :=
  Fun.okQ F sc_law_is_scale rfl (fun ds n R h => by unfold cScW at h; split at h <;> first | rfl | exact h.elim | exact h.1.elim) (fun cdv A outer s H E Γ hr => (qss_cons (qs_if (qt_w (qw_or (qt_cmp (qo_eq hr.units) (qv 2) (q_s q_int) (nomark _)) (qw_or (qt_not (qt_truth (q_s (q_bi qc_isi (by rfl) M.isinstance (by decide +kernel) (q_conss (qv 0) (q_conss (q_s (q_ty (by rfl) M.tuple (by decide +kernel))) q_nils)))))) (qw_or (qt_cmp (qo_eq hr.units) (qv 0) (q_s (q_lit (by decide +kernel) (by rfl))) (nomark _)) (qw_or1 (qt_not (qt_truth (q_s (q_bi qc_isi (by rfl) M.isinstance (by decide +kernel) (q_conss (q_s (q_ix (qv 0) (q_s q_int))) (q_conss (q_s (q_ty (by rfl) M.str (by decide +kernel))) q_nils))))))))))) (qss_one (qs_ret (q_s q_bl))) qss_nil)
    (qss_cons (qs_if (qt_cmp (qo_in hr.units) (q_s (q_ix (qv 0) (q_s q_int))) (q_s (q_lit (by decide +kernel) (by rfl))) (by first | exact nomark _ | rfl)) (qss_one (qs_ret (q_s (q_cmp (qo_eq hr.units) (q_s (q_bi qc_len (by rfl) M.len (by decide +kernel) (q_conss (qv 0) q_nils))) (q_s q_int) (nomark _))))) qss_nil)
    (qss_cons (qs_if (qt_cmp (qo_in hr.units) (q_s (q_ix (qv 0) (q_s q_int))) (q_s (q_lit (by decide +kernel) (by rfl))) (by first | exact nomark _ | rfl)) (qss_cons (qs_lc 3 (own := [("_law_one", 4)]) (by rfl) sc_law_is_scale.nd (by rfl) (by rfl) (sw_true rfl rfl rfl (by decide +kernel)) (qi_seqc (q_s (q_slice (qv 0) (qo_some q_int) qo_none))) (blkOk_by (own := [("_law_one", 4)]) (N := Nsc_law_is_scale) (sc := Ssc_law_is_scale) (by decide +kernel)) rfl (fun _ _ _ _ _ => (qg_name 4 sc_law_is_scale.nd (by rfl) (Or.inl (by rfl)))) (fun _ _ _ _ _ => (qts_one (qt_not (qt_truth (q_s (q_call GG hr (by rfl) mG kG bG (q_cons (qvC 4) (q_cons (qvC 1) (q_cons (q_op qo_sub (qv 2) (q_s q_int)) q_nil))))))))) (fun _ _ _ _ _ => (qvC 4)))
    (qss_one (qs_ret (q_s (q_and (q_cmp (qo_eq hr.units) (q_s (q_bi qc_len (by rfl) M.len (by decide +kernel) (q_conss (qv 0) q_nils))) (q_s q_int) (nomark _)) (q_one (q_cmp (qo_eq hr.units) (qv 3) (q_s (q_lit (by decide +kernel) (by rfl))) (nomark _)))))))) qss_nil)
    (qss_cons (qs_if (qt_w (qw_or (qt_cmp (qo_ne hr.units) (q_s (q_ix (qv 0) (q_s q_int))) (q_s q_str) (nomark _)) (qw_or (qt_cmp (qo_ne hr.units) (q_s (q_bi qc_len (by rfl) M.len (by decide +kernel) (q_conss (qv 0) q_nils))) (q_s q_int) (nomark _)) (qw_or (qt_not (qt_truth (q_s (q_bi qc_isi (by rfl) M.isinstance (by decide +kernel) (q_conss (q_s (q_ix (qv 0) (q_s q_int))) (q_conss (q_s (q_ty (by rfl) M.tuple (by decide +kernel))) q_nils)))))) (qw_or1 (qt_cmp (qo_ne hr.units) (q_s (q_bi qc_len (by rfl) M.len (by decide +kernel) (q_conss (q_s (q_ix (qv 0) (q_s q_int))) q_nils))) (qv 1) (nomark _))))))) (qss_one (qs_ret (q_s q_bl))) qss_nil)
    (qss_one (qs_ret (q_s (q_cmp (qo_eq hr.units) (q_s (q_f (q_lc (own := [("_law_one", 4)]) (by rfl) sc_law_is_scale.nd (qi_seqc (q_s (q_ix (qv 0) (q_s q_int)))) (blkOk_by (own := [("_law_one", 4)]) (N := Nsc_law_is_scale) (sc := Ssc_law_is_scale) (by decide +kernel)) rfl (fun _ _ _ _ _ => (qg_name 4 sc_law_is_scale.nd (by rfl) (Or.inl (by rfl)))) (fun _ _ _ _ _ => (qts_one (qt_not (qt_truth (q_s (q_call (O_law_is_from.G.mono (by omega)) hr (by rfl) O_law_is_from.M O_law_is_from.kp O_law_is_from.b (q_cons (qvC 4) (q_cons q_int (q_cons q_int q_nil))))))))) (fun _ _ _ _ _ => (qvC 4))))) (q_s (q_lit (by decide +kernel) (by rfl))) (nomark _)))))))))) (fun h => wp_law_is_scale h)
theorem rec_law_is_scale (F : Fun K "_law_is_scale" "_law_is_scale" s_law_is_scale f fd) (M : Bi mg) (C : Cs K mg) (O_law_is_from : Ow P w K mg base "_law_is_from" 1 ["_law_thing_here", "_law_low", "_law_high"] (spD cIsWF)) (mG : mg "_law_is_scale" = some (.ref f)) (kG : PySem.W.keepIn K (.ref f) = true) (bG : Binds K fd ["_law_thing_here", "_law_many", "_law_deep"] []) : ∀ m : Nat, FnOk P w K mg base CX0 (1 + m) f fd ["_law_thing_here", "_law_many", "_law_deep"] (spD (cScW m))
  | 0 => by
    have no : ∀ vs H Q E, ¬ (spD (cScW 0)) vs H Q E := fun vs H Q E ⟨_, _, _, _, _, _, _, _, _, h, _⟩ => cScW_zero h
    exact ⟨fun vs H Q E h => absurd h (no vs H Q E), fun A outer s H args us vs Q E _ _ _ _ h => absurd h (no vs H Q E)⟩
  | m + 1 => ok_law_is_scale F M C O_law_is_from (rec_law_is_scale F M C O_law_is_from mG kG bG m) mG kG bG

theorem ok_law_is_rule {m : Nat} (F : Fun K "_law_is_rule" "_law_is_rule" s_law_is_rule f fd) (M : Bi mg) (C : Cs K mg) (O_law_is_from : Ow P w K mg base "_law_is_from" 1 ["_law_thing_here", "_law_low", "_law_high"] (spD cIsWF)) (O_law_is_scale : Ow P w K mg base "_law_is_scale" 6 ["_law_thing_here", "_law_many", "_law_deep"] (spD (cScW 5))) (GG : FnOk P w K mg base CX0 (6 + m) f fd ["_law_thing_here", "_law_many", "_law_deep"] (spD (cRuW m))) (mG : mg "_law_is_rule" = some (.ref f)) (kG : PySem.W.keepIn K (.ref f) = true) (bG : Binds K fd ["_law_thing_here", "_law_many", "_law_deep"] []) : FnOk P w K mg base CX0 (6 + m + 1) f fd ["_law_thing_here", "_law_many", "_law_deep"] (spD (cRuW (m + 1))) :=
  Fun.okQ F sc_law_is_rule rfl (fun ds n R h => by unfold cRuW at h; split at h <;> first | rfl | exact h.elim | exact h.1.elim) (fun cdv A outer s H E Γ hr => (qss_cons (qs_if (qt_w (qw_or (qt_cmp (qo_eq hr.units) (qv 2) (q_s q_int) (nomark _)) (qw_or (qt_not (qt_truth (q_s (q_bi qc_isi (by rfl) M.isinstance (by decide +kernel) (q_conss (qv 0) (q_conss (q_s (q_ty (by rfl) M.tuple (by decide +kernel))) q_nils)))))) (qw_or (qt_cmp (qo_eq hr.units) (qv 0) (q_s (q_lit (by decide +kernel) (by rfl))) (nomark _)) (qw_or1 (qt_not (qt_truth (q_s (q_bi qc_isi (by rfl) M.isinstance (by decide +kernel) (q_conss (q_s (q_ix (qv 0) (q_s q_int))) (q_conss (q_s (q_ty (by rfl) M.str (by decide +kernel))) q_nils))))))))))) (qss_one (qs_ret (q_s q_bl))) qss_nil)
    (qss_cons (qs_if (qt_cmp (qo_in hr.units) (q_s (q_ix (qv 0) (q_s q_int))) (q_s (q_lit (by decide +kernel) (by rfl))) (by first | exact nomark _ | rfl)) (qss_cons (qs_lc 3 (own := [("_law_one", 4)]) (by rfl) sc_law_is_rule.nd (by rfl) (by rfl) (sw_true rfl rfl rfl (by decide +kernel)) (qi_seqc (q_s (q_slice (qv 0) (qo_some q_int) qo_none))) (blkOk_by (own := [("_law_one", 4)]) (N := Nsc_law_is_rule) (sc := Ssc_law_is_rule) (by decide +kernel)) rfl (fun _ _ _ _ _ => (qg_name 4 sc_law_is_rule.nd (by rfl) (Or.inl (by rfl)))) (fun _ _ _ _ _ => (qts_one (qt_not (qt_truth (q_s (q_call GG hr (by rfl) mG kG bG (q_cons (qvC 4) (q_cons (qvC 1) (q_cons (q_op qo_sub (qv 2) (q_s q_int)) q_nil))))))))) (fun _ _ _ _ _ => (qvC 4)))
    (qss_one (qs_ret (q_s (q_and (q_cmp qo_lt (q_s (q_bi qc_len (by rfl) M.len (by decide +kernel) (q_conss (qv 0) q_nils))) (q_s q_int) (nomark _)) (q_one (q_cmp (qo_eq hr.units) (qv 3) (q_s (q_lit (by decide +kernel) (by rfl))) (nomark _)))))))) qss_nil)
    (qss_cons (qs_if (qt_cmp (qo_ne hr.units) (q_s (q_bi qc_len (by rfl) M.len (by decide +kernel) (q_conss (qv 0) q_nils))) (q_s q_int) (nomark _)) (qss_one (qs_ret (q_s q_bl))) qss_nil)
    (qss_cons (qs_if (qt_cmp (qo_eq hr.units) (q_s (q_ix (qv 0) (q_s q_int))) (q_s q_str) (nomark _)) (qss_one (qs_ret (q_s (q_and (q_call (O_law_is_from.G.mono (by omega)) hr (by rfl) O_law_is_from.M O_law_is_from.kp O_law_is_from.b (q_cons (q_ix (qv 0) (q_s q_int)) (q_cons q_int (q_cons (q_op qo_sub (qv 1) (q_s q_int)) q_nil)))) (q_one (q_call (O_law_is_from.G.mono (by omega)) hr (by rfl) O_law_is_from.M O_law_is_from.kp O_law_is_from.b (q_cons (q_ix (qv 0) (q_s q_int)) (q_cons q_int (q_cons (q_lit (by decide +kernel) (by rfl)) q_nil))))))))) qss_nil)
    (qss_one (qs_ret (q_s (q_and (q_cmp (qo_eq hr.units) (q_s (q_ix (qv 0) (q_s q_int))) (q_s q_str) (nomark _)) (q_and (q_call (O_law_is_scale.G.mono (by omega)) hr (by rfl) O_law_is_scale.M O_law_is_scale.kp O_law_is_scale.b (q_cons (q_ix (qv 0) (q_s q_int)) (q_cons (qvC 1) (q_cons q_int q_nil)))) (q_one (q_call (O_law_is_from.G.mono (by omega)) hr (by rfl) O_law_is_from.M O_law_is_from.kp O_law_is_from.b (q_cons (q_ix (qv 0) (q_s q_int)) (q_cons q_int (q_cons (q_lit (by decide +kernel) (by rfl)) q_nil))))))))))))))) (fun h => wp_law_is_rule h)
theorem rec_law_is_rule (F : Fun K "_law_is_rule" "_law_is_rule" s_law_is_rule f fd) (M : Bi mg) (C : Cs K mg) (O_law_is_from : Ow P w K mg base "_law_is_from" 1 ["_law_thing_here", "_law_low", "_law_high"] (spD cIsWF)) (O_law_is_scale : Ow P w K mg base "_law_is_scale" 6 ["_law_thing_here", "_law_many", "_law_deep"] (spD (cScW 5))) (mG : mg "_law_is_rule" = some (.ref f)) (kG : PySem.W.keepIn K (.ref f) = true) (bG : Binds K fd ["_law_thing_here", "_law_many", "_law_deep"] []) : ∀ m : Nat, FnOk P w K mg base CX0 (6 + m) f fd ["_law_thing_here", "_law_many", "_law_deep"] (spD (cRuW m))
  | 0 => by
    have no : ∀ vs H Q E, ¬ (spD (cRuW 0)) vs H Q E := fun vs H Q E ⟨_, _, _, _, _, _, _, _, _, h, _⟩ => cRuW_zero h
    exact ⟨fun vs H Q E h => absurd h (no vs H Q E), fun A outer s H args us vs Q E _ _ _ _ h => absurd h (no vs H Q E)⟩
  | m + 1 => ok_law_is_rule F M C O_law_is_from O_law_is_scale (rec_law_is_rule F M C O_law_is_from O_law_is_scale mG kG bG m) mG kG bG

theorem ok_is_whole (F : Fun K "is_whole" "is_whole" s_is_whole f fd) (M : Bi mg) (C : Cs K mg) : FnOk P w K mg base CX0 1 f fd ["thing"] (spD cIsW) :=
  Fun.okQ F sc_is_whole rfl (fun ds n R h => by unfold cIsW at h; split at h <;> first | rfl | exact h.elim | exact h.1.elim) (fun cdv A outer s H E Γ hr => (qss_one (qs_ret (q_s (q_and (q_bi qc_isi (by rfl) M.isinstance (by decide +kernel) (q_conss (qv 0) (q_conss (q_s (q_ty (by rfl) M.int (by decide +kernel))) q_nils))) (q_one (q_not (q_bi qc_isi (by rfl) M.isinstance (by decide +kernel) (q_conss (qv 0) (q_conss (q_s (q_ty (by rfl) M.bool (by decide +kernel))) q_nils)))))))))) (fun h => wp_is_whole h)

theorem ok_is_whole_from (F : Fun K "is_whole_from" "is_whole_from" s_is_whole_from f fd) (M : Bi mg) (C : Cs K mg) (Ois_whole : Ow P w K mg base "is_whole" 1 ["thing"] (spD cIsW)) : FnOk P w K mg base CX0 2 f fd ["thing", "least", "greatest"] (spD cIsWF) :=
  Fun.okQ F sc_is_whole_from rfl (fun ds n R h => by unfold cIsWF at h; split at h <;> first | rfl | exact h.elim | exact h.1.elim) (fun cdv A outer s H E Γ hr => (qss_one (qs_ret (q_s (q_and (q_call (Ois_whole.G.mono (by omega)) hr (by rfl) Ois_whole.M Ois_whole.kp Ois_whole.b (q_cons (qvC 0) q_nil)) (q_one (q_chain qo_le qo_le (qv 1) (qv 0) (qv 2)))))))) (fun h => wp_is_whole_from h)

theorem ok_is_size (F : Fun K "is_size" "is_size" s_is_size f fd) (M : Bi mg) (C : Cs K mg) (Ois_whole_from : Ow P w K mg base "is_whole_from" 2 ["thing", "least", "greatest"] (spD cIsWF)) : FnOk P w K mg base CX0 3 f fd ["thing", "many"] (spD cIsSize) :=
  Fun.okQ F sc_is_size rfl (fun ds n R h => by unfold cIsSize at h; split at h <;> first | rfl | exact h.elim | exact h.1.elim) (fun cdv A outer s H E Γ hr => (qss_cons (qs_if (qt_cmp (qo_ne hr.units) (q_s (q_bi qc_len (by rfl) M.len (by decide +kernel) (q_conss (qv 0) q_nils))) (q_s q_int) (nomark _)) (qss_one (qs_ret (q_s q_bl))) qss_nil)
    (qss_one (qs_ret (q_s (q_and (q_call (Ois_whole_from.G.mono (by omega)) hr (by rfl) Ois_whole_from.M Ois_whole_from.kp Ois_whole_from.b (q_cons (q_ix (qv 0) (q_s q_int)) (q_cons q_int (q_cons (q_op qo_sub (qv 1) (q_s q_int)) q_nil)))) (q_one (q_call (Ois_whole_from.G.mono (by omega)) hr (by rfl) Ois_whole_from.M Ois_whole_from.kp Ois_whole_from.b (q_cons (q_ix (qv 0) (q_s q_int)) (q_cons q_int (q_cons (q_gint (by rfl) C.GREATEST_OF_THINGS) q_nil))))))))))) (fun h => wp_is_size h)

theorem ok_are_weights (F : Fun K "are_weights" "are_weights" s_are_weights f fd) (M : Bi mg) (C : Cs K mg) (Ois_whole_from : Ow P w K mg base "is_whole_from" 2 ["thing", "least", "greatest"] (spD cIsWF)) : FnOk P w K mg base CX0 3 f fd ["thing", "many"] (spD cWts) :=
  Fun.okQ F sc_are_weights rfl (fun ds n R h => by unfold cWts at h; split at h <;> first | rfl | exact h.elim | exact h.1.elim) (fun cdv A outer s H E Γ hr => (qss_cons (qs_if (qt_w (qw_or (qt_not (qt_truth (q_s (q_bi qc_isi (by rfl) M.isinstance (by decide +kernel) (q_conss (qv 0) (q_conss (q_s (q_ty (by rfl) M.tuple (by decide +kernel))) q_nils)))))) (qw_or1 (qt_cmp (qo_ne hr.units) (q_s (q_bi qc_len (by rfl) M.len (by decide +kernel) (q_conss (qv 0) q_nils))) (qv 1) (nomark _))))) (qss_one (qs_ret (q_s q_bl))) qss_nil)
    (qss_one (qs_ret (q_s (q_bi (qc_all (by rfl)) (by rfl) M.all (by decide +kernel) (q_conss (q_s (q_f (q_lc (own := [("weight", 2)]) (by rfl) sc_are_weights.nd (qi_seqc (qv 0)) (blkOk_by (own := [("weight", 2)]) (N := Nsc_are_weights) (sc := Ssc_are_weights) (by decide +kernel)) rfl (fun _ _ _ _ _ => (qg_name 2 sc_are_weights.nd (by rfl) (Or.inl (by rfl)))) (fun _ _ _ _ _ => qts_nil) (fun _ _ _ _ _ => (q_call (Ois_whole_from.G.mono (by omega)) hr (by rfl) Ois_whole_from.M Ois_whole_from.kp Ois_whole_from.b (q_cons (qvC 2) (q_cons q_int (q_cons (q_gint (by rfl) C.GREATEST_WEIGHT) q_nil)))))))) q_nils))))))) (fun h => wp_are_weights h)

theorem ok_is_scale_within {m : Nat} (F : Fun K "is_scale_within" "is_scale_within" s_is_scale_within f fd) (M : Bi mg) (C : Cs K mg) (Oare_weights : Ow P w K mg base "are_weights" 3 ["thing", "many"] (spD cWts)) (GG : FnOk P w K mg base CX0 (3 + m) f fd ["thing", "many", "within"] (spD (cScW m))) (mG : mg "is_scale_within" = some (.ref f)) (kG : PySem.W.keepIn K (.ref f) = true) (bG : Binds K fd ["thing", "many", "within"] []) : FnOk P w K mg base CX0 (3 + m + 1) f fd ["thing", "many", "within"] (spD (cScW (m + 1))) :=
  Fun.okQ F sc_is_scale_within rfl (fun ds n R h => by unfold cScW at h; split at h <;> first | rfl | exact h.elim | exact h.1.elim) (fun cdv A outer s H E Γ hr => (qss_cons (qs_if (qt_w (qw_or (qt_cmp (qo_eq hr.units) (qv 2) (q_s q_int) (nomark _)) (qw_or (qt_not (qt_truth (q_s (q_bi qc_isi (by rfl) M.isinstance (by decide +kernel) (q_conss (qv 0) (q_conss (q_s (q_ty (by rfl) M.tuple (by decide +kernel))) q_nils)))))) (qw_or1 (qt_cmp (qo_eq hr.units) (q_s (q_bi qc_len (by rfl) M.len (by decide +kernel) (q_conss (qv 0) q_nils))) (q_s q_int) (nomark _)))))) (qss_one (qs_ret (q_s q_bl))) qss_nil)
    (qss_cons (qs_if (qt_inG (q_s (q_ix (qv 0) (q_s q_int))) (by rfl) C.ALONE hr.units) (qss_one (qs_ret (q_s (q_cmp (qo_eq hr.units) (q_s (q_bi qc_len (by rfl) M.len (by decide +kernel) (q_conss (qv 0) q_nils))) (q_s q_int) (nomark _))))) qss_nil)
    (qss_cons (qs_if (qt_cmp (qo_eq hr.units) (q_s (q_ix (qv 0) (q_s q_int))) (q_s q_str) (nomark _)) (qss_one (qs_ret (q_s (q_and (q_cmp (qo_eq hr.units) (q_s (q_bi qc_len (by rfl) M.len (by decide +kernel) (q_conss (qv 0) q_nils))) (q_s q_int) (nomark _)) (q_one (q_call (Oare_weights.G.mono (by omega)) hr (by rfl) Oare_weights.M Oare_weights.kp Oare_weights.b (q_cons (q_ix (qv 0) (q_s q_int)) (q_cons (qvC 1) q_nil)))))))) qss_nil)
    (qss_cons (qs_if (qt_w (qw_and (qt_inG (q_s (q_ix (qv 0) (q_s q_int))) (by rfl) C.OF_TWO hr.units) (qw_and1 (qt_cmp (qo_eq hr.units) (q_s (q_bi qc_len (by rfl) M.len (by decide +kernel) (q_conss (qv 0) q_nils))) (q_s q_int) (nomark _))))) (qss_one (qs_ret (q_s (q_bi (qc_all (by rfl)) (by rfl) M.all (by decide +kernel) (q_conss (q_s (q_f (q_lc (own := [("part", 3)]) (by rfl) sc_is_scale_within.nd (qi_seqc (q_s (q_slice (qv 0) (qo_some q_int) qo_none))) (blkOk_by (own := [("part", 3)]) (N := Nsc_is_scale_within) (sc := Ssc_is_scale_within) (by decide +kernel)) rfl (fun _ _ _ _ _ => (qg_name 3 sc_is_scale_within.nd (by rfl) (Or.inl (by rfl)))) (fun _ _ _ _ _ => qts_nil) (fun _ _ _ _ _ => (q_call GG hr (by rfl) mG kG bG (q_cons (qvC 3) (q_cons (qvC 1) (q_cons (q_op qo_sub (qv 2) (q_s q_int)) q_nil)))))))) q_nils))))) qss_nil)
    (qss_one (qs_ret (q_s q_bl)))))))) (fun h => wp_is_scale_within h)
theorem rec_is_scale_within (F : Fun K "is_scale_within" "is_scale_within" s_is_scale_within f fd) (M : Bi mg) (C : Cs K mg) (Oare_weights : Ow P w K mg base "are_weights" 3 ["thing", "many"] (spD cWts)) (mG : mg "is_scale_within" = some (.ref f)) (kG : PySem.W.keepIn K (.ref f) = true) (bG : Binds K fd ["thing", "many", "within"] []) : ∀ m : Nat, FnOk P w K mg base CX0 (3 + m) f fd ["thing", "many", "within"] (spD (cScW m))
  | 0 => by
    have no : ∀ vs H Q E, ¬ (spD (cScW 0)) vs H Q E := fun vs H Q E ⟨_, _, _, _, _, _, _, _, _, h, _⟩ => cScW_zero h
    exact ⟨fun vs H Q E h => absurd h (no vs H Q E), fun A outer s H args us vs Q E _ _ _ _ h => absurd h (no vs H Q E)⟩
  | m + 1 => ok_is_scale_within F M C Oare_weights (rec_is_scale_within F M C Oare_weights mG kG bG m) mG kG bG

theorem ok_is_scale (F : Fun K "is_scale" "is_scale" s_is_scale f fd) (M : Bi mg) (C : Cs K mg) (Ois_scale_within : Ow P w K mg base "is_scale_within" 8 ["thing", "many", "within"] (spD (cScW 5))) : FnOk P w K mg base CX0 9 f fd ["thing", "many"] (spD cSc) :=
  Fun.okQ F sc_is_scale rfl (fun ds n R h => by unfold cSc at h; split at h <;> first | rfl | exact h.elim | exact h.1.elim) (fun cdv A outer s H E Γ hr => (qss_one (qs_ret (q_s (q_call (Ois_scale_within.G.mono (by omega)) hr (by rfl) Ois_scale_within.M Ois_scale_within.kp Ois_scale_within.b (q_cons (qvC 0) (q_cons (qvC 1) (q_cons (q_gint (by rfl) C.MOST_SCALES_WITHIN) q_nil)))))))) (fun h => wp_is_scale h)

theorem ok_is_worth (F : Fun K "is_worth" "is_worth" s_is_worth f fd) (M : Bi mg) (C : Cs K mg) (Ois_whole_from : Ow P w K mg base "is_whole_from" 2 ["thing", "least", "greatest"] (spD cIsWF)) (Ois_scale : Ow P w K mg base "is_scale" 9 ["thing", "many"] (spD cSc)) : FnOk P w K mg base CX0 10 f fd ["thing", "many"] (spD cIsWorth) :=
  Fun.okQ F sc_is_worth rfl (fun ds n R h => by unfold cIsWorth at h; split at h <;> first | rfl | exact h.elim | exact h.1.elim) (fun cdv A outer s H E Γ hr => (qss_one (qs_ret (q_s (q_and (q_cmp (qo_eq hr.units) (q_s (q_bi qc_len (by rfl) M.len (by decide +kernel) (q_conss (qv 0) q_nils))) (q_s q_int) (nomark _)) (q_and (q_call (Ois_scale.G.mono (by omega)) hr (by rfl) Ois_scale.M Ois_scale.kp Ois_scale.b (q_cons (q_ix (qv 0) (q_s q_int)) (q_cons (qvC 1) q_nil))) (q_one (q_call (Ois_whole_from.G.mono (by omega)) hr (by rfl) Ois_whole_from.M Ois_whole_from.kp Ois_whole_from.b (q_cons (q_ix (qv 0) (q_s q_int)) (q_cons q_int (q_cons (q_gint (by rfl) C.GREATEST_WORTH) q_nil))))))))))) (fun h => wp_is_worth h)

theorem ok_is_rule_within {m : Nat} (F : Fun K "is_rule_within" "is_rule_within" s_is_rule_within f fd) (M : Bi mg) (C : Cs K mg) (Ois_size : Ow P w K mg base "is_size" 3 ["thing", "many"] (spD cIsSize)) (Ois_worth : Ow P w K mg base "is_worth" 10 ["thing", "many"] (spD cIsWorth)) (GG : FnOk P w K mg base CX0 (10 + m) f fd ["thing", "many", "within"] (spD (cRuW m))) (mG : mg "is_rule_within" = some (.ref f)) (kG : PySem.W.keepIn K (.ref f) = true) (bG : Binds K fd ["thing", "many", "within"] []) : FnOk P w K mg base CX0 (10 + m + 1) f fd ["thing", "many", "within"] (spD (cRuW (m + 1))) :=
  Fun.okQ F sc_is_rule_within rfl (fun ds n R h => by unfold cRuW at h; split at h <;> first | rfl | exact h.elim | exact h.1.elim) (fun cdv A outer s H E Γ hr => (qss_cons (qs_if (qt_w (qw_or (qt_cmp (qo_eq hr.units) (qv 2) (q_s q_int) (nomark _)) (qw_or (qt_not (qt_truth (q_s (q_bi qc_isi (by rfl) M.isinstance (by decide +kernel) (q_conss (qv 0) (q_conss (q_s (q_ty (by rfl) M.tuple (by decide +kernel))) q_nils)))))) (qw_or1 (qt_cmp (qo_eq hr.units) (q_s (q_bi qc_len (by rfl) M.len (by decide +kernel) (q_conss (qv 0) q_nils))) (q_s q_int) (nomark _)))))) (qss_one (qs_ret (q_s q_bl))) qss_nil)
    (qss_cons (qs_if (qt_cmp (qo_eq hr.units) (q_s (q_ix (qv 0) (q_s q_int))) (q_s q_str) (nomark _)) (qss_one (qs_ret (q_s (q_call (Ois_size.G.mono (by omega)) hr (by rfl) Ois_size.M Ois_size.kp Ois_size.b (q_cons (qvC 0) (q_cons (qvC 1) q_nil)))))) qss_nil)
    (qss_cons (qs_if (qt_cmp (qo_eq hr.units) (q_s (q_ix (qv 0) (q_s q_int))) (q_s q_str) (nomark _)) (qss_one (qs_ret (q_s (q_call (Ois_worth.G.mono (by omega)) hr (by rfl) Ois_worth.M Ois_worth.kp Ois_worth.b (q_cons (qvC 0) (q_cons (qvC 1) q_nil)))))) qss_nil)
    (qss_cons (qs_if (qt_w (qw_or (qt_cmp (qo_nin hr.units) (q_s (q_ix (qv 0) (q_s q_int))) (q_s (q_lit (by decide +kernel) (by rfl))) (by first | exact nomark _ | rfl)) (qw_or1 (qt_cmp qo_gt (q_s (q_bi qc_len (by rfl) M.len (by decide +kernel) (q_conss (qv 0) q_nils))) (q_s (q_op qo_add (q_s q_int) (q_s (q_gint (by rfl) C.MOST_PARTS)))) (nomark _))))) (qss_one (qs_ret (q_s q_bl))) qss_nil)
    (qss_one (qs_ret (q_s (q_bi (qc_all (by rfl)) (by rfl) M.all (by decide +kernel) (q_conss (q_s (q_f (q_lc (own := [("part", 3)]) (by rfl) sc_is_rule_within.nd (qi_seqc (q_s (q_slice (qv 0) (qo_some q_int) qo_none))) (blkOk_by (own := [("part", 3)]) (N := Nsc_is_rule_within) (sc := Ssc_is_rule_within) (by decide +kernel)) rfl (fun _ _ _ _ _ => (qg_name 3 sc_is_rule_within.nd (by rfl) (Or.inl (by rfl)))) (fun _ _ _ _ _ => qts_nil) (fun _ _ _ _ _ => (q_call GG hr (by rfl) mG kG bG (q_cons (qvC 3) (q_cons (qvC 1) (q_cons (q_op qo_sub (qv 2) (q_s q_int)) q_nil)))))))) q_nils)))))))))) (fun h => wp_is_rule_within h)
theorem rec_is_rule_within (F : Fun K "is_rule_within" "is_rule_within" s_is_rule_within f fd) (M : Bi mg) (C : Cs K mg) (Ois_size : Ow P w K mg base "is_size" 3 ["thing", "many"] (spD cIsSize)) (Ois_worth : Ow P w K mg base "is_worth" 10 ["thing", "many"] (spD cIsWorth)) (mG : mg "is_rule_within" = some (.ref f)) (kG : PySem.W.keepIn K (.ref f) = true) (bG : Binds K fd ["thing", "many", "within"] []) : ∀ m : Nat, FnOk P w K mg base CX0 (10 + m) f fd ["thing", "many", "within"] (spD (cRuW m))
  | 0 => by
    have no : ∀ vs H Q E, ¬ (spD (cRuW 0)) vs H Q E := fun vs H Q E ⟨_, _, _, _, _, _, _, _, _, h, _⟩ => cRuW_zero h
    exact ⟨fun vs H Q E h => absurd h (no vs H Q E), fun A outer s H args us vs Q E _ _ _ _ h => absurd h (no vs H Q E)⟩
  | m + 1 => ok_is_rule_within F M C Ois_size Ois_worth (rec_is_rule_within F M C Ois_size Ois_worth mG kG bG m) mG kG bG

theorem ok_is_rule (F : Fun K "is_rule" "is_rule" s_is_rule f fd) (M : Bi mg) (C : Cs K mg) (Ois_rule_within : Ow P w K mg base "is_rule_within" 15 ["thing", "many", "within"] (spD (cRuW 5))) : FnOk P w K mg base CX0 16 f fd ["thing", "many"] (spD cRu) :=
  Fun.okQ F sc_is_rule rfl (fun ds n R h => by unfold cRu at h; split at h <;> first | rfl | exact h.elim | exact h.1.elim) (fun cdv A outer s H E Γ hr => (qss_one (qs_ret (q_s (q_call (Ois_rule_within.G.mono (by omega)) hr (by rfl) Ois_rule_within.M Ois_rule_within.kp Ois_rule_within.b (q_cons (qvC 0) (q_cons (qvC 1) (q_cons (q_gint (by rfl) C.MOST_RULES_WITHIN) q_nil)))))))) (fun h => wp_is_rule h)

theorem ok_law (F : Fun K "law" "law" s_law f fd) (M : Bi mg) (C : Cs K mg) (O_law_pen : Ow P w K mg base "_law_pen" 1 ["_law_script"] (spPen K)) (O_law_step : Ow P w K mg base "_law_step" 3 ["_law_pen_here"] (spD cStep)) (O_law_draw : Ow P w K mg base "_law_draw" 1 ["_law_pen_here", "_law_many"] (spD cDraw)) (O_law_thing : Ow P w K mg base "_law_thing" 2 ["_law_pen_here", "_law_many", "_law_upto", "_law_by"] (spD cThing)) (O_law_rule : Ow P w K mg base "_law_rule" 12 ["_law_pen_here", "_law_greatest", "_law_near", "_law_deep"] (spD (cRule 5))) (O_law_meet : Ow P w K mg base "_law_meet" 1 ["_law_one", "_law_other"] (spD cMeetL)) (O_law_edge : Ow P w K mg base "_law_edge" 8 ["_law_pen_here", "_law_count"] (spD cEdge)) (O_law_pick : Ow P w K mg base "_law_pick" 2 ["_law_pen_here", "_law_some"] (spD cPick)) (O_law_shuffled : Ow P w K mg base "_law_shuffled" 2 ["_law_pen_here", "_law_some"] (spD cShuf)) (O_law_bent : Ow P w K mg base "_law_bent" 23 ["_law_pen_here", "_law_thing_here"] (spD (cBn 20))) (O_law_is_rule : Ow P w K mg base "_law_is_rule" 11 ["_law_thing_here", "_law_many", "_law_deep"] (spD (cRuW 5))) (Ois_rule : Ow P w K mg base "is_rule" 16 ["thing", "many"] (spD cRu)) : FnOk P w K mg base CX0 24 f fd ["_law_script"] (spLaw K) := by
  refine F.ok sc_law (fun vs H Q E h => ?_) (fun cdv A outer s H vs Q E hr h => ?_)
  · obtain ⟨a, ns, rfl, _⟩ := h
    rfl
  obtain ⟨a, ns, rfl, h⟩ := h
  have hu := hu_of hr
  refine ⟨_, (pss_cons (ps_set (i := 1) sc_law.nd rfl (Or.inr rfl) (pe_call (O_law_pen.G.mono (by omega)) hr rfl O_law_pen.M O_law_pen.kp O_law_pen.b .nil pass0 (pa_cons (pv 0) pa_nil))) (pss_cons (ps_for PassesOwn.never rfl (pi_range1 rfl M.range (pa_cons (pe_op op_add pe_int (pe_callB (call_min2 rfl) (by rfl) M.min (by decide +kernel) (pa_cons pe_int (pa_cons (pe_callB (call_lenK (K := K)) (by rfl) M.len (by decide +kernel) (pa_cons (pv 0) pa_nil)) pa_nil)))) pa_nil)) (pg_name (i := 2) sc_law.nd rfl (Or.inl rfl)) (QSs.ex fun Γ => (qss_cons (qs_asg (vs := [3, 4]) (q_tup (q_cons (q_op qo_add (q_s q_int) (q_s (q_call (O_law_draw.G.mono (by omega)) hr (by rfl) O_law_draw.M O_law_draw.kp O_law_draw.b (q_cons (qvC 1) (q_cons q_int q_nil))))) (q_cons (q_call (O_law_step.G.mono (by omega)) hr (by rfl) O_law_step.M O_law_step.kp O_law_step.b (q_cons (qvC 1) q_nil)) q_nil))) (qg_tup (by rfl) (qgs_cons (qg_name 3 sc_law.nd (by rfl) (Or.inr (by rfl))) (qgs_cons (qg_name 4 sc_law.nd (by rfl) (Or.inl (by rfl))) qgs_nil))))
    (qss_cons (qs_set 5 sc_law.nd (by rfl) (Or.inl (by rfl)) (q_call (O_law_thing.G.mono (by omega)) hr (by rfl) O_law_thing.M O_law_thing.kp O_law_thing.b (q_cons (qvC 1) (q_cons (qvC 3) (q_cons q_int (q_cons (qvC 4) q_nil))))))
    (qss_cons (qs_set 6 sc_law.nd (by rfl) (Or.inl (by rfl)) (q_call (O_law_rule.G.mono (by omega)) hr (by rfl) O_law_rule.M O_law_rule.kp O_law_rule.b (q_cons (qvC 1) (q_cons (qvC 5) (q_cons (q_call (O_law_meet.G.mono (by omega)) hr (by rfl) O_law_meet.M O_law_meet.kp O_law_meet.b (q_cons (qvC 5) (q_cons (q_call (O_law_thing.G.mono (by omega)) hr (by rfl) O_law_thing.M O_law_thing.kp O_law_thing.b (q_cons (qvC 1) (q_cons (qvC 3) (q_cons q_int (q_cons (qvC 4) q_nil))))) q_nil))) (q_cons (q_op qo_add (q_s q_int) (q_s (q_call (O_law_draw.G.mono (by omega)) hr (by rfl) O_law_draw.M O_law_draw.kp O_law_draw.b (q_cons (qvC 1) (q_cons q_int q_nil))))) q_nil))))))
    (qss_cons (qs_set 7 sc_law.nd (by rfl) (Or.inl (by rfl)) (q_call (O_law_edge.G.mono (by omega)) hr (by rfl) O_law_edge.M O_law_edge.kp O_law_edge.b (q_cons (qvC 1) (q_cons (qvC 3) q_nil))))
    (qss_cons (qs_for (vs := [8]) PassesOwn.never (by rfl) (qi_range1 (by rfl) M.range (q_cons (q_call (O_law_draw.G.mono (by omega)) hr (by rfl) O_law_draw.M O_law_draw.kp O_law_draw.b (q_cons (qvC 1) (q_cons q_int q_nil))) q_nil)) (qg_name 8 sc_law.nd (by rfl) (Or.inl (by rfl))) (qss_cons (qs_lc 9 (own := [("_law_j", 10)]) (by rfl) sc_law.nd (by rfl) (by rfl) (sw_true rfl rfl rfl (by decide +kernel)) (qi_c (qi_range1 (by rfl) M.range (q_cons (q_call (O_law_draw.G.mono (by omega)) hr (by rfl) O_law_draw.M O_law_draw.kp O_law_draw.b (q_cons (qvC 1) (q_cons q_int q_nil))) q_nil))) (blkOk_by (own := [("_law_j", 10)]) (N := Nsc_law) (sc := Ssc_law) (by decide +kernel)) rfl (fun _ _ _ _ _ => (qg_name 10 sc_law.nd (by rfl) (Or.inl (by rfl)))) (fun _ _ _ _ _ => qts_nil) (fun _ _ _ _ _ => (q_call (O_law_edge.G.mono (by omega)) hr (by rfl) O_law_edge.M O_law_edge.kp O_law_edge.b (q_cons (qvC 1) (q_cons (qvC 3) q_nil)))))
    (qss_one (qs_set 7 sc_law.nd (by rfl) (Or.inl (by rfl)) (q_op qo_add (q_s (q_tup (q_cons (q_call (O_law_pick.G.mono (by omega)) hr (by rfl) O_law_pick.M O_law_pick.kp O_law_pick.b (q_cons (qvC 1) (q_cons (q_lit (by decide +kernel) (by rfl)) q_nil))) q_nil))) (q_s (q_bty qc_tuple (by rfl) M.tuple (by decide +kernel) (q_conss (q_s (q_call (O_law_shuffled.G.mono (by omega)) hr (by rfl) O_law_shuffled.M O_law_shuffled.kp O_law_shuffled.b (q_cons (qvC 1) (q_cons (q_op qo_add (qv 9) (q_s (q_f (q_lst (q_cons (qvC 7) q_nil))))) q_nil)))) q_nils))))))))
    (qss_cons (qs_own 11 sc_law.nd (by rfl) (Or.inl (by rfl)) (q_lst (q_cons (qvC 6) (q_cons (qvC 7) (q_cons (q_call (O_law_edge.G.mono (by omega)) hr (by rfl) O_law_edge.M O_law_edge.kp O_law_edge.b (q_cons (qvC 1) (q_cons (qvC 3) q_nil))) (q_cons (q_lit (by decide +kernel) (by rfl)) (q_cons q_str (q_cons q_non (q_cons (q_lit (by decide +kernel) (by rfl)) q_nil)))))))))
    (qss_cons (qs_for (vs := [8]) PassesOwn.never (by rfl) (qi_range1 (by rfl) M.range (q_cons q_int q_nil)) (qg_name 8 sc_law.nd (by rfl) (Or.inl (by rfl))) (qss_cons (qs_app 11 (by rfl) (q_call (O_law_bent.G.mono (by omega)) hr (by rfl) O_law_bent.M O_law_bent.kp O_law_bent.b (q_cons (qvC 1) (q_cons (q_ix (q_s (q_f (q_lst (q_cons (qvC 6) (q_cons (qvC 7) q_nil))))) (q_s (q_op qo_mod (qv 8) (q_s q_int)))) q_nil))))
    (qss_one (qs_app 11 (by rfl) (q_call (O_law_bent.G.mono (by omega)) hr (by rfl) O_law_bent.M O_law_bent.kp O_law_bent.b (q_cons (qvC 1) (q_cons (q_ix (qv 11) (q_s (q_lit (by decide +kernel) (by rfl)))) q_nil)))))))
    (qss_frz 11 (qss_one (qs_for (vs := [12]) PassesOwn.never (by rfl) (qi_seq (qvC 11)) (qg_name 12 sc_law.nd (by rfl) (Or.inl (by rfl))) (qss_one (qs_for (vs := [13]) PassesOwn.never (by rfl) (qi_seq (q_tup (q_cons (qvC 3) (q_cons (q_op qo_add (q_s (q_op qo_mod (qv 3) (q_s q_int))) (q_s q_int)) q_nil)))) (qg_name 13 sc_law.nd (by rfl) (Or.inl (by rfl))) (qss_cons (qs_par 14 15 (by rfl) sc_law.nd (by rfl) (by rfl) (by decide) (by rfl) (by rfl) (q_bi (qc_repr hr.gd (hu65 hr)) (by rfl) M.repr (by decide +kernel) (q_conss (qv 12) q_nils)) (q_call (O_law_is_rule.G.mono (by omega)) hr (by rfl) O_law_is_rule.M O_law_is_rule.kp O_law_is_rule.b (q_cons (qvC 12) (q_cons (qvC 13) (q_cons q_int q_nil)))) (by rfl))
    (qss_one (qs_if (qt_w (qw_or (qt_cmp (qo_ne hr.units) (q_s (q_bi (qc_repr hr.gd (hu65 hr)) (by rfl) M.repr (by decide +kernel) (q_conss (q_s (q_call (Ois_rule.G.mono (by omega)) hr (by rfl) Ois_rule.M Ois_rule.kp Ois_rule.b (q_cons (qvC 12) (q_cons (qvC 13) q_nil)))) q_nils))) (q_s (q_bi (qc_repr hr.gd (hu65 hr)) (by rfl) M.repr (by decide +kernel) (q_conss (qv 15) q_nils))) (nomark _)) (qw_or1 (qt_cmp (qo_ne hr.units) (q_s (q_bi (qc_repr hr.gd (hu65 hr)) (by rfl) M.repr (by decide +kernel) (q_conss (qv 12) q_nils))) (qv 14) (nomark _))))) (qss_one (qs_ret (q_s q_bl))) qss_nil))))))))))))))))) (pss_one (ps_ret pe_bl)))), ?_⟩
  obtain ⟨hS, h63, q⟩ := h
  refine ⟨_, rfl, a, ns, rfl, hS, h63, fun p c H1 s1 pn1 => ?_⟩
  have ll : (ns.map V.int).length = ns.length := List.length_map _
  refine ⟨_, rfl, a, _, rfl, .inl (s1.seq hS), _, _, rfl, _, _, rfl, rfl, _, rfl, ?_, ?_, ?_⟩
  · split <;> omega
  · split <;> omega
  have hm : (3 + if ((ns.map V.int).length : Int) < 6 then ((ns.map V.int).length : Int) else 6).toNat ≤ 9 := by split <;> omega
  refine law_loop (N := 16) (k := 2) (cost := 1000000) pn1 rfl rfl (by decide) (by decide) (fun _ H => q H) (fun ρ n i hl hp hi hn => ?_)
  have hi' : i < 9 := by omega
  clear hm hi ll
  exact law_body ρ n i hl hp hi' hn

end

theorem all_mk {l : PySem.W.OpenLaw} {w : World} {K : PySem.W.Frag} {h : Heap} {mg : Str → Option Value} {fa f0 f1 f2 f3 f4 f5 f6 f7 f8 f9 f10 f11 f12 f13 f14 f15 f16 f17 f18 f19 f20 f21 f22 f23 f24 f25 f26 f27  : Addr} {y0 y1 y2_0 y2_1 y2_2 y3_0 y3_1 y3_2 y4 y5 y6 y7 : Tok} (X : K.In h) (G : h.Ns mainGlobals mg) (hfa : mg "law" = some (.ref fa))
    {od0 an0 od1 an1 od2 an2 od3 an3 od4 an4 od5 an5 od6 an6 od7 an7 od8 an8 od9 an9 od10 an10 od11 an11 od12 an12 od13 an13 od14 an14 od15 an15 od16 an16 od17 an17 od18 an18 od19 an19 od20 an20 od21 an21 od22 an22 od23 an23 od24 an24 od25 an25 od26 an26 od27 an27 : Option Addr} {sl0 sl1 sl2 sl3 sl4 sl5 sl6 sl7 sl8 sl9 sl10 sl11 sl12 sl13 sl14 sl15 sl16 sl17 sl18 sl19 sl20 sl21 sl22 sl23 sl24 sl25 sl26 sl27 : Array (Option Value)} {oc0 kV0 dc0 pm0 cd0 ct0 oc1 kV1 dc1 pm1 cd1 ct1 oc2 kV2 dc2 pm2 cd2 ct2 oc3 kV3 dc3 pm3 cd3 ct3 oc4 kV4 dc4 pm4 cd4 ct4 oc5 kV5 dc5 pm5 cd5 ct5 oc6 kV6 dc6 pm6 cd6 ct6 oc7 kV7 dc7 pm7 cd7 ct7 oc8 kV8 dc8 pm8 cd8 ct8 oc9 kV9 dc9 pm9 cd9 ct9 oc10 kV10 dc10 pm10 cd10 ct10 oc11 kV11 dc11 pm11 cd11 ct11 oc12 kV12 dc12 pm12 cd12 ct12 oc13 kV13 dc13 pm13 cd13 ct13 oc14 kV14 dc14 pm14 cd14 ct14 oc15 kV15 dc15 pm15 cd15 ct15 oc16 kV16 dc16 pm16 cd16 ct16 oc17 kV17 dc17 pm17 cd17 ct17 oc18 kV18 dc18 pm18 cd18 ct18 oc19 kV19 dc19 pm19 cd19 ct19 oc20 kV20 dc20 pm20 cd20 ct20 oc21 kV21 dc21 pm21 cd21 ct21 oc22 kV22 dc22 pm22 cd22 ct22 oc23 kV23 dc23 pm23 cd23 ct23 oc24 kV24 dc24 pm24 cd24 ct24 oc25 kV25 dc25 pm25 cd25 ct25 oc26 kV26 dc26 pm26 cd26 ct26 oc27 kV27 dc27 pm27 cd27 ct27 : Value}
    (a0 : PySem.W.nsIn K mainGlobals "_law_pen" = some (some (.ref f0))) (l0 : K.lookup f0 = some ⟨oc0, od0, .func (PySem.W.fnOf "_law_pen" "_law_pen" (defArgs s_law_pen) (defBody s_law_pen) (defScope s_law_pen) .none kV0 dc0 pm0 an0 cd0 ct0), sl0⟩) (c0 : PySem.W.codeIn K cd0 "_law_pen" = true) (k0 : PySem.W.keepIn K (.ref f0) = true)
    (a1 : PySem.W.nsIn K mainGlobals "_law_draw" = some (some (.ref f1))) (l1 : K.lookup f1 = some ⟨oc1, od1, .func (PySem.W.fnOf "_law_draw" "_law_draw" (defArgs s_law_draw) (defBody s_law_draw) (defScope s_law_draw) .none kV1 dc1 pm1 an1 cd1 ct1), sl1⟩) (c1 : PySem.W.codeIn K cd1 "_law_draw" = true) (k1 : PySem.W.keepIn K (.ref f1) = true)
    (a2 : PySem.W.nsIn K mainGlobals "_law_thing" = some (some (.ref f2))) (l2 : K.lookup f2 = some ⟨oc2, od2, .func (PySem.W.fnOf "_law_thing" "_law_thing" (defArgs s_law_thing) (defBody s_law_thing) (defScope s_law_thing) .none kV2 dc2 pm2 an2 cd2 ct2), sl2⟩) (c2 : PySem.W.codeIn K cd2 "_law_thing" = true) (k2 : PySem.W.keepIn K (.ref f2) = true)
    (a3 : PySem.W.nsIn K mainGlobals "_law_pick" = some (some (.ref f3))) (l3 : K.lookup f3 = some ⟨oc3, od3, .func (PySem.W.fnOf "_law_pick" "_law_pick" (defArgs s_law_pick) (defBody s_law_pick) (defScope s_law_pick) .none kV3 dc3 pm3 an3 cd3 ct3), sl3⟩) (c3 : PySem.W.codeIn K cd3 "_law_pick" = true) (k3 : PySem.W.keepIn K (.ref f3) = true)
    (a4 : PySem.W.nsIn K mainGlobals "_law_scale" = some (some (.ref f4))) (l4 : K.lookup f4 = some ⟨oc4, od4, .func (PySem.W.fnOf "_law_scale" "_law_scale" (defArgs s_law_scale) (defBody s_law_scale) (defScope s_law_scale) .none kV4 dc4 pm4 an4 cd4 ct4), sl4⟩) (c4 : PySem.W.codeIn K cd4 "_law_scale" = true) (k4 : PySem.W.keepIn K (.ref f4) = true)
    (a5 : PySem.W.nsIn K mainGlobals "_law_bound" = some (some (.ref f5))) (l5 : K.lookup f5 = some ⟨oc5, od5, .func (PySem.W.fnOf "_law_bound" "_law_bound" (defArgs s_law_bound) (defBody s_law_bound) (defScope s_law_bound) .none kV5 dc5 pm5 an5 cd5 ct5), sl5⟩) (c5 : PySem.W.codeIn K cd5 "_law_bound" = true) (k5 : PySem.W.keepIn K (.ref f5) = true)
    (a6 : PySem.W.nsIn K mainGlobals "_law_shuffled" = some (some (.ref f6))) (l6 : K.lookup f6 = some ⟨oc6, od6, .func (PySem.W.fnOf "_law_shuffled" "_law_shuffled" (defArgs s_law_shuffled) (defBody s_law_shuffled) (defScope s_law_shuffled) .none kV6 dc6 pm6 an6 cd6 ct6), sl6⟩) (c6 : PySem.W.codeIn K cd6 "_law_shuffled" = true) (k6 : PySem.W.keepIn K (.ref f6) = true)
    (a7 : PySem.W.nsIn K mainGlobals "_law_worth" = some (some (.ref f7))) (l7 : K.lookup f7 = some ⟨oc7, od7, .func (PySem.W.fnOf "_law_worth" "_law_worth" (defArgs s_law_worth) (defBody s_law_worth) (defScope s_law_worth) .none kV7 dc7 pm7 an7 cd7 ct7), sl7⟩) (c7 : PySem.W.codeIn K cd7 "_law_worth" = true) (k7 : PySem.W.keepIn K (.ref f7) = true)
    (a8 : PySem.W.nsIn K mainGlobals "_law_rule" = some (some (.ref f8))) (l8 : K.lookup f8 = some ⟨oc8, od8, .func (PySem.W.fnOf "_law_rule" "_law_rule" (defArgs s_law_rule) (defBody s_law_rule) (defScope s_law_rule) .none kV8 dc8 pm8 an8 cd8 ct8), sl8⟩) (c8 : PySem.W.codeIn K cd8 "_law_rule" = true) (k8 : PySem.W.keepIn K (.ref f8) = true)
    (a9 : PySem.W.nsIn K mainGlobals "_law_far" = some (some (.ref f9))) (l9 : K.lookup f9 = some ⟨oc9, od9, .func (PySem.W.fnOf "_law_far" "_law_far" (defArgs s_law_far) (defBody s_law_far) (defScope s_law_far) .none kV9 dc9 pm9 an9 cd9 ct9), sl9⟩) (c9 : PySem.W.codeIn K cd9 "_law_far" = true) (k9 : PySem.W.keepIn K (.ref f9) = true)
    (a10 : PySem.W.nsIn K mainGlobals "_law_edge" = some (some (.ref f10))) (l10 : K.lookup f10 = some ⟨oc10, od10, .func (PySem.W.fnOf "_law_edge" "_law_edge" (defArgs s_law_edge) (defBody s_law_edge) (defScope s_law_edge) .none kV10 dc10 pm10 an10 cd10 ct10), sl10⟩) (c10 : PySem.W.codeIn K cd10 "_law_edge" = true) (k10 : PySem.W.keepIn K (.ref f10) = true)
    (a11 : PySem.W.nsIn K mainGlobals "_law_step" = some (some (.ref f11))) (l11 : K.lookup f11 = some ⟨oc11, od11, .func (PySem.W.fnOf "_law_step" "_law_step" (defArgs s_law_step) (defBody s_law_step) (defScope s_law_step) .none kV11 dc11 pm11 an11 cd11 ct11), sl11⟩) (c11 : PySem.W.codeIn K cd11 "_law_step" = true) (k11 : PySem.W.keepIn K (.ref f11) = true)
    (a12 : PySem.W.nsIn K mainGlobals "_law_meet" = some (some (.ref f12))) (l12 : K.lookup f12 = some ⟨oc12, od12, .func (PySem.W.fnOf "_law_meet" "_law_meet" (defArgs s_law_meet) (defBody s_law_meet) (defScope s_law_meet) .none kV12 dc12 pm12 an12 cd12 ct12), sl12⟩) (c12 : PySem.W.codeIn K cd12 "_law_meet" = true) (k12 : PySem.W.keepIn K (.ref f12) = true)
    (a13 : PySem.W.nsIn K mainGlobals "_law_odd" = some (some (.ref f13))) (l13 : K.lookup f13 = some ⟨oc13, od13, .func (PySem.W.fnOf "_law_odd" "_law_odd" (defArgs s_law_odd) (defBody s_law_odd) (defScope s_law_odd) .none kV13 dc13 pm13 an13 cd13 ct13), sl13⟩) (c13 : PySem.W.codeIn K cd13 "_law_odd" = true) (k13 : PySem.W.keepIn K (.ref f13) = true)
    (a14 : PySem.W.nsIn K mainGlobals "_law_bent" = some (some (.ref f14))) (l14 : K.lookup f14 = some ⟨oc14, od14, .func (PySem.W.fnOf "_law_bent" "_law_bent" (defArgs s_law_bent) (defBody s_law_bent) (defScope s_law_bent) .none kV14 dc14 pm14 an14 cd14 ct14), sl14⟩) (c14 : PySem.W.codeIn K cd14 "_law_bent" = true) (k14 : PySem.W.keepIn K (.ref f14) = true)
    (a15 : PySem.W.nsIn K mainGlobals "_law_is_from" = some (some (.ref f15))) (l15 : K.lookup f15 = some ⟨oc15, od15, .func (PySem.W.fnOf "_law_is_from" "_law_is_from" (defArgs s_law_is_from) (defBody s_law_is_from) (defScope s_law_is_from) .none kV15 dc15 pm15 an15 cd15 ct15), sl15⟩) (c15 : PySem.W.codeIn K cd15 "_law_is_from" = true) (k15 : PySem.W.keepIn K (.ref f15) = true)
    (a16 : PySem.W.nsIn K mainGlobals "_law_is_scale" = some (some (.ref f16))) (l16 : K.lookup f16 = some ⟨oc16, od16, .func (PySem.W.fnOf "_law_is_scale" "_law_is_scale" (defArgs s_law_is_scale) (defBody s_law_is_scale) (defScope s_law_is_scale) .none kV16 dc16 pm16 an16 cd16 ct16), sl16⟩) (c16 : PySem.W.codeIn K cd16 "_law_is_scale" = true) (k16 : PySem.W.keepIn K (.ref f16) = true)
    (a17 : PySem.W.nsIn K mainGlobals "_law_is_rule" = some (some (.ref f17))) (l17 : K.lookup f17 = some ⟨oc17, od17, .func (PySem.W.fnOf "_law_is_rule" "_law_is_rule" (defArgs s_law_is_rule) (defBody s_law_is_rule) (defScope s_law_is_rule) .none kV17 dc17 pm17 an17 cd17 ct17), sl17⟩) (c17 : PySem.W.codeIn K cd17 "_law_is_rule" = true) (k17 : PySem.W.keepIn K (.ref f17) = true)
    (a18 : PySem.W.nsIn K mainGlobals "is_whole" = some (some (.ref f18))) (l18 : K.lookup f18 = some ⟨oc18, od18, .func (PySem.W.fnOf "is_whole" "is_whole" (defArgs s_is_whole) (defBody s_is_whole) (defScope s_is_whole) .none kV18 dc18 pm18 an18 cd18 ct18), sl18⟩) (c18 : PySem.W.codeIn K cd18 "is_whole" = true) (k18 : PySem.W.keepIn K (.ref f18) = true)
    (a19 : PySem.W.nsIn K mainGlobals "is_whole_from" = some (some (.ref f19))) (l19 : K.lookup f19 = some ⟨oc19, od19, .func (PySem.W.fnOf "is_whole_from" "is_whole_from" (defArgs s_is_whole_from) (defBody s_is_whole_from) (defScope s_is_whole_from) .none kV19 dc19 pm19 an19 cd19 ct19), sl19⟩) (c19 : PySem.W.codeIn K cd19 "is_whole_from" = true) (k19 : PySem.W.keepIn K (.ref f19) = true)
    (a20 : PySem.W.nsIn K mainGlobals "is_size" = some (some (.ref f20))) (l20 : K.lookup f20 = some ⟨oc20, od20, .func (PySem.W.fnOf "is_size" "is_size" (defArgs s_is_size) (defBody s_is_size) (defScope s_is_size) .none kV20 dc20 pm20 an20 cd20 ct20), sl20⟩) (c20 : PySem.W.codeIn K cd20 "is_size" = true) (k20 : PySem.W.keepIn K (.ref f20) = true)
    (a21 : PySem.W.nsIn K mainGlobals "are_weights" = some (some (.ref f21))) (l21 : K.lookup f21 = some ⟨oc21, od21, .func (PySem.W.fnOf "are_weights" "are_weights" (defArgs s_are_weights) (defBody s_are_weights) (defScope s_are_weights) .none kV21 dc21 pm21 an21 cd21 ct21), sl21⟩) (c21 : PySem.W.codeIn K cd21 "are_weights" = true) (k21 : PySem.W.keepIn K (.ref f21) = true)
    (a22 : PySem.W.nsIn K mainGlobals "is_scale_within" = some (some (.ref f22))) (l22 : K.lookup f22 = some ⟨oc22, od22, .func (PySem.W.fnOf "is_scale_within" "is_scale_within" (defArgs s_is_scale_within) (defBody s_is_scale_within) (defScope s_is_scale_within) .none kV22 dc22 pm22 an22 cd22 ct22), sl22⟩) (c22 : PySem.W.codeIn K cd22 "is_scale_within" = true) (k22 : PySem.W.keepIn K (.ref f22) = true)
    (a23 : PySem.W.nsIn K mainGlobals "is_scale" = some (some (.ref f23))) (l23 : K.lookup f23 = some ⟨oc23, od23, .func (PySem.W.fnOf "is_scale" "is_scale" (defArgs s_is_scale) (defBody s_is_scale) (defScope s_is_scale) .none kV23 dc23 pm23 an23 cd23 ct23), sl23⟩) (c23 : PySem.W.codeIn K cd23 "is_scale" = true) (k23 : PySem.W.keepIn K (.ref f23) = true)
    (a24 : PySem.W.nsIn K mainGlobals "is_worth" = some (some (.ref f24))) (l24 : K.lookup f24 = some ⟨oc24, od24, .func (PySem.W.fnOf "is_worth" "is_worth" (defArgs s_is_worth) (defBody s_is_worth) (defScope s_is_worth) .none kV24 dc24 pm24 an24 cd24 ct24), sl24⟩) (c24 : PySem.W.codeIn K cd24 "is_worth" = true) (k24 : PySem.W.keepIn K (.ref f24) = true)
    (a25 : PySem.W.nsIn K mainGlobals "is_rule_within" = some (some (.ref f25))) (l25 : K.lookup f25 = some ⟨oc25, od25, .func (PySem.W.fnOf "is_rule_within" "is_rule_within" (defArgs s_is_rule_within) (defBody s_is_rule_within) (defScope s_is_rule_within) .none kV25 dc25 pm25 an25 cd25 ct25), sl25⟩) (c25 : PySem.W.codeIn K cd25 "is_rule_within" = true) (k25 : PySem.W.keepIn K (.ref f25) = true)
    (a26 : PySem.W.nsIn K mainGlobals "is_rule" = some (some (.ref f26))) (l26 : K.lookup f26 = some ⟨oc26, od26, .func (PySem.W.fnOf "is_rule" "is_rule" (defArgs s_is_rule) (defBody s_is_rule) (defScope s_is_rule) .none kV26 dc26 pm26 an26 cd26 ct26), sl26⟩) (c26 : PySem.W.codeIn K cd26 "is_rule" = true) (k26 : PySem.W.keepIn K (.ref f26) = true)
    (a27 : PySem.W.nsIn K mainGlobals "law" = some (some (.ref f27))) (l27 : K.lookup f27 = some ⟨oc27, od27, .func (PySem.W.fnOf "law" "law" (defArgs s_law) (defBody s_law) (defScope s_law) .none kV27 dc27 pm27 an27 cd27 ct27), sl27⟩) (c27 : PySem.W.codeIn K cd27 "law" = true) (k27 : PySem.W.keepIn K (.ref f27) = true)
     (z0 : PySem.W.nsIn K mainGlobals "abs" = some none) (z1 : PySem.W.nsIn K mainGlobals "all" = some none) (z2 : PySem.W.nsIn K mainGlobals "bool" = some none) (z3 : PySem.W.nsIn K mainGlobals "int" = some none) (z4 : PySem.W.nsIn K mainGlobals "isinstance" = some none) (z5 : PySem.W.nsIn K mainGlobals "len" = some none) (z6 : PySem.W.nsIn K mainGlobals "list" = some none) (z7 : PySem.W.nsIn K mainGlobals "max" = some none) (z8 : PySem.W.nsIn K mainGlobals "min" = some none) (z9 : PySem.W.nsIn K mainGlobals "range" = some none) (z10 : PySem.W.nsIn K mainGlobals "repr" = some none) (z11 : PySem.W.nsIn K mainGlobals "str" = some none) (z12 : PySem.W.nsIn K mainGlobals "sum" = some none) (z13 : PySem.W.nsIn K mainGlobals "tuple" = some none) (u0 : PySem.W.nsIn K mainGlobals "MOST_SCALES_WITHIN" = some (some (.int (4 : Int) y0))) (u1 : PySem.W.nsIn K mainGlobals "GREATEST_WEIGHT" = some (some (.int (1000 : Int) y1))) {pt2 : Addr} {odt2 : Option Addr} {nt2 : Nat} {slt2 : Array (Option Value)} (u2 : PySem.W.nsIn K mainGlobals "ALONE" = some (some (.ref pt2))) (t2 : K.lookup pt2 = some ⟨.type "tuple", odt2, .seq #[.str "times" y2_0, .str "low" y2_1, .str "high" y2_2] nt2, slt2⟩) {pt3 : Addr} {odt3 : Option Addr} {nt3 : Nat} {slt3 : Array (Option Value)} (u3 : PySem.W.nsIn K mainGlobals "OF_TWO" = some (some (.ref pt3))) (t3 : K.lookup pt3 = some ⟨.type "tuple", odt3, .seq #[.str "add" y3_0, .str "lesser" y3_1, .str "greater" y3_2] nt3, slt3⟩) (u4 : PySem.W.nsIn K mainGlobals "GREATEST_OF_THINGS" = some (some (.int (1000000000 : Int) y4))) (u5 : PySem.W.nsIn K mainGlobals "MOST_RULES_WITHIN" = some (some (.int (4 : Int) y5))) (u6 : PySem.W.nsIn K mainGlobals "MOST_PARTS" = some (some (.int (4 : Int) y6))) (u7 : PySem.W.nsIn K mainGlobals "GREATEST_WORTH" = some (some (.int (1000000000000000000000000000000000000000000000000000000000000000000000000000 : Int) y7))) :
    ∃ fd : FuncData, (∀ (s : Shared) (v : Value), BindsTo s fd ⟨[v], []⟩ [("_law_script", v)]) ∧ ∀ base : Heap, K.In base → base.Ns mainGlobals mg → FnOk l.prog w K mg base CX0 24 fa fd ["_law_script"] (spLaw K) := by
  have e := hfa.symm.trans (PySem.W.mg_of X G a27)
  cases e
  have F0 := fun_mk (st := s_law_pen) l0 c0 k0
  have b0 := F0.binds (ps := ["_law_script"]) fun _ _ _ _ _ _ us hl => match us, hl with | [_], _ => rfl
  have F1 := fun_mk (st := s_law_draw) l1 c1 k1
  have b1 := F1.binds (ps := ["_law_pen_here", "_law_many"]) fun _ _ _ _ _ _ us hl => match us, hl with | [_, _], _ => rfl
  have F2 := fun_mk (st := s_law_thing) l2 c2 k2
  have b2 := F2.binds (ps := ["_law_pen_here", "_law_many", "_law_upto", "_law_by"]) fun _ _ _ _ _ _ us hl => match us, hl with | [_, _, _, _], _ => rfl
  have F3 := fun_mk (st := s_law_pick) l3 c3 k3
  have b3 := F3.binds (ps := ["_law_pen_here", "_law_some"]) fun _ _ _ _ _ _ us hl => match us, hl with | [_, _], _ => rfl
  have F4 := fun_mk (st := s_law_scale) l4 c4 k4
  have b4 := F4.binds (ps := ["_law_pen_here", "_law_many", "_law_deep"]) fun _ _ _ _ _ _ us hl => match us, hl with | [_, _, _], _ => rfl
  have F5 := fun_mk (st := s_law_bound) l5 c5 k5
  have b5 := F5.binds (ps := ["_law_pen_here", "_law_count", "_law_other"]) fun _ _ _ _ _ _ us hl => match us, hl with | [_, _, _], _ => rfl
  have F6 := fun_mk (st := s_law_shuffled) l6 c6 k6
  have b6 := F6.binds (ps := ["_law_pen_here", "_law_some"]) fun _ _ _ _ _ _ us hl => match us, hl with | [_, _], _ => rfl
  have F7 := fun_mk (st := s_law_worth) l7 c7 k7
  have b7 := F7.binds (ps := ["_law_scale_here", "_law_thing_here"]) fun _ _ _ _ _ _ us hl => match us, hl with | [_, _], _ => rfl
  have F8 := fun_mk (st := s_law_rule) l8 c8 k8
  have b8 := F8.binds (ps := ["_law_pen_here", "_law_greatest", "_law_near", "_law_deep"]) fun _ _ _ _ _ _ us hl => match us, hl with | [_, _, _, _], _ => rfl
  have F9 := fun_mk (st := s_law_far) l9 c9 k9
  have b9 := F9.binds (ps := ["_law_pen_here", "_law_upto"]) fun _ _ _ _ _ _ us hl => match us, hl with | [_, _], _ => rfl
  have F10 := fun_mk (st := s_law_edge) l10 c10 k10
  have b10 := F10.binds (ps := ["_law_pen_here", "_law_count"]) fun _ _ _ _ _ _ us hl => match us, hl with | [_, _], _ => rfl
  have F11 := fun_mk (st := s_law_step) l11 c11 k11
  have b11 := F11.binds (ps := ["_law_pen_here"]) fun _ _ _ _ _ _ us hl => match us, hl with | [_], _ => rfl
  have F12 := fun_mk (st := s_law_meet) l12 c12 k12
  have b12 := F12.binds (ps := ["_law_one", "_law_other"]) fun _ _ _ _ _ _ us hl => match us, hl with | [_, _], _ => rfl
  have F13 := fun_mk (st := s_law_odd) l13 c13 k13
  have b13 := F13.binds (ps := ["_law_pen_here"]) fun _ _ _ _ _ _ us hl => match us, hl with | [_], _ => rfl
  have F14 := fun_mk (st := s_law_bent) l14 c14 k14
  have b14 := F14.binds (ps := ["_law_pen_here", "_law_thing_here"]) fun _ _ _ _ _ _ us hl => match us, hl with | [_, _], _ => rfl
  have F15 := fun_mk (st := s_law_is_from) l15 c15 k15
  have b15 := F15.binds (ps := ["_law_thing_here", "_law_low", "_law_high"]) fun _ _ _ _ _ _ us hl => match us, hl with | [_, _, _], _ => rfl
  have F16 := fun_mk (st := s_law_is_scale) l16 c16 k16
  have b16 := F16.binds (ps := ["_law_thing_here", "_law_many", "_law_deep"]) fun _ _ _ _ _ _ us hl => match us, hl with | [_, _, _], _ => rfl
  have F17 := fun_mk (st := s_law_is_rule) l17 c17 k17
  have b17 := F17.binds (ps := ["_law_thing_here", "_law_many", "_law_deep"]) fun _ _ _ _ _ _ us hl => match us, hl with | [_, _, _], _ => rfl
  have F18 := fun_mk (st := s_is_whole) l18 c18 k18
  have b18 := F18.binds (ps := ["thing"]) fun _ _ _ _ _ _ us hl => match us, hl with | [_], _ => rfl
  have F19 := fun_mk (st := s_is_whole_from) l19 c19 k19
  have b19 := F19.binds (ps := ["thing", "least", "greatest"]) fun _ _ _ _ _ _ us hl => match us, hl with | [_, _, _], _ => rfl
  have F20 := fun_mk (st := s_is_size) l20 c20 k20
  have b20 := F20.binds (ps := ["thing", "many"]) fun _ _ _ _ _ _ us hl => match us, hl with | [_, _], _ => rfl
  have F21 := fun_mk (st := s_are_weights) l21 c21 k21
  have b21 := F21.binds (ps := ["thing", "many"]) fun _ _ _ _ _ _ us hl => match us, hl with | [_, _], _ => rfl
  have F22 := fun_mk (st := s_is_scale_within) l22 c22 k22
  have b22 := F22.binds (ps := ["thing", "many", "within"]) fun _ _ _ _ _ _ us hl => match us, hl with | [_, _, _], _ => rfl
  have F23 := fun_mk (st := s_is_scale) l23 c23 k23
  have b23 := F23.binds (ps := ["thing", "many"]) fun _ _ _ _ _ _ us hl => match us, hl with | [_, _], _ => rfl
  have F24 := fun_mk (st := s_is_worth) l24 c24 k24
  have b24 := F24.binds (ps := ["thing", "many"]) fun _ _ _ _ _ _ us hl => match us, hl with | [_, _], _ => rfl
  have F25 := fun_mk (st := s_is_rule_within) l25 c25 k25
  have b25 := F25.binds (ps := ["thing", "many", "within"]) fun _ _ _ _ _ _ us hl => match us, hl with | [_, _, _], _ => rfl
  have F26 := fun_mk (st := s_is_rule) l26 c26 k26
  have b26 := F26.binds (ps := ["thing", "many"]) fun _ _ _ _ _ _ us hl => match us, hl with | [_, _], _ => rfl
  have F27 := fun_mk (st := s_law) l27 c27 k27
  have b27 := F27.binds (ps := ["_law_script"]) fun _ _ _ _ _ _ us hl => match us, hl with | [_], _ => rfl
  have M : Bi mg := ⟨PySem.W.mg_none_of X G z0, PySem.W.mg_none_of X G z1, PySem.W.mg_none_of X G z2, PySem.W.mg_none_of X G z3, PySem.W.mg_none_of X G z4, PySem.W.mg_none_of X G z5, PySem.W.mg_none_of X G z6, PySem.W.mg_none_of X G z7, PySem.W.mg_none_of X G z8, PySem.W.mg_none_of X G z9, PySem.W.mg_none_of X G z10, PySem.W.mg_none_of X G z11, PySem.W.mg_none_of X G z12, PySem.W.mg_none_of X G z13⟩
  have C : Cs K mg := ⟨⟨y0, PySem.W.mg_of X G u0⟩, ⟨y1, PySem.W.mg_of X G u1⟩, ⟨pt2, PySem.W.mg_of X G u2, _, _, _, t2, rfl, rfl, (show 3 ≤ sizeLine by decide), .cons ⟨_, rfl⟩ (.cons ⟨_, rfl⟩ (.cons ⟨_, rfl⟩ (.nil)))⟩, ⟨pt3, PySem.W.mg_of X G u3, _, _, _, t3, rfl, rfl, (show 3 ≤ sizeLine by decide), .cons ⟨_, rfl⟩ (.cons ⟨_, rfl⟩ (.cons ⟨_, rfl⟩ (.nil)))⟩, ⟨y4, PySem.W.mg_of X G u4⟩, ⟨y5, PySem.W.mg_of X G u5⟩, ⟨y6, PySem.W.mg_of X G u6⟩, ⟨y7, PySem.W.mg_of X G u7⟩⟩
  refine ⟨PySem.W.fnOf "law" "law" (defArgs s_law) (defBody s_law) (defScope s_law) .none kV27 dc27 pm27 an27 cd27 ct27, fun s v => .of_eq rfl, fun base _ _ => ?_⟩
  have WO0 : Ow l.prog w K mg base "_law_pen" 1 ["_law_script"] (spPen K) := ⟨f0, _, okO_law_pen F0 M C , PySem.W.mg_of X G a0, k0, b0⟩
  have WO1 : Ow l.prog w K mg base "_law_draw" 1 ["_law_pen_here", "_law_many"] (spDraw) := ⟨f1, _, okO_law_draw F1 M C , PySem.W.mg_of X G a1, k1, b1⟩
  have W2 : Ow l.prog w K mg base "_law_thing" 2 ["_law_pen_here", "_law_many", "_law_upto", "_law_by"] (spD cThing) := ⟨f2, _, ok_law_thing F2 M C WO1.draw, PySem.W.mg_of X G a2, k2, b2⟩
  have W3 : Ow l.prog w K mg base "_law_pick" 2 ["_law_pen_here", "_law_some"] (spD cPick) := ⟨f3, _, ok_law_pick F3 M C WO1.draw, PySem.W.mg_of X G a3, k3, b3⟩
  have W4 : Ow l.prog w K mg base "_law_scale" 7 ["_law_pen_here", "_law_many", "_law_deep"] (spD (cScale 5)) := ⟨f4, _, rec_law_scale F4 M C WO1.draw W3 (PySem.W.mg_of X G a4) k4 b4 5, PySem.W.mg_of X G a4, k4, b4⟩
  have W5 : Ow l.prog w K mg base "_law_bound" 3 ["_law_pen_here", "_law_count", "_law_other"] (spD cBound) := ⟨f5, _, ok_law_bound F5 M C W3 WO1.draw, PySem.W.mg_of X G a5, k5, b5⟩
  have W6 : Ow l.prog w K mg base "_law_shuffled" 2 ["_law_pen_here", "_law_some"] (spD cShuf) := ⟨f6, _, ok_law_shuffled F6 M C WO1.draw, PySem.W.mg_of X G a6, k6, b6⟩
  have W7 : Ow l.prog w K mg base "_law_worth" 6 ["_law_scale_here", "_law_thing_here"] (spD (cWorthL 6)) := ⟨f7, _, rec_law_worth F7 M C  (PySem.W.mg_of X G a7) k7 b7 6, PySem.W.mg_of X G a7, k7, b7⟩
  have W8 : Ow l.prog w K mg base "_law_rule" 12 ["_law_pen_here", "_law_greatest", "_law_near", "_law_deep"] (spD (cRule 5)) := ⟨f8, _, rec_law_rule F8 M C WO1.draw W5 W4 W7 W6 (PySem.W.mg_of X G a8) k8 b8 5, PySem.W.mg_of X G a8, k8, b8⟩
  have W9 : Ow l.prog w K mg base "_law_far" 2 ["_law_pen_here", "_law_upto"] (spD cFar) := ⟨f9, _, ok_law_far F9 M C WO1.draw, PySem.W.mg_of X G a9, k9, b9⟩
  have W10 : Ow l.prog w K mg base "_law_edge" 8 ["_law_pen_here", "_law_count"] (spD cEdge) := ⟨f10, _, ok_law_edge F10 M C W3 W4 WO1.draw W9, PySem.W.mg_of X G a10, k10, b10⟩
  have W11 : Ow l.prog w K mg base "_law_step" 3 ["_law_pen_here"] (spD cStep) := ⟨f11, _, ok_law_step F11 M C W3, PySem.W.mg_of X G a11, k11, b11⟩
  have W12 : Ow l.prog w K mg base "_law_meet" 1 ["_law_one", "_law_other"] (spD cMeetL) := ⟨f12, _, ok_law_meet F12 M C , PySem.W.mg_of X G a12, k12, b12⟩
  have W13 : Ow l.prog w K mg base "_law_odd" 3 ["_law_pen_here"] (spD cOd) := ⟨f13, _, ok_law_odd F13 M C W3, PySem.W.mg_of X G a13, k13, b13⟩
  have W14 : Ow l.prog w K mg base "_law_bent" 23 ["_law_pen_here", "_law_thing_here"] (spD (cBn 20)) := ⟨f14, _, rec_law_bent F14 M C WO1.draw W3 W13 (PySem.W.mg_of X G a14) k14 b14 20, PySem.W.mg_of X G a14, k14, b14⟩
  have W15 : Ow l.prog w K mg base "_law_is_from" 1 ["_law_thing_here", "_law_low", "_law_high"] (spD cIsWF) := ⟨f15, _, ok_law_is_from F15 M C , PySem.W.mg_of X G a15, k15, b15⟩
  have W16 : Ow l.prog w K mg base "_law_is_scale" 6 ["_law_thing_here", "_law_many", "_law_deep"] (spD (cScW 5)) := ⟨f16, _, rec_law_is_scale F16 M C W15 (PySem.W.mg_of X G a16) k16 b16 5, PySem.W.mg_of X G a16, k16, b16⟩
  have W17 : Ow l.prog w K mg base "_law_is_rule" 11 ["_law_thing_here", "_law_many", "_law_deep"] (spD (cRuW 5)) := ⟨f17, _, rec_law_is_rule F17 M C W15 W16 (PySem.W.mg_of X G a17) k17 b17 5, PySem.W.mg_of X G a17, k17, b17⟩
  have W18 : Ow l.prog w K mg base "is_whole" 1 ["thing"] (spD cIsW) := ⟨f18, _, ok_is_whole F18 M C , PySem.W.mg_of X G a18, k18, b18⟩
  have W19 : Ow l.prog w K mg base "is_whole_from" 2 ["thing", "least", "greatest"] (spD cIsWF) := ⟨f19, _, ok_is_whole_from F19 M C W18, PySem.W.mg_of X G a19, k19, b19⟩
  have W20 : Ow l.prog w K mg base "is_size" 3 ["thing", "many"] (spD cIsSize) := ⟨f20, _, ok_is_size F20 M C W19, PySem.W.mg_of X G a20, k20, b20⟩
  have W21 : Ow l.prog w K mg base "are_weights" 3 ["thing", "many"] (spD cWts) := ⟨f21, _, ok_are_weights F21 M C W19, PySem.W.mg_of X G a21, k21, b21⟩
  have W22 : Ow l.prog w K mg base "is_scale_within" 8 ["thing", "many", "within"] (spD (cScW 5)) := ⟨f22, _, rec_is_scale_within F22 M C W21 (PySem.W.mg_of X G a22) k22 b22 5, PySem.W.mg_of X G a22, k22, b22⟩
  have W23 : Ow l.prog w K mg base "is_scale" 9 ["thing", "many"] (spD cSc) := ⟨f23, _, ok_is_scale F23 M C W22, PySem.W.mg_of X G a23, k23, b23⟩
  have W24 : Ow l.prog w K mg base "is_worth" 10 ["thing", "many"] (spD cIsWorth) := ⟨f24, _, ok_is_worth F24 M C W19 W23, PySem.W.mg_of X G a24, k24, b24⟩
  have W25 : Ow l.prog w K mg base "is_rule_within" 15 ["thing", "many", "within"] (spD (cRuW 5)) := ⟨f25, _, rec_is_rule_within F25 M C W20 W24 (PySem.W.mg_of X G a25) k25 b25 5, PySem.W.mg_of X G a25, k25, b25⟩
  have W26 : Ow l.prog w K mg base "is_rule" 16 ["thing", "many"] (spD cRu) := ⟨f26, _, ok_is_rule F26 M C W25, PySem.W.mg_of X G a26, k26, b26⟩
  exact ok_law F27 M C  WO0 W11 WO1.draw W2 W8 W12 W10 W3 W6 W14 W17 W26
theorem walk {l : PySem.W.OpenLaw} {q : Program} {loose : List Str} {XP : (Str → Option Value) → Heap → Prop} {YP : World → Heap → Prop} {d : DefRec} {K : Params → PySem.W.Frag} (himp : importsNone q = true) (hn : l.most = some 63) (hdf : d.params.defaults = [])
    (hY : ∀ (w : World) (h : Heap), YP w h → (K w.params).In h)
    (F : ∀ (w : World) (mg : Str → Option Value) (fa : Addr) (h : Heap), (K w.params).In h → h.Ns mainGlobals mg → mg d.name = some (.ref fa) →
      ∃ fd : FuncData, (∀ (s : Shared) (u : Value), BindsTo s fd ⟨[u], []⟩ [("_law_script", u)]) ∧ ∀ base : Heap, (K w.params).In base → base.Ns mainGlobals mg → FnOk l.prog w (K w.params) mg base CX0 24 fa fd ["_law_script"] (spLaw (K w.params))) :
    PySem.W.WalkO q loose XP YP l.row.toRowW d [] (fun f vs => PySem.call f vs) :=
  L2.walk_of (n := 63) (k := 24) (x := "_law_script") (CX := fun _ => CX0) (sp := fun w => spLaw (K w.params)) himp hn (by decide) hdf ⟨rfl, by decide, by decide, rfl⟩ hY F (fun _ _ a ns hl _ hS => ⟨a, ns, rfl, hS, hl, fun _ => rfl⟩) fun _ _ _ _ _ z => z
end K08
open PySem PySem.W PyProof.Rows
set_option maxRecDepth 100000 in
set_option maxHeartbeats 0 in
theorem PySem.Challenge.cw_gapgrades_k08_what_is_a_rule_holds : PySem.Challenge.rw_gapgrades_k08_what_is_a_rule.Holds := by
  w_on; o_law; k_head; (case hw => w_witness2)
  k_fill
  refine K08.walk (l := PySem.Challenge.rw_gapgrades_k08_what_is_a_rule) (by decide +kernel) rfl rfl (fun w h Y => PySem.W.kIn_of Y) ?F
  case F =>
    intro w mg fa h KX G hmg
    refine' K08.all_mk KX G hmg ?a0 ?l0 ?c0 ?k0 ?a1 ?l1 ?c1 ?k1 ?a2 ?l2 ?c2 ?k2 ?a3 ?l3 ?c3 ?k3 ?a4 ?l4 ?c4 ?k4 ?a5 ?l5 ?c5 ?k5 ?a6 ?l6 ?c6 ?k6 ?a7 ?l7 ?c7 ?k7 ?a8 ?l8 ?c8 ?k8 ?a9 ?l9 ?c9 ?k9 ?a10 ?l10 ?c10 ?k10 ?a11 ?l11 ?c11 ?k11 ?a12 ?l12 ?c12 ?k12 ?a13 ?l13 ?c13 ?k13 ?a14 ?l14 ?c14 ?k14 ?a15 ?l15 ?c15 ?k15 ?a16 ?l16 ?c16 ?k16 ?a17 ?l17 ?c17 ?k17 ?a18 ?l18 ?c18 ?k18 ?a19 ?l19 ?c19 ?k19 ?a20 ?l20 ?c20 ?k20 ?a21 ?l21 ?c21 ?k21 ?a22 ?l22 ?c22 ?k22 ?a23 ?l23 ?c23 ?k23 ?a24 ?l24 ?c24 ?k24 ?a25 ?l25 ?c25 ?k25 ?a26 ?l26 ?c26 ?k26 ?a27 ?l27 ?c27 ?k27  ?z0 ?z1 ?z2 ?z3 ?z4 ?z5 ?z6 ?z7 ?z8 ?z9 ?z10 ?z11 ?z12 ?z13 ?u0 ?u1 ?u2 ?t2 ?u3 ?t3 ?u4 ?u5 ?u6 ?u7
    (case a0 => k_is); (case l0 => k_is); (case c0 => k_is); (case k0 => k_is)
    (case a1 => k_is); (case l1 => k_is); (case c1 => k_is); (case k1 => k_is)
    (case a2 => k_is); (case l2 => k_is); (case c2 => k_is); (case k2 => k_is)
    (case a3 => k_is); (case l3 => k_is); (case c3 => k_is); (case k3 => k_is)
    (case a4 => k_is); (case l4 => k_is); (case c4 => k_is); (case k4 => k_is)
    (case a5 => k_is); (case l5 => k_is); (case c5 => k_is); (case k5 => k_is)
    (case a6 => k_is); (case l6 => k_is); (case c6 => k_is); (case k6 => k_is)
    (case a7 => k_is); (case l7 => k_is); (case c7 => k_is); (case k7 => k_is)
    (case a8 => k_is); (case l8 => k_is); (case c8 => k_is); (case k8 => k_is)
    (case a9 => k_is); (case l9 => k_is); (case c9 => k_is); (case k9 => k_is)
    (case a10 => k_is); (case l10 => k_is); (case c10 => k_is); (case k10 => k_is)
    (case a11 => k_is); (case l11 => k_is); (case c11 => k_is); (case k11 => k_is)
    (case a12 => k_is); (case l12 => k_is); (case c12 => k_is); (case k12 => k_is)
    (case a13 => k_is); (case l13 => k_is); (case c13 => k_is); (case k13 => k_is)
    (case a14 => k_is); (case l14 => k_is); (case c14 => k_is); (case k14 => k_is)
    (case a15 => k_is); (case l15 => k_is); (case c15 => k_is); (case k15 => k_is)
    (case a16 => k_is); (case l16 => k_is); (case c16 => k_is); (case k16 => k_is)
    (case a17 => k_is); (case l17 => k_is); (case c17 => k_is); (case k17 => k_is)
    (case a18 => k_is); (case l18 => k_is); (case c18 => k_is); (case k18 => k_is)
    (case a19 => k_is); (case l19 => k_is); (case c19 => k_is); (case k19 => k_is)
    (case a20 => k_is); (case l20 => k_is); (case c20 => k_is); (case k20 => k_is)
    (case a21 => k_is); (case l21 => k_is); (case c21 => k_is); (case k21 => k_is)
    (case a22 => k_is); (case l22 => k_is); (case c22 => k_is); (case k22 => k_is)
    (case a23 => k_is); (case l23 => k_is); (case c23 => k_is); (case k23 => k_is)
    (case a24 => k_is); (case l24 => k_is); (case c24 => k_is); (case k24 => k_is)
    (case a25 => k_is); (case l25 => k_is); (case c25 => k_is); (case k25 => k_is)
    (case a26 => k_is); (case l26 => k_is); (case c26 => k_is); (case k26 => k_is)
    (case a27 => k_is); (case l27 => k_is); (case c27 => k_is); (case k27 => k_is)
    (case z0 => k_is); (case z1 => k_is); (case z2 => k_is); (case z3 => k_is); (case z4 => k_is); (case z5 => k_is); (case z6 => k_is); (case z7 => k_is); (case z8 => k_is); (case z9 => k_is); (case z10 => k_is); (case z11 => k_is); (case z12 => k_is); (case z13 => k_is); (case u0 => k_is); (case u1 => k_is); (case u2 => k_is); (case t2 => k_is); (case u3 => k_is); (case t3 => k_is); (case u4 => k_is); (case u5 => k_is); (case u6 => k_is); (case u7 => k_is)
